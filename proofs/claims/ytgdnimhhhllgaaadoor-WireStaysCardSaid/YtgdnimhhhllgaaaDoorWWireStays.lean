/- WireStays, walked. -/
import Derived.Test.YtgdnimhhhllgaaaDoorWireLaw3
namespace Go.Proofs.YtgdnimhhhllgaaaDoor
open Go.RowKit

theorem spot_err (a b : Int) : ∀ w : World, (Instr.field 46 (.agg #[.int .i64 a, .int .i64 b]) 1).run Tryd.prog w = .ok (.int .i64 b) w := fun _ => by kernel_rfl

set_option maxRecDepth 1000000 in
set_option maxHeartbeats 4000000 in
theorem walkWireStays (a0 : Option Addr) (len0 cap0 : Nat) (z0 : List Int) (a1 : Option Addr) (len1 cap1 : Nat) (z1 : List Item) (a2 : Option Addr) (len2 cap2 : Nat) (z2 : List Item) (w : World) (w0 : IsRow .u8 w a0 len0 cap0 z0) (w1 : Items w w.heap.size a1 len1 z1) (c1 : len1 ≤ cap1 ∧ cap1 ≤ maxLen) (w2 : Items w w.heap.size a2 len2 z2) (c2 : len2 ≤ cap2 ∧ cap2 ≤ maxLen) (hL : Tab w) :
    Calls Tryd.prog 6 #[.slice a0 len0 cap0, .slice a1 len1 cap1, .slice a2 len2 cap2] w fun e w' => e = .returned (.bool true) ∧ Below w.heap.size w w' := by
  have hs := hL.size
  have HT := kp hL
  obtain ⟨bs, hr, hb, hm, hlc, hcm⟩ := w0.bytes
  have HR := kp hr; have HN := kp hb
  have HL0 := kp hr.len
  have HI1 := kp w1; have HI2 := kp w2
  obtain ⟨hc11, hc12⟩ := c1
  obtain ⟨hc21, hc22⟩ := c2
  have hcm1 := hc12; have hcm2 := hc22
  unfold maxLen at hcm1 hcm2 hm hcm
  have hl164 : len1 ≤ 9223372036854775807 := by omega
  have hl264 : len2 ≤ 9223372036854775807 := by omega
  clear hL w0 w1 w2 hr hb hcm1 hcm2
  by_cases h0 : 600 < len0
  · go_enter Tryd.func6, Tryd.ntmps6
    go_wp2_with fail
    refine (awake_any w HT.out hs).mono ?_
    rintro e w1 ⟨rfl, hb1⟩
    have HB1 := kp hb1
    have hs1 := hb1.size
    clear hb1
    go_wp2_with fail
    refine (awake_any w1 (HT.out.below HB1.out hs) (by omega)).mono ?_
    rintro e w2 ⟨rfl, hb2⟩
    have HB2 := kp (HB1.out.trans (hb2.mono hs1))
    clear hb2
    go_wp2
    go_ret
    exact ⟨rfl, HB2.out⟩
  by_cases hl1 : 600 < tot z1
  · have HLong : Kept (decide (600 < tot z1) = true) := kp (decide_eq_true hl1)
    clear hl1
    go_enter Tryd.func6, Tryd.ntmps6
    go_wp2_with fail
    refine (awake_any w HT.out hs).mono ?_
    rintro e w1 ⟨rfl, hb1⟩
    have HB1 := kp hb1
    have hs1 := hb1.size
    clear hb1
    go_wp2_with fail
    refine (long_any w.heap.size a1 len1 cap1 z1 w1 (HI1.out.below HB1.out) (by omega) true HLong.out).mono ?_
    rintro e w' ⟨rfl, rfl⟩
    go_wp2_with fail
    refine (awake_any w1 (HT.out.below HB1.out hs) (by omega)).mono ?_
    rintro e w2 ⟨rfl, hb2⟩
    have HB2 := kp (HB1.out.trans (hb2.mono hs1))
    clear hb2
    go_wp2
    go_ret
    exact ⟨rfl, HB2.out⟩
  by_cases hl2 : 600 < tot z2
  · have HLong : Kept (decide (600 < tot z1) = false) := kp (decide_eq_false hl1)
    have HLong2 : Kept (decide (600 < tot z2) = true) := kp (decide_eq_true hl2)
    clear hl1 hl2
    go_enter Tryd.func6, Tryd.ntmps6
    go_wp2_with fail
    refine (awake_any w HT.out hs).mono ?_
    rintro e w1 ⟨rfl, hb1⟩
    have HB1 := kp hb1
    have hs1 := hb1.size
    clear hb1
    go_wp2_with fail
    refine (long_any w.heap.size a1 len1 cap1 z1 w1 (HI1.out.below HB1.out) (by omega) false HLong.out).mono ?_
    rintro e w' ⟨rfl, rfl⟩
    go_wp2_with fail
    refine (long_any w.heap.size a2 len2 cap2 z2 w1 (HI2.out.below HB1.out) (by omega) true HLong2.out).mono ?_
    rintro e w' ⟨rfl, rfl⟩
    go_wp2_with fail
    refine (awake_any w1 (HT.out.below HB1.out hs) (by omega)).mono ?_
    rintro e w2 ⟨rfl, hb2⟩
    have HB2 := kp (HB1.out.trans (hb2.mono hs1))
    clear hb2
    go_wp2
    go_ret
    exact ⟨rfl, HB2.out⟩
  · have HLong : Kept (decide (600 < tot z1) = false) := kp (decide_eq_false hl1)
    have HLong2 : Kept (decide (600 < tot z2) = false) := kp (decide_eq_false hl2)
    have hn1 : len1 ≤ 600 := by rw [← HI1.out.1.len]; exact tot_len (by omega)
    have hn2 : len2 ≤ 600 := by rw [← HI2.out.1.len]; exact tot_len (by omega)
    clear hl1 hl2
    go_enter Tryd.func6, Tryd.ntmps6
    go_wp2_with fail
    refine (awake_any w HT.out hs).mono ?_
    rintro e w1 ⟨rfl, hb1⟩
    have HB1 := kp hb1
    have hs1 := hb1.size
    clear hb1
    go_wp2_with fail
    refine (long_any w.heap.size a1 len1 cap1 z1 w1 (HI1.out.below HB1.out) (by omega) false HLong.out).mono ?_
    rintro e w' ⟨rfl, rfl⟩
    go_wp2_with fail
    refine (long_any w.heap.size a2 len2 cap2 z2 w1 (HI2.out.below HB1.out) (by omega) false HLong2.out).mono ?_
    rintro e w' ⟨rfl, rfl⟩
    go_wp2_with (go_at_call 16; go_must (refine (pd_new w.heap.size a0 len0 cap0 bs w1 (HR.out.below HB1.out) (by omega) hs1).mono ?_); rintro e w3 ⟨g3, A3, c3, rfl, hg3, hk3, hr3, hc3, hm3, hb3⟩; have HK3 := kp hk3; have HR3 := kp hr3; have HM3 := kp hm3; have HB3 := kp (HB1.out.trans (hb3.mono hs1)); clear hk3 hr3 hm3 hb3)
    have hwg : w.heap.size ≤ g3 := by omega
    go_loopw [8] (fun v8 wr => ∃ (i : Nat) (s : R.St), i ≤ len1 ∧ v8 = .int .i64 i ∧ R.Ok bs s ∧ R.Fit s ∧ Pd wr g3 A3 len0 c3 s ∧ Row byteV wr g3 A3 len0 bs ∧ Below w.heap.size w wr) (fun v8 _ => len1 - (intOf v8).toNat)
    case atStart => exact ⟨0, ⟨0, 0, 0⟩, by omega, rfl, ⟨Nat.zero_le _, Nat.zero_le _, by decide⟩, rfl, HK3.out, HR3.out, HB3.out⟩
    case round =>
      clear HK3 HR3 HB3
      obtain ⟨i, s, hi, rfl, hok, hfit, hk, hr, hb⟩ := hrel
      have HOk := kp hok; have HFit := kp hfit; have HK := kp hk; have HR3 := kp hr; have HB := kp hb
      have hsz := hb.size
      have hgw := hk.lt
      have hat : s.at_ ≤ len0 := by rw [← HL0.out]; exact hok.1
      have hwh : s.wh ≤ len0 := by rw [← HL0.out]; exact hok.2.1
      clear hok hfit hk hr hb
      by_cases hgo : i < len1 ∧ s.why = 0
      · obtain ⟨hlt, hw0⟩ := hgo
        obtain ⟨ad, x, rfl, hab, hx, hxok, he0, he1, he2, he3⟩ := (HI1.out.below HB.out).get hlt
        have HOx := kp hxok
        obtain ⟨out, s', ht⟩ : ∃ out s', R.textSt bs s x = (out, s') := ⟨_, _, rfl⟩
        have HTx := kp ht
        have hz : ((s.why : Int) == 0) = true := by simp; omega
        have hfd := spot_err (s.wh : Int) (s.why : Int)
        have hcells : Kept (∀ W, Below wr.heap.size wr W → W.cell? (ad.add (i * 4)) = some (.int .u8 (x.do_ : Int)) ∧ W.cell? ⟨(ad.add (i * 4)).block, (ad.add (i * 4)).off + 1, none⟩ = some (.int .i64 x.n) ∧
            W.cell? ⟨(ad.add (i * 4)).block, (ad.add (i * 4)).off + 2, none⟩ = some (.slice x.A x.len x.cap) ∧ W.cell? ⟨(ad.add (i * 4)).block, (ad.add (i * 4)).off + 3, none⟩ = some (.int .u32 (x.m : Int))) := kp fun W hW => by
          have hb0 : (ad.add (i * 4)).block < wr.heap.size := by rw [add_block]; omega
          exact ⟨by rw [hW.cell (by exact hb0)]; exact he0, by rw [hW.cell (by exact hb0)]; exact he1, by rw [hW.cell (by exact hb0)]; exact he2, by rw [hW.cell (by exact hb0)]; exact he3⟩
        clear hx hxok ht he0 he1 he2 he3 hw0
        go_wp2_with (first
          | (go_at_call 24; go_must (refine (pd_fault g3 A3 len0 c3 s HFit.out wr HK.out).mono ?_); rintro e w4 ⟨rfl, hb4⟩
             obtain ⟨he0, he1, he2, he3⟩ := hcells.out w4 hb4
             have HB4 := kp hb4
             have hsz4 := hb4.size
             clear hb4)
          | (go_at_call 28; go_must (refine (read_any g3 g3 A3 len0 c3 bs s HOk.out x HOx.out.d HOx.out.n out s' HTx.out w4 (Blk.below HK.out HB4.out hgw) (HR3.out.below (HB4.out.mono (by omega))) HN.out (by omega) hc3 HM3.out (Nat.le_refl _) (by omega)).mono ?_); rintro e w5 ⟨rfl, hk5, hg5, hr5⟩; have HK5 := kp hk5; have HG5 := kp hg5; have HR5 := kp hr5; clear hk5 hg5 hr5))
        go_roundw
        case rel =>
          have h1 := R.text_ok HN.out HOk.out x
          have h2 := R.text_fit (bs := bs) HFit.out x
          rw [HTx.out] at h1 h2
          exact ⟨i + 1, s', by omega, by go_num, h1, h2, HK5.out, HR5.out, (HB.out.trans (HB4.out.mono hsz)).grown HG5.out (by omega) (by intro k e; cases e; exact hwg)⟩
        case measure => simp [intOf]; omega
      · have hwt : s.why = 0 ∨ s.why ≠ 0 := by omega
        rcases hwt with hwy | hwy
        · have hge : len1 ≤ i := Nat.le_of_not_lt fun h => hgo ⟨h, hwy⟩
          have hz : ((s.why : Int) == 0) = true := by simp; omega
          clear hgo hwy
          go_wp2_with (first
            | (go_at_call 24; go_must (refine (pd_fault g3 A3 len0 c3 s HFit.out wr HK.out).mono ?_); rintro e w4 ⟨rfl, hb4⟩
               have HK4 : Kept (Pd w4 g3 A3 len0 c3 s) := kp (Blk.below HK.out hb4 hgw)
               have HB4 := kp (HB.out.trans (hb4.mono hsz))
               have hsz4 := HB4.out.size
               clear hb4)
            | (go_at_call 25; go_must (refine (pd_left g3 A3 len0 c3 s w4 HK4.out hat (by omega)).mono ?_); rintro e w5 ⟨rfl, m, hm5⟩
               have HB5 : Kept (Below w.heap.size w w5) := kp (by rw [hm5]; exact below_drewN HB4.out _)
               have hsz5 := HB5.out.size
               clear hm5)
            | ((with_reducible show wpList _ _ _ (⟨some 9, _, _, _, _, _⟩ :: _) _ _); go_must (refine wpList_alloc_zero rfl 46 rfl _ spot_zero ?_); intro g9 w6 hg9 hk6 hw6; have HK6 := kp hk6; have HW6 := kp (HB5.out.trans (hw6.mono hsz5)); have hsz6 := HW6.out.size; clear hk6 hw6)
            | ((with_reducible show wpList _ _ _ (⟨none, _, _, _, _, _⟩ :: _) _ _); go_must (refine wpList_store_blk rfl 46 (.tmp 9) (.tmp 49) rfl g9 [.int .i64 (s.wh : Int), .int .i64 (s.why : Int)] rfl rfl _ _ HK6.out spot_size rfl (spot_ones _ _) ?_); intro w7 hk7 hg7 hs7
               obtain ⟨hd0, hd1⟩ := spot_cells hk7
               have HB7 : Kept (Below w.heap.size w w7) := kp (HW6.out.grown hg7 hsz6 (by intro k e; cases e; omega))
               clear hk7 hg7))
          go_ret
          exact ⟨rfl, HB7.out⟩
        · have hz : ((s.why : Int) == 0) = false := by simp; omega
          have HWhy := kp hwy
          have hfd := spot_err (s.wh : Int) (s.why : Int)
          clear hgo hwy
          by_cases hlt : i < len1
          · go_wp2_with fail
            refine (pd_fault g3 A3 len0 c3 s HFit.out wr HK.out).mono ?_
            rintro e wx ⟨rfl, hbx⟩
            have HKx : Kept (Pd wx g3 A3 len0 c3 s) := kp (Blk.below HK.out hbx hgw)
            have HRx := kp (HR3.out.below (hbx.mono (by omega)))
            have HBx := kp (HB.out.trans (hbx.mono hsz))
            have hgx := HKx.out.lt
            clear hbx
            go_wp2_with (first
              | (go_at_call 24; go_must (refine (pd_fault g3 A3 len0 c3 s HFit.out wx HKx.out).mono ?_); rintro e w4 ⟨rfl, hb4⟩
                 have HK4 : Kept (Pd w4 g3 A3 len0 c3 s) := kp (Blk.below HKx.out hb4 HKx.out.lt)
                 have HR4 := kp (HRx.out.below (hb4.mono (Nat.le_of_lt HKx.out.lt)))
                 have HB4 := kp (HBx.out.trans (hb4.mono HBx.out.size))
                 have hsz4 := HB4.out.size
                 clear hb4)
              | (go_at_call 25; go_must (refine (pd_left g3 A3 len0 c3 s w4 HK4.out hat (by omega)).mono ?_); rintro e w5 ⟨rfl, m, hm5⟩
                 have HB5 : Kept (Below w.heap.size w w5) := kp (by rw [hm5]; exact below_drewN HB4.out _)
                 have HK5 : Kept (Pd w5 g3 A3 len0 c3 s) := kp (by rw [hm5]; exact HK4.out)
                 have HR5 : Kept (Row byteV w5 g3 A3 len0 bs) := kp (by rw [hm5]; exact HR4.out.drewN _)
                 have hsz5 := HB5.out.size
                 clear hm5)
              | ((with_reducible show wpList _ _ _ (⟨some 9, _, _, _, _, _⟩ :: _) _ _); go_must (refine wpList_alloc_zero rfl 46 rfl _ spot_zero ?_); intro g9 w6 hg9 hk6 hw6; have HK6 := kp hk6; have HW6 := kp (HB5.out.trans (hw6.mono hsz5)); have hsz6 := HW6.out.size
                 have HP6 : Kept (Pd w6 g3 A3 len0 c3 s) := kp (Blk.below HK5.out hw6 HK5.out.lt)
                 have HR6 := kp (HR5.out.below (hw6.mono (Nat.le_of_lt HK5.out.lt)))
                 have hgs5 := HK5.out.lt
                 clear hk6 hw6)
              | ((with_reducible show wpList _ _ _ (⟨none, _, _, _, _, _⟩ :: _) _ _); go_must (refine wpList_store_blk rfl 46 (.tmp 9) (.tmp 49) rfl g9 [.int .i64 (s.wh : Int), .int .i64 (s.why : Int)] rfl rfl _ _ HK6.out spot_size rfl (spot_ones _ _) ?_); intro w7 hk7 hg7 hs7
                 obtain ⟨hd0, hd1⟩ := spot_cells hk7
                 have HK7 := kp hk7
                 have HP7 : Kept (Pd w7 g3 A3 len0 c3 s) := kp (Blk.grown HP6.out hg7 (by intro e; cases e; omega))
                 have HR7 : Kept (Row byteV w7 g3 A3 len0 bs) := kp (HR6.out.turned hg7 (by have := HP6.out.lt; omega) (by omega))
                 have HB7 : Kept (Below w.heap.size w w7) := kp (HW6.out.grown hg7 hsz6 (by intro k e; cases e; omega))
                 clear hk7 hg7))
            go_loopw [11] (fun v11 wq => ∃ j : Nat, j ≤ len2 ∧ v11 = .int .i64 j ∧ Pd wq g3 A3 len0 c3 s ∧ Row byteV wq g3 A3 len0 bs ∧ Blk wq g9 46 [.int .i64 (s.wh : Int), .int .i64 (s.why : Int)] ∧ Below w.heap.size w wq) (fun v11 _ => len2 - (intOf v11).toNat)
            case atStart => exact ⟨0, by omega, rfl, HP7.out, HR7.out, HK7.out, HB7.out⟩
            case round =>
              have hne93 : g9 ≠ g3 := by omega
              clear HK7 HP7 HR7 HB7 hd0 hd1
              obtain ⟨j, hj, rfl, hkj, hrj, hbj, hwj⟩ := hrel
              have HKj := kp hkj; have HRj := kp hrj; have HSj := kp hbj; have HBj := kp hwj
              have hszj := hwj.size
              have hgj := hkj.lt
              clear hkj hrj hbj hwj
              by_cases hltj : j < len2
              · obtain ⟨ad2, x2, rfl, hab2, hx2, hxok2, hf0, hf1, hf2, hf3⟩ := (HI2.out.below HBj.out).get hltj
                have HOx2 := kp hxok2
                clear hx2 hxok2
                go_wp2_with (first
                  | (go_at_call 28; go_must (refine (read_none g3 g3 A3 len0 c3 bs s HOk.out HWhy.out x2 HOx2.out.d HOx2.out.n wr HKj.out HRj.out HN.out (by omega) hc3 HM3.out (Nat.le_refl _) (by omega)).mono ?_); rintro e w8 ⟨rfl, hk8, hg8, hr8⟩
                     have HK8 := kp hk8; have HR8 := kp hr8
                     have HS8 : Kept (Blk w8 g9 46 [.int .i64 (s.wh : Int), .int .i64 (s.why : Int)]) := kp (HSj.out.grown hg8 (by intro e; cases e; exact hne93 rfl))
                     have HB8 : Kept (Below w.heap.size w w8) := kp (HBj.out.grown hg8 hszj (by intro k e; cases e; exact hwg))
                     clear hk8 hr8 hg8))
                go_roundw
                case rel => exact ⟨j + 1, by omega, by go_num, HK8.out, HR8.out, HS8.out, HB8.out⟩
                case measure => simp [intOf]; omega
              · have hgej : len2 ≤ j := by omega
                have HPW : Kept (∀ W, Below wr.heap.size wr W → Pd W g3 A3 len0 c3 s) := kp fun W hW => Blk.below HKj.out hW hgj
                have HSW : Kept (∀ W, Below wr.heap.size wr W → W.cell? ⟨g9, 0, none⟩ = some (.int .i64 (s.wh : Int)) ∧ W.cell? ⟨g9, 1, none⟩ = some (.int .i64 (s.why : Int))) := kp fun W hW => spot_cells (HSj.out.below hW HSj.out.lt)
                clear hltj
                go_wp2
                apply region_list (.is _ :: .is _ :: .is _ :: .is _ :: .is _ :: .is _ :: .is _ :: .is _ :: .is _ :: .is _ :: .is _ :: .is _ :: .is _ :: .is _ :: .is _ :: .is _ :: .is _ :: .is _ :: .is _ :: .is _ :: .is _ :: .is _ :: .is _ :: .is _ :: .is _ :: .is _ :: .is _ :: .is _ :: [])
                  [[], [(0, 68)], [], [(1, 69), (2, 70)], [(3, 71)], [(4, 72)], [(5, 73), (4, 72)], [(4, 72)], [(6, 74), (7, 75), (4, 72)], [(4, 72), (8, 76)], [(9, 77)], [(10, 78)], [(11, 79), (10, 78)], [(12, 80), (10, 78)], [(10, 78), (13, 81)], [(14, 82)], [(15, 83)], [(16, 84), (15, 83)], [(17, 85), (15, 83)], [(15, 83), (18, 86)], [(19, 87)], [(20, 88)], [(21, 89), (20, 88)], [(20, 88)], [(23, 91), (20, 88)], [(22, 90), (24, 92), (20, 88)], [(20, 88), (25, 93)], [(26, 94)]]
                  [(0, 68), (1, 69), (2, 70), (3, 71), (4, 72), (5, 73), (6, 74), (7, 75), (8, 76), (9, 77), (10, 78), (11, 79), (12, 80), (13, 81), (14, 82), (15, 83), (16, 84), (17, 85), (18, 86), (19, 87), (20, 88), (21, 89), (22, 90), (23, 91), (24, 92), (25, 93), (26, 94), (27, 6)] (by kernel_rfl) (by kernel_rfl)
                case hob =>
                  refine ⟨?o0, ?o1, ?o2, ?o3, ?o4, ?o5, ?o6, ?o7, ?o8, ?o9, ?o10, ?o11, ?o12, ?o13, ?o14, ?o15, ?o16, ?o17, ?o18, ?o19, ?o20, ?o21, ?o22, ?o23, ?o24, ?o25, ?o26, ?o27, trivial⟩
                  case o0 => intro W hW; change wpList _ _ _ _ _ _; go_wp2; exact pure_post rfl rfl rfl
                  case o1 =>
                    intro W hW; rintro _ rfl; change wpList _ _ _ _ _ _
                    go_wp2_with fail
                    refine (pd_fault g3 A3 len0 c3 s HFit.out W (HPW.out W hW)).mono ?_
                    rintro e w2 ⟨rfl, hb2⟩
                    have HB2 := kp hb2; clear hb2
                    go_wp2
                    exact made_post rfl rfl rfl HB2.out rfl
                  case o2 =>
                    intro W hW; change wpList _ _ _ _ _ _
                    obtain ⟨hd0, hd1⟩ := HSW.out W hW
                    go_wp2; exact pure_post rfl rfl rfl
                  case o3 => intro W hW; rintro _ rfl; rintro _ rfl; change wpList _ _ _ _ _ _; go_wp2; exact pure_post rfl rfl rfl
                  case o4 => intro W hW; rintro _ rfl; change wpList _ _ _ _ _ _; go_wp2; exact pure_post rfl rfl rfl
                  case o5 => intro W hW; rintro _ rfl; change wpList _ _ _ _ _ _; go_wp2; exact pure_post rfl rfl rfl
                  case o6 =>
                    intro W hW; rintro _ rfl; rintro _ rfl; change wpList _ _ _ _ _ _
                    go_wp2_with fail
                    refine (pd_left g3 A3 len0 c3 s W (HPW.out W hW) hat (by omega)).mono ?_
                    rintro e w2 ⟨rfl, m, hm2⟩
                    have HB2 : Kept (Below W.heap.size W w2) := kp (by rw [hm2]; exact below_drewN (Below.refl _ _) _)
                    clear hm2
                    go_wp2
                    exact made_post rfl rfl rfl HB2.out rfl
                  case o7 => intro W hW; rintro _ rfl; change wpList _ _ _ _ _ _; go_wp2; exact pure_post rfl rfl rfl
                  case o8 => intro W hW; rintro _ rfl; rintro _ rfl; rintro _ rfl; change wpList _ _ _ _ _ _; go_wp2; exact pure_post rfl rfl rfl
                  case o9 => intro W hW; rintro _ rfl; rintro _ rfl; change wpList _ _ _ _ _ _; go_wp2; exact pure_post rfl rfl rfl
                  case o10 => intro W hW; rintro _ rfl; change wpList _ _ _ _ _ _; go_wp2; exact pure_post rfl rfl rfl
                  case o11 => intro W hW; rintro _ rfl; change wpList _ _ _ _ _ _; go_wp2; exact pure_post rfl rfl rfl
                  case o12 =>
                    intro W hW; rintro _ rfl; rintro _ rfl; change wpList _ _ _ _ _ _
                    go_wp2_with fail
                    refine (pd_done_why g3 A3 len0 c3 s W (HPW.out W hW) HWhy.out).mono ?_
                    rintro e w2 ⟨rfl, rfl⟩
                    go_wp2
                    exact pure_post rfl rfl rfl
                  case o13 => intro W hW; rintro _ rfl; rintro _ rfl; change wpList _ _ _ _ _ _; go_wp2; exact pure_post rfl rfl rfl
                  case o14 => intro W hW; rintro _ rfl; rintro _ rfl; change wpList _ _ _ _ _ _; go_wp2; exact pure_post rfl rfl rfl
                  case o15 => intro W hW; rintro _ rfl; change wpList _ _ _ _ _ _; go_wp2; exact pure_post rfl rfl rfl
                  case o16 => intro W hW; rintro _ rfl; change wpList _ _ _ _ _ _; go_wp2; exact pure_post rfl rfl rfl
                  case o17 =>
                    intro W hW; rintro _ rfl; rintro _ rfl; change wpList _ _ _ _ _ _
                    obtain ⟨hd0, hd1⟩ := HSW.out W hW
                    go_wp2; exact pure_post rfl rfl rfl
                  case o18 => intro W hW; rintro _ rfl; rintro _ rfl; change wpList _ _ _ _ _ _; go_wp2; exact pure_post rfl rfl rfl
                  case o19 => intro W hW; rintro _ rfl; rintro _ rfl; change wpList _ _ _ _ _ _; go_wp2; exact pure_post rfl rfl rfl
                  case o20 => intro W hW; rintro _ rfl; change wpList _ _ _ _ _ _; go_wp2; exact pure_post rfl rfl rfl
                  case o21 => intro W hW; rintro _ rfl; change wpList _ _ _ _ _ _; go_wp2; exact pure_post rfl rfl rfl
                  case o22 =>
                    intro W hW; rintro _ rfl; rintro _ rfl; change wpList _ _ _ _ _ _
                    obtain ⟨hd0, hd1⟩ := HSW.out W hW
                    go_wp2; exact pure_post rfl rfl rfl
                  case o23 => intro W hW; rintro _ rfl; change wpList _ _ _ _ _ _; go_wp2; exact pure_post rfl rfl rfl
                  case o24 => intro W hW; rintro _ rfl; rintro _ rfl; change wpList _ _ _ _ _ _; go_wp2; exact pure_post rfl rfl rfl
                  case o25 => intro W hW; rintro _ rfl; rintro _ rfl; rintro _ rfl; change wpList _ _ _ _ _ _; go_wp2; exact pure_post rfl rfl rfl
                  case o26 => intro W hW; rintro _ rfl; rintro _ rfl; change wpList _ _ _ _ _ _; go_wp2; exact pure_post rfl rfl rfl
                  case o27 => intro W hW; rintro _ rfl; change wpList _ _ _ _ _ _; go_wp2; exact pure_post rfl rfl rfl
                case hend =>
                  intro W hW; rintro _ rfl; rintro _ rfl; rintro _ rfl; rintro _ rfl; rintro _ rfl; rintro _ rfl; rintro _ rfl; rintro _ rfl; rintro _ rfl; rintro _ rfl; rintro _ rfl; rintro _ rfl; rintro _ rfl; rintro _ rfl; rintro _ rfl; rintro _ rfl; rintro _ rfl; rintro _ rfl; rintro _ rfl; rintro _ rfl; rintro _ rfl; rintro _ rfl; rintro _ rfl; rintro _ rfl; rintro _ rfl; rintro _ rfl; rintro _ rfl; rintro _ rfl
                  simp only [given, put_lit, List.set]
                  go_wp2
                  go_ret
                  exact ⟨rfl, HBj.out.trans (hW.mono hszj)⟩
          · have hge : len1 ≤ i := by omega
            clear hlt
            go_wp2_with (first
              | (go_at_call 24; go_must (refine (pd_fault g3 A3 len0 c3 s HFit.out wr HK.out).mono ?_); rintro e w4 ⟨rfl, hb4⟩
                 have HK4 : Kept (Pd w4 g3 A3 len0 c3 s) := kp (Blk.below HK.out hb4 HK.out.lt)
                 have HR4 := kp (HR3.out.below (hb4.mono (Nat.le_of_lt HK.out.lt)))
                 have HB4 := kp (HB.out.trans (hb4.mono HB.out.size))
                 have hsz4 := HB4.out.size
                 clear hb4)
              | (go_at_call 25; go_must (refine (pd_left g3 A3 len0 c3 s w4 HK4.out hat (by omega)).mono ?_); rintro e w5 ⟨rfl, m, hm5⟩
                 have HB5 : Kept (Below w.heap.size w w5) := kp (by rw [hm5]; exact below_drewN HB4.out _)
                 have HK5 : Kept (Pd w5 g3 A3 len0 c3 s) := kp (by rw [hm5]; exact HK4.out)
                 have HR5 : Kept (Row byteV w5 g3 A3 len0 bs) := kp (by rw [hm5]; exact HR4.out.drewN _)
                 have hsz5 := HB5.out.size
                 clear hm5)
              | ((with_reducible show wpList _ _ _ (⟨some 9, _, _, _, _, _⟩ :: _) _ _); go_must (refine wpList_alloc_zero rfl 46 rfl _ spot_zero ?_); intro g9 w6 hg9 hk6 hw6; have HK6 := kp hk6; have HW6 := kp (HB5.out.trans (hw6.mono hsz5)); have hsz6 := HW6.out.size
                 have HP6 : Kept (Pd w6 g3 A3 len0 c3 s) := kp (Blk.below HK5.out hw6 HK5.out.lt)
                 have HR6 := kp (HR5.out.below (hw6.mono (Nat.le_of_lt HK5.out.lt)))
                 have hgs5 := HK5.out.lt
                 clear hk6 hw6)
              | ((with_reducible show wpList _ _ _ (⟨none, _, _, _, _, _⟩ :: _) _ _); go_must (refine wpList_store_blk rfl 46 (.tmp 9) (.tmp 49) rfl g9 [.int .i64 (s.wh : Int), .int .i64 (s.why : Int)] rfl rfl _ _ HK6.out spot_size rfl (spot_ones _ _) ?_); intro w7 hk7 hg7 hs7
                 obtain ⟨hd0, hd1⟩ := spot_cells hk7
                 have HK7 := kp hk7
                 have HP7 : Kept (Pd w7 g3 A3 len0 c3 s) := kp (Blk.grown HP6.out hg7 (by intro e; cases e; omega))
                 have HR7 : Kept (Row byteV w7 g3 A3 len0 bs) := kp (HR6.out.turned hg7 (by have := HP6.out.lt; omega) (by omega))
                 have HB7 : Kept (Below w.heap.size w w7) := kp (HW6.out.grown hg7 hsz6 (by intro k e; cases e; omega))
                 clear hk7 hg7))
            go_loopw [11] (fun v11 wq => ∃ j : Nat, j ≤ len2 ∧ v11 = .int .i64 j ∧ Pd wq g3 A3 len0 c3 s ∧ Row byteV wq g3 A3 len0 bs ∧ Blk wq g9 46 [.int .i64 (s.wh : Int), .int .i64 (s.why : Int)] ∧ Below w.heap.size w wq) (fun v11 _ => len2 - (intOf v11).toNat)
            case atStart => exact ⟨0, by omega, rfl, HP7.out, HR7.out, HK7.out, HB7.out⟩
            case round =>
              have hne93 : g9 ≠ g3 := by omega
              clear HK7 HP7 HR7 HB7 hd0 hd1
              obtain ⟨j, hj, rfl, hkj, hrj, hbj, hwj⟩ := hrel
              have HKj := kp hkj; have HRj := kp hrj; have HSj := kp hbj; have HBj := kp hwj
              have hszj := hwj.size
              have hgj := hkj.lt
              clear hkj hrj hbj hwj
              by_cases hltj : j < len2
              · obtain ⟨ad2, x2, rfl, hab2, hx2, hxok2, hf0, hf1, hf2, hf3⟩ := (HI2.out.below HBj.out).get hltj
                have HOx2 := kp hxok2
                clear hx2 hxok2
                go_wp2_with (first
                  | (go_at_call 28; go_must (refine (read_none g3 g3 A3 len0 c3 bs s HOk.out HWhy.out x2 HOx2.out.d HOx2.out.n wr HKj.out HRj.out HN.out (by omega) hc3 HM3.out (Nat.le_refl _) (by omega)).mono ?_); rintro e w8 ⟨rfl, hk8, hg8, hr8⟩
                     have HK8 := kp hk8; have HR8 := kp hr8
                     have HS8 : Kept (Blk w8 g9 46 [.int .i64 (s.wh : Int), .int .i64 (s.why : Int)]) := kp (HSj.out.grown hg8 (by intro e; cases e; exact hne93 rfl))
                     have HB8 : Kept (Below w.heap.size w w8) := kp (HBj.out.grown hg8 hszj (by intro k e; cases e; exact hwg))
                     clear hk8 hr8 hg8))
                go_roundw
                case rel => exact ⟨j + 1, by omega, by go_num, HK8.out, HR8.out, HS8.out, HB8.out⟩
                case measure => simp [intOf]; omega
              · have hgej : len2 ≤ j := by omega
                have HPW : Kept (∀ W, Below wr.heap.size wr W → Pd W g3 A3 len0 c3 s) := kp fun W hW => Blk.below HKj.out hW hgj
                have HSW : Kept (∀ W, Below wr.heap.size wr W → W.cell? ⟨g9, 0, none⟩ = some (.int .i64 (s.wh : Int)) ∧ W.cell? ⟨g9, 1, none⟩ = some (.int .i64 (s.why : Int))) := kp fun W hW => spot_cells (HSj.out.below hW HSj.out.lt)
                clear hltj
                go_wp2
                apply region_list (.is _ :: .is _ :: .is _ :: .is _ :: .is _ :: .is _ :: .is _ :: .is _ :: .is _ :: .is _ :: .is _ :: .is _ :: .is _ :: .is _ :: .is _ :: .is _ :: .is _ :: .is _ :: .is _ :: .is _ :: .is _ :: .is _ :: .is _ :: .is _ :: .is _ :: .is _ :: .is _ :: .is _ :: [])
                  [[], [(0, 68)], [], [(1, 69), (2, 70)], [(3, 71)], [(4, 72)], [(5, 73), (4, 72)], [(4, 72)], [(6, 74), (7, 75), (4, 72)], [(4, 72), (8, 76)], [(9, 77)], [(10, 78)], [(11, 79), (10, 78)], [(12, 80), (10, 78)], [(10, 78), (13, 81)], [(14, 82)], [(15, 83)], [(16, 84), (15, 83)], [(17, 85), (15, 83)], [(15, 83), (18, 86)], [(19, 87)], [(20, 88)], [(21, 89), (20, 88)], [(20, 88)], [(23, 91), (20, 88)], [(22, 90), (24, 92), (20, 88)], [(20, 88), (25, 93)], [(26, 94)]]
                  [(0, 68), (1, 69), (2, 70), (3, 71), (4, 72), (5, 73), (6, 74), (7, 75), (8, 76), (9, 77), (10, 78), (11, 79), (12, 80), (13, 81), (14, 82), (15, 83), (16, 84), (17, 85), (18, 86), (19, 87), (20, 88), (21, 89), (22, 90), (23, 91), (24, 92), (25, 93), (26, 94), (27, 6)] (by kernel_rfl) (by kernel_rfl)
                case hob =>
                  refine ⟨?o0, ?o1, ?o2, ?o3, ?o4, ?o5, ?o6, ?o7, ?o8, ?o9, ?o10, ?o11, ?o12, ?o13, ?o14, ?o15, ?o16, ?o17, ?o18, ?o19, ?o20, ?o21, ?o22, ?o23, ?o24, ?o25, ?o26, ?o27, trivial⟩
                  case o0 => intro W hW; change wpList _ _ _ _ _ _; go_wp2; exact pure_post rfl rfl rfl
                  case o1 =>
                    intro W hW; rintro _ rfl; change wpList _ _ _ _ _ _
                    go_wp2_with fail
                    refine (pd_fault g3 A3 len0 c3 s HFit.out W (HPW.out W hW)).mono ?_
                    rintro e w2 ⟨rfl, hb2⟩
                    have HB2 := kp hb2; clear hb2
                    go_wp2
                    exact made_post rfl rfl rfl HB2.out rfl
                  case o2 =>
                    intro W hW; change wpList _ _ _ _ _ _
                    obtain ⟨hd0, hd1⟩ := HSW.out W hW
                    go_wp2; exact pure_post rfl rfl rfl
                  case o3 => intro W hW; rintro _ rfl; rintro _ rfl; change wpList _ _ _ _ _ _; go_wp2; exact pure_post rfl rfl rfl
                  case o4 => intro W hW; rintro _ rfl; change wpList _ _ _ _ _ _; go_wp2; exact pure_post rfl rfl rfl
                  case o5 => intro W hW; rintro _ rfl; change wpList _ _ _ _ _ _; go_wp2; exact pure_post rfl rfl rfl
                  case o6 =>
                    intro W hW; rintro _ rfl; rintro _ rfl; change wpList _ _ _ _ _ _
                    go_wp2_with fail
                    refine (pd_left g3 A3 len0 c3 s W (HPW.out W hW) hat (by omega)).mono ?_
                    rintro e w2 ⟨rfl, m, hm2⟩
                    have HB2 : Kept (Below W.heap.size W w2) := kp (by rw [hm2]; exact below_drewN (Below.refl _ _) _)
                    clear hm2
                    go_wp2
                    exact made_post rfl rfl rfl HB2.out rfl
                  case o7 => intro W hW; rintro _ rfl; change wpList _ _ _ _ _ _; go_wp2; exact pure_post rfl rfl rfl
                  case o8 => intro W hW; rintro _ rfl; rintro _ rfl; rintro _ rfl; change wpList _ _ _ _ _ _; go_wp2; exact pure_post rfl rfl rfl
                  case o9 => intro W hW; rintro _ rfl; rintro _ rfl; change wpList _ _ _ _ _ _; go_wp2; exact pure_post rfl rfl rfl
                  case o10 => intro W hW; rintro _ rfl; change wpList _ _ _ _ _ _; go_wp2; exact pure_post rfl rfl rfl
                  case o11 => intro W hW; rintro _ rfl; change wpList _ _ _ _ _ _; go_wp2; exact pure_post rfl rfl rfl
                  case o12 =>
                    intro W hW; rintro _ rfl; rintro _ rfl; change wpList _ _ _ _ _ _
                    go_wp2_with fail
                    refine (pd_done_why g3 A3 len0 c3 s W (HPW.out W hW) HWhy.out).mono ?_
                    rintro e w2 ⟨rfl, rfl⟩
                    go_wp2
                    exact pure_post rfl rfl rfl
                  case o13 => intro W hW; rintro _ rfl; rintro _ rfl; change wpList _ _ _ _ _ _; go_wp2; exact pure_post rfl rfl rfl
                  case o14 => intro W hW; rintro _ rfl; rintro _ rfl; change wpList _ _ _ _ _ _; go_wp2; exact pure_post rfl rfl rfl
                  case o15 => intro W hW; rintro _ rfl; change wpList _ _ _ _ _ _; go_wp2; exact pure_post rfl rfl rfl
                  case o16 => intro W hW; rintro _ rfl; change wpList _ _ _ _ _ _; go_wp2; exact pure_post rfl rfl rfl
                  case o17 =>
                    intro W hW; rintro _ rfl; rintro _ rfl; change wpList _ _ _ _ _ _
                    obtain ⟨hd0, hd1⟩ := HSW.out W hW
                    go_wp2; exact pure_post rfl rfl rfl
                  case o18 => intro W hW; rintro _ rfl; rintro _ rfl; change wpList _ _ _ _ _ _; go_wp2; exact pure_post rfl rfl rfl
                  case o19 => intro W hW; rintro _ rfl; rintro _ rfl; change wpList _ _ _ _ _ _; go_wp2; exact pure_post rfl rfl rfl
                  case o20 => intro W hW; rintro _ rfl; change wpList _ _ _ _ _ _; go_wp2; exact pure_post rfl rfl rfl
                  case o21 => intro W hW; rintro _ rfl; change wpList _ _ _ _ _ _; go_wp2; exact pure_post rfl rfl rfl
                  case o22 =>
                    intro W hW; rintro _ rfl; rintro _ rfl; change wpList _ _ _ _ _ _
                    obtain ⟨hd0, hd1⟩ := HSW.out W hW
                    go_wp2; exact pure_post rfl rfl rfl
                  case o23 => intro W hW; rintro _ rfl; change wpList _ _ _ _ _ _; go_wp2; exact pure_post rfl rfl rfl
                  case o24 => intro W hW; rintro _ rfl; rintro _ rfl; change wpList _ _ _ _ _ _; go_wp2; exact pure_post rfl rfl rfl
                  case o25 => intro W hW; rintro _ rfl; rintro _ rfl; rintro _ rfl; change wpList _ _ _ _ _ _; go_wp2; exact pure_post rfl rfl rfl
                  case o26 => intro W hW; rintro _ rfl; rintro _ rfl; change wpList _ _ _ _ _ _; go_wp2; exact pure_post rfl rfl rfl
                  case o27 => intro W hW; rintro _ rfl; change wpList _ _ _ _ _ _; go_wp2; exact pure_post rfl rfl rfl
                case hend =>
                  intro W hW; rintro _ rfl; rintro _ rfl; rintro _ rfl; rintro _ rfl; rintro _ rfl; rintro _ rfl; rintro _ rfl; rintro _ rfl; rintro _ rfl; rintro _ rfl; rintro _ rfl; rintro _ rfl; rintro _ rfl; rintro _ rfl; rintro _ rfl; rintro _ rfl; rintro _ rfl; rintro _ rfl; rintro _ rfl; rintro _ rfl; rintro _ rfl; rintro _ rfl; rintro _ rfl; rintro _ rfl; rintro _ rfl; rintro _ rfl; rintro _ rfl; rintro _ rfl
                  simp only [given, put_lit, List.set]
                  go_wp2
                  go_ret
                  exact ⟨rfl, HBj.out.trans (hW.mono hszj)⟩
end Go.Proofs.YtgdnimhhhllgaaaDoor
