/- WireBack, walked. -/
import Derived.Test.YtgdnimhhhllgaaaDoorWireLaw3
import Derived.Test.YtgdnimhhhllgaaaDoorWireLaw4
import Derived.Test.YtgdnimhhhllgaaaDoorActs
namespace Go.Proofs.YtgdnimhhhllgaaaDoor
open Go.RowKit

set_option maxRecDepth 1000000 in
set_option maxHeartbeats 8000000 in
theorem walkWireBack (a0 : Option Addr) (len0 cap0 : Nat) (z0 : List Item) (a1 : Int) (w : World) (w0 : Items w w.heap.size a0 len0 z0) (c0 : len0 ≤ cap0 ∧ cap0 ≤ maxLen) (w1 : (Lit.int .u8 a1).wf = true) (hL : Tab w) :
    Calls Tryd.prog 5 #[.slice a0 len0 cap0, .int .u8 a1] w fun e w' => e = .returned (.bool true) ∧ Below w.heap.size w w' := by
  have hs := hL.size
  have HT := kp hL
  have HI := kp w0
  have HLn := kp w0.1.len
  obtain ⟨hc01, hc02⟩ := c0
  have hcm := hc02
  unfold maxLen at hcm
  have hl64 : len0 ≤ 9223372036854775807 := by omega
  obtain ⟨mm, rfl, hmm⟩ : ∃ m : Nat, a1 = (m : Int) ∧ m < 256 := by
    have := u8_range _ w1
    exact ⟨a1.toNat, by omega, by omega⟩
  clear hL w0 w1 hcm
  by_cases hlong : 600 < tot z0
  · have HLong : Kept (decide (600 < tot z0) = true) := kp (decide_eq_true hlong)
    clear hlong
    go_enter Tryd.func5, Tryd.ntmps5
    go_wp2_with fail
    refine (awake_any w HT.out hs).mono ?_
    rintro e w1 ⟨rfl, hb1⟩
    have HB1 := kp hb1
    have hs1 := hb1.size
    clear hb1
    go_wp2_with fail
    refine (long_any w.heap.size a0 len0 cap0 z0 w1 (HI.out.below HB1.out) (by omega) true HLong.out).mono ?_
    rintro e w' ⟨rfl, rfl⟩
    go_wp2_with fail
    refine (awake_any w1 (HT.out.below HB1.out hs) (by omega)).mono ?_
    rintro e w2 ⟨rfl, hb2⟩
    have HB2 := kp (HB1.out.trans (hb2.mono hs1))
    clear hb2
    go_wp2
    go_ret
    exact ⟨rfl, HB2.out⟩
  · have HLong : Kept (decide (600 < tot z0) = false) := kp (decide_eq_false hlong)
    have HTot : Kept (tot z0 ≤ 600) := kp (by omega)
    have hn6 : len0 ≤ 600 := by rw [← HLn.out]; exact tot_len HTot.out
    have HLen : Kept (∀ i, i ≤ len0 → (allB (z0.take i)).length ≤ 175 * i + ((z0.take i).map partLen).sum) := kp (fun i hi => allB_le HTot.out (fun x hx => (HI.out.2 x hx).row.len) i (by rw [HLn.out]; exact hi))
    clear hlong
    go_enter Tryd.func5, Tryd.ntmps5
    go_wp2_with fail
    refine (awake_any w HT.out hs).mono ?_
    rintro e w1 ⟨rfl, hb1⟩
    have HB1 := kp hb1
    have hs1 := hb1.size
    clear hb1
    go_wp2_with fail
    refine (long_any w.heap.size a0 len0 cap0 z0 w1 (HI.out.below HB1.out) (by omega) false HLong.out).mono ?_
    rintro e w' ⟨rfl, rfl⟩
    go_wp2_with (first
      | ((with_reducible show wpList _ _ _ (⟨some 5, _, _, _, _, _⟩ :: _) _ _); go_must (refine wpList_alloc_zero rfl 27 rfl _ writer_zero ?_); intro g5 w3 hg3 hk3 hw3
         have HK3 : Kept (Wr w3 (· < w.heap.size) g5 []) := kp ((wr_new hg3 hk3 hw3).less fun k h => by omega)
         have HB3 := kp (HB1.out.trans (hw3.mono hs1))
         clear hk3 hw3))
    go_loopw [6] (fun v6 wr => ∃ i : Nat, i ≤ len0 ∧ v6 = .int .i64 i ∧ Wr wr (· < w.heap.size) g5 (allB (z0.take i)) ∧ Below w.heap.size w wr) (fun v6 _ => len0 - (intOf v6).toNat)
    case atStart => exact ⟨0, by omega, rfl, HK3.out, HB3.out⟩
    case round =>
      clear HK3 HB3
      obtain ⟨i, hi, rfl, hk, hb⟩ := hrel
      have HK := kp hk; have HB := kp hb
      have hsz := hb.size
      have hqlen := HLen.out i hi
      clear hk hb
      by_cases hlt : i < len0
      · obtain ⟨ad, x, rfl, hab, hx, hxok, he0, he1, he2, he3⟩ := (HI.out.below HB.out).get hlt
        have hx6 := part_short HTot.out hx
        obtain ⟨hsum, hsum6⟩ := sum_short HTot.out hx
        have HOx := kp hxok
        have HSn := kp (allB_snoc z0 i x hx)
        have hd256 := hxok.d
        have hm32 := hxok.m
        obtain ⟨hn1, hn2⟩ := hxok.n
        obtain ⟨nn, hnn⟩ : ∃ nn, low16 x.n = nn := ⟨_, rfl⟩
        have hlt16 : nn < 65536 := by rw [← hnn]; exact low16_lt _
        have hw16 : IntKind.u16.wrap x.n = (nn : Int) := by
          rw [← hnn]
          show x.n % 65536 = _
          unfold low16; omega
        have HNn := kp hnn
        obtain ⟨q, hq⟩ : ∃ q, allB (z0.take i) = q := ⟨_, rfl⟩
        rw [hq] at HK hqlen HSn
        have hq9 : q.length ≤ 110000 := by omega
        clear hx hxok hnn hq
        have h4 : x.do_ % 4 = 0 ∨ x.do_ % 4 = 1 ∨ x.do_ % 4 = 2 ∨ x.do_ % 4 = 3 := by omega
        rcases h4 with h4 | h4 | h4 | h4
        · have h4' : (x.do_ : Int) % 4 = 0 := by omega
          have HIB : Kept (itemB x = V.put (low16 x.n)) := kp (by unfold itemB; rw [if_pos h4])
          clear h4
          go_wp2_with (go_at_call 9; go_must (refine (wr_num _ g5 q (nn : Int) wr HK.out (by omega)).mono ?_); rintro e w4 ⟨rfl, hk4, hb4⟩; have HK4 := kp hk4; have HB4 := kp (HB.out.trans hb4.below); clear hk4 hb4)
          go_roundw
          case rel => exact ⟨i + 1, by omega, by go_num, by rw [HSn.out, HIB.out]; exact by rw [HNn.out]; have h := HK4.out; rw [low32_nat nn (by omega)] at h; exact h, HB4.out⟩
          case measure => simp [intOf]; omega
        · have h4' : (x.do_ : Int) % 4 = 1 := by omega
          have HIB : Kept (itemB x = x.bs) := kp (by unfold itemB; rw [if_neg (show ¬ x.do_ % 4 = 0 by omega), if_pos h4])
          clear h4
          go_wp2_with (go_at_call 11; go_must (refine (wr_raw _ g5 w.heap.size q x.bs x.A x.len x.cap wr HK.out HOx.out.row (by omega)).mono ?_); rintro e w4 ⟨rfl, hk4, hb4⟩; have HK4 := kp hk4; have HB4 := kp (HB.out.trans hb4.below); clear hk4 hb4)
          go_roundw
          case rel => exact ⟨i + 1, by omega, by go_num, by rw [HSn.out, HIB.out]; exact HK4.out, HB4.out⟩
          case measure => simp [intOf]; omega
        · have h4' : (x.do_ : Int) % 4 = 2 := by omega
          have HIB : Kept (itemB x = V.put x.len ++ x.bs) := kp (by unfold itemB; rw [if_neg (show ¬ x.do_ % 4 = 0 by omega), if_neg (show ¬ x.do_ % 4 = 1 by omega), if_pos h4])
          clear h4
          go_wp2_with (go_at_call 12; go_must (refine (wr_block _ g5 w.heap.size q x.bs x.A x.len x.cap wr HK.out HOx.out.row (fun ad h0 e => by obtain ⟨a1, e1, hb1, _⟩ := HOx.out.row.cells h0; rw [e] at e1; cases e1; exact hb1) (by omega)).mono ?_); rintro e w4 ⟨rfl, hk4, hb4⟩; have HK4 := kp hk4; have HB4 := kp (HB.out.trans hb4.below); clear hk4 hb4)
          go_roundw
          case rel => exact ⟨i + 1, by omega, by go_num, by rw [HSn.out, HIB.out]; exact by rw [← List.append_assoc]; exact HK4.out, HB4.out⟩
          case measure => simp [intOf]; omega
        · have h4' : (x.do_ : Int) % 4 = 3 := by omega
          have HIB : Kept (itemB x = R.setB x.m) := kp (by unfold itemB; rw [if_neg (show ¬ x.do_ % 4 = 0 by omega), if_neg (show ¬ x.do_ % 4 = 1 by omega), if_neg (show ¬ x.do_ % 4 = 2 by omega)])
          clear h4
          go_wp2_with (go_at_call 13; go_must (refine (wr_set _ g5 q x.m hm32 wr HK.out (HT.out.below HB.out hs) (by show 0 < w.heap.size; omega) (by omega)).mono ?_); rintro e w4 ⟨rfl, hk4, hb4⟩; have HK4 := kp hk4; have HB4 := kp (HB.out.trans hb4.below); clear hk4 hb4)
          go_roundw
          case rel => exact ⟨i + 1, by omega, by go_num, by rw [HSn.out, HIB.out]; exact HK4.out, HB4.out⟩
          case measure => simp [intOf]; omega
      · have hie : i = len0 := by omega
        have HKe : Kept (Wr wr (· < w.heap.size) g5 (allB z0)) := kp (by have h := HK.out; rw [hie, List.take_of_length_le (by rw [HLn.out]; exact Nat.le_refl _)] at h; exact h)
        obtain ⟨ab, hab⟩ : ∃ ab, allB z0 = ab := ⟨_, rfl⟩
        have habl : ab.length ≤ 110000 := by
          have h1 := HLen.out len0 (Nat.le_refl _)
          rw [List.take_of_length_le (by rw [HLn.out]; exact Nat.le_refl _), hab] at h1
          have h2 := HTot.out
          unfold tot at h2
          omega
        rw [hab] at HKe
        have HAb := kp hab
        obtain ⟨n7, hn7⟩ : ∃ n7, ab.length = n7 := ⟨_, rfl⟩
        rw [hn7] at habl
        have HN7 := kp hn7
        clear hlt HK hab hn7 hqlen
        go_wp2_with (first
          | (go_at_call 15; go_must (refine (wr_bytes _ g5 ab wr HKe.out (by rw [HN7.out]; omega)).mono ?_); rintro e w7 ⟨v7, rfl, hown7, _, hb7⟩
             obtain ⟨A7, c7, rfl, hc7, hm7, hr7⟩ := Own.readsN hown7 HN7.out
             have HB7 := kp (HB.out.trans (hb7.mono hsz))
             have hsz7 := HB7.out.size
             have HO0 := kp (Own.new w7 w.heap.size 5 [] hsz7 (by simp [maxLen]))
             have HB7a := kp (HB7.out.alloc hsz7 (.cells #[] 5))
             have HR7a := kp (hr7.below (w' := w7.alloc (.cells #[] 5)) ((Below.refl _ _).alloc (Nat.le_refl _) _))
             have hm77 : c7 ≤ 9223372036854775807 := by unfold maxLen at hm7; omega
             clear hown7 hb7 hm7 hr7)
          | ((with_reducible show wpList _ _ _ (⟨some 65, _, _, _, _, _⟩ :: _) _ _); go_must (refine wpList_append_row rfl (.tmp 63) (.tmp 64) 25 rfl w.heap.size 5 _ _ Tryd.underlying25 byte_info rfl _ _ [] rfl HO0.out A7 n7 c7 _ _ rfl HR7a.out.vals (ones _ one_byteV _) (by simp [maxLen]; omega) (by simp; omega) HB7a.out.size ?_); intro v65 w8 hown8 hg8
             have HB8 : Kept (Below w.heap.size w w8) := kp (hg8.below HB7a.out HO0.out HB7a.out.size)
             rw [List.nil_append] at hown8
             have HO8 := kp hown8
             have hsz8 := HB8.out.size
             obtain ⟨A65, c65, e65, hc65, hm65, _⟩ := Own.readsN hown8 HN7.out
             subst e65
             clear hown8 hg8)
          | ((with_reducible show wpList _ _ _ (⟨some 68, _, _, _, _, _⟩ :: _) _ _); go_must (refine wpList_append_one rfl (.tmp 65) (.tmp 67) 25 rfl w.heap.size 5 _ _ Tryd.underlying25 byte_info rfl w8 _ _ _ rfl HO8.out _ 1 rfl rfl rfl (by simp [maxLen, HN7.out]; omega) (by simp [HN7.out]; omega) hsz8 ?_); intro v68 w9 hown9 hg9
             have HB9 : Kept (Below w.heap.size w w9) := kp (hg9.below HB8.out HO8.out hsz8)
             have hsz9 := HB9.out.size
             have hown9' : Own w9 w.heap.size 5 v68 ((ab ++ [mm]).map byteV) := by rw [List.map_append]; exact hown9
             obtain ⟨A68, c68, e68, hc68, hm68, hr68⟩ := Own.readsN hown9' (n := n7 + 1) (by rw [List.length_append, HN7.out]; rfl)
             subst e68
             have HR68 := kp hr68
             clear hown9 hown9' hg9 hr68 hm68)
          | (go_at_call 16; go_must (refine (pd_new _ A68 (n7 + 1) c68 (ab ++ [mm]) w9 HR68.out (by omega) (Nat.le_refl _)).mono ?_); rintro e w10 ⟨g8, A8, c8, rfl, hg10, hk10, hr10, hc8c, hm10, hb10⟩
             have HK10 := kp hk10; have HR10 := kp hr10; have HM8 := kp hm10
             have HB10 := kp (HB9.out.trans (hb10.mono hsz9))
             clear hk10 hr10 hm10 hb10))
        have hwg8 : w.heap.size ≤ g8 := by omega
        obtain ⟨fb, hfb⟩ : ∃ fb, ab ++ [mm] = fb := ⟨_, rfl⟩
        obtain ⟨n8, hn8⟩ : ∃ n8, n7 + 1 = n8 := ⟨_, rfl⟩
        rw [hfb, hn8] at HR10
        rw [hn8] at HK10 hc8c
        have HFb := kp hfb
        have hfl : fb.length = n8 := by rw [← hfb, List.length_append, HN7.out, ← hn8]; rfl
        have HFl := kp hfl
        have HN : Kept (∀ y ∈ fb, y < 256) := kp (by
          intro y hy
          rw [← hfb] at hy
          rcases List.mem_append.1 hy with hy | hy
          · rw [← HAb.out] at hy
            obtain ⟨x, hx, hyx⟩ := List.mem_flatMap.1 hy
            have hxo := HI.out.2 x hx
            exact itemB_byte x hxo.by_ (by have := List.mem_iff_getElem?.1 hx; obtain ⟨k, hk⟩ := this; have := part_short HTot.out hk; omega) y hyx
          · rw [List.mem_singleton] at hy; omega)
        have hn8l : n8 ≤ 110001 := by omega
        have hn8a : n8 ≤ n7 + 1 := by omega
        have hn8b : n7 < n8 := by omega
        clear hfb hfl hn8 HO0 HB7a HR7a HO8 HR68 HKe
        go_loopw [9] (fun v9 wr => ∃ i : Nat, i ≤ len0 ∧ v9 = .int .i64 i ∧ Pd wr g8 A8 n8 c8 ⟨(allB (z0.take i)).length, 0, 0⟩ ∧ Row byteV wr g8 A8 n8 fb ∧ Below w.heap.size w wr) (fun v9 _ => len0 - (intOf v9).toNat)
        case atStart => exact ⟨0, by omega, rfl, HK10.out, HR10.out, HB10.out⟩
        case round =>
          clear HK10 HR10 HB10 HB9 HB8 HB7 HB hsz hsz9 hsz8 hsz7
          obtain ⟨i, hi, rfl, hk, hr, hb⟩ := hrel
          have HKs := kp hk; have HRs := kp hr; have HB := kp hb
          have hsz := hb.size
          have hgw8 := hk.lt
          have hqlen := HLen.out i hi
          clear hk hr hb
          obtain ⟨po, hpo⟩ : ∃ po, (allB (z0.take i)).length = po := ⟨_, rfl⟩
          rw [hpo] at HKs
          have hpn : po ≤ n7 := by
            rw [← hpo, ← HN7.out, ← HAb.out]
            conv => rhs; rw [← List.take_append_drop i z0]
            unfold allB
            rw [List.flatMap_append, List.length_append]; omega
          have HOks : Kept (R.Ok fb ⟨po, 0, 0⟩) := kp ⟨by rw [HFl.out]; show po ≤ n8; omega, Nat.zero_le _, by show 0 ≤ 7; decide⟩
          by_cases hlt : i < len0
          · obtain ⟨ad, x, rfl, hab, hx, hxok, he0, he1, he2, he3⟩ := (HI.out.below HB.out).get hlt
            have hx6 := part_short HTot.out hx
            have HOx := kp hxok
            have HPart : Kept (∃ post, fb.drop po = itemB x ++ post) := kp (by rw [← hpo, ← HFb.out, ← HAb.out]; exact allB_part z0 i x hx [mm])
            have HPn : Kept ((allB (z0.take (i + 1))).length = po + (itemB x).length) := kp (by rw [allB_snoc z0 i x hx, List.length_append, hpo])
            have hd256 := hxok.d
            have hm32 := hxok.m
            obtain ⟨hn1, hn2⟩ := hxok.n
            obtain ⟨nn, hnn⟩ : ∃ nn, low16 x.n = nn := ⟨_, rfl⟩
            have hlt16 : nn < 65536 := by rw [← hnn]; exact low16_lt _
            have hw16 : IntKind.u16.wrap x.n = (nn : Int) := by
              rw [← hnn]
              show x.n % 65536 = _
              unfold low16; omega
            have HNn := kp hnn
            have hxlc := hxok.lc
            have hxcm := hxok.cm
            unfold maxLen at hxcm
            have hadw : (ad.add (i * 4)).block < w.heap.size := by rw [add_block]; exact hab
            have HRA : Kept (∀ W, Only (fun k => k = g8) wr W → Row byteV W g8 A8 n8 fb) := kp fun W hW => HRs.out.onlyB hW (Nat.le_of_lt hgw8) (by intro k hk hg; omega)
            have HRX : Kept (∀ W, Only (fun k => k = g8) wr W → Row byteV W w.heap.size x.A x.len x.bs) := kp fun W hW => HOx.out.row.onlyB hW hsz (by intro k hk hg; omega)
            have HCE : Kept (∀ W, Only (fun k => k = g8) wr W → W.cell? (ad.add (i * 4)) = some (.int .u8 (x.do_ : Int)) ∧ W.cell? ⟨(ad.add (i * 4)).block, (ad.add (i * 4)).off + 1, none⟩ = some (.int .i64 x.n) ∧
                W.cell? ⟨(ad.add (i * 4)).block, (ad.add (i * 4)).off + 2, none⟩ = some (.slice x.A x.len x.cap) ∧ W.cell? ⟨(ad.add (i * 4)).block, (ad.add (i * 4)).off + 3, none⟩ = some (.int .u32 (x.m : Int))) := kp fun W hW => by
              have hb0 : (ad.add (i * 4)).block < wr.heap.size := by omega
              have hb1 : ¬ (ad.add (i * 4)).block = g8 := by omega
              exact ⟨by rw [hW.cell (by exact hb0) (by exact hb1)]; exact he0, by rw [hW.cell (by exact hb0) (by exact hb1)]; exact he1, by rw [hW.cell (by exact hb0) (by exact hb1)]; exact he2, by rw [hW.cell (by exact hb0) (by exact hb1)]; exact he3⟩
            clear hx hxok hnn hpo he1 he2 he3
            have h4 : x.do_ % 4 = 0 ∨ x.do_ % 4 = 1 ∨ x.do_ % 4 = 2 ∨ x.do_ % 4 = 3 := by omega
            rcases h4 with h4 | h4 | h4 | h4
            · have h4' : (x.do_ : Int) % 4 = 0 := by omega
              have hib : itemB x = V.put nn := by unfold itemB; rw [if_pos h4, HNn.out]
              have HX : Kept (R.num fb ⟨po, 0, 0⟩ 65535 = (nn, ⟨po + (itemB x).length, 0, 0⟩)) := kp (by
                obtain ⟨post, hp⟩ := HPart.out
                rw [hib] at hp ⊢
                exact R.num_at hp (by omega) (by omega) rfl)
              clear hib
              clear h4
              go_wp2
              apply region_acts (fun k => k = g8) [1] (phs [fun W => Pd W g8 A8 n8 c8 ⟨po, 0, 0⟩, fun W => Pd W g8 A8 n8 c8 ⟨po + (itemB x).length, 0, 0⟩]) (.is _ :: .is _ :: .is _ :: .is _ :: .is _ :: .is _ :: .is _ :: .is _ :: .is _ :: .is _ :: .is _ :: [])
                [[], [(0, 92)], [], [], [(2, 94), (3, 95)], [(4, 96)], [(5, 97)], [(6, 98)], [(7, 99)], [(1, 93), (8, 100)], [(9, 101)]]
                [(0, 92), (1, 93), (2, 94), (3, 95), (4, 96), (5, 97), (6, 98), (7, 99), (8, 100), (9, 101), (10, 10)] (by kernel_rfl) (by kernel_rfl) (by kernel_rfl) (by decide)
              case h0 => exact HKs.out
              case hob =>
                refine gobs_calm rfl ?o0 (gobs_act 0 rfl rfl ?o1 (gobs_calm rfl ?o2 (gobs_calm rfl ?o3 (gobs_calm rfl ?o4 (gobs_calm rfl ?o5 (gobs_calm rfl ?o6 (gobs_calm rfl ?o7 (gobs_calm rfl ?o8 (gobs_calm rfl ?o9 (gobs_calm rfl ?o10 (gobs_nil)))))))))))
                case o0 => intro p W hO hJ; change wpList _ _ _ _ _ _; go_wp2; exact calm_post rfl rfl rfl hJ
                case o1 =>
                  intro W hO hJ; rintro _ rfl; change wpList _ _ _ _ _ _
                  have hj1 : Pd W g8 A8 n8 c8 ⟨po, 0, 0⟩ := hJ
                  have hzW := hO.size
                  have HJ1 := kp hj1; have HRow := kp (HRA.out W hO)
                  clear hj1 hJ hO
                  go_wp2_with fail
                  refine (pd_num g8 g8 A8 n8 c8 fb ⟨po, 0, 0⟩ HOks.out 65535 nn ⟨po + (itemB x).length, 0, 0⟩ HX.out W HJ1.out HRow.out HN.out hc8c HM8.out (Nat.le_refl _) (by omega)).mono ?_
                  rintro e w2 ⟨rfl, hk2, hg2, hr2⟩
                  have HK2 := kp hk2; have HG2 := kp hg2
                  clear hk2 hg2 hr2
                  go_wp2
                  exact act_post rfl rfl rfl (Only.of_grown HG2.out rfl) HK2.out rfl
                case o2 => intro p W hO hJ; change wpList _ _ _ _ _ _; go_wp2; exact calm_post rfl rfl rfl hJ
                case o3 => intro p W hO hJ; change wpList _ _ _ _ _ _; go_wp2; exact calm_post rfl rfl rfl hJ
                case o4 => intro p W hO hJ; rintro _ rfl; rintro _ rfl; change wpList _ _ _ _ _ _; go_wp2; exact calm_post rfl rfl rfl hJ
                case o5 => intro p W hO hJ; rintro _ rfl; change wpList _ _ _ _ _ _; go_wp2; exact calm_post rfl rfl rfl hJ
                case o6 =>
                  intro p W hO hJ; rintro _ rfl; change wpList _ _ _ _ _ _
                  obtain ⟨hc0, hc1, hc2, hc3⟩ := HCE.out W hO
                  go_wp2; exact calm_post rfl rfl rfl hJ
                case o7 => intro p W hO hJ; rintro _ rfl; change wpList _ _ _ _ _ _; go_wp2; exact calm_post rfl rfl rfl hJ
                case o8 => intro p W hO hJ; rintro _ rfl; change wpList _ _ _ _ _ _; go_wp2; exact calm_post rfl rfl rfl hJ
                case o9 => intro p W hO hJ; rintro _ rfl; rintro _ rfl; change wpList _ _ _ _ _ _; go_wp2; exact calm_post rfl rfl rfl hJ
                case o10 => intro p W hO hJ; rintro _ rfl; change wpList _ _ _ _ _ _; go_wp2; exact calm_post rfl rfl rfl hJ
              case hend =>
                intro W hO hJ; rintro _ rfl; rintro _ rfl; rintro _ rfl; rintro _ rfl; rintro _ rfl; rintro _ rfl; rintro _ rfl; rintro _ rfl; rintro _ rfl; rintro _ rfl; rintro _ rfl
                simp only [ggiven, put_lit, List.set]
                have HKz : Kept (Pd W g8 A8 n8 c8 ⟨po + (itemB x).length, 0, 0⟩) := kp (show Pd W g8 A8 n8 c8 ⟨po + (itemB x).length, 0, 0⟩ from hJ)
                have HRAz := kp (HRA.out W hO)
                have HBz : Kept (Below w.heap.size w W) := kp (HB.out.trans (hO.below hsz (by intro k hk; omega)))
                have hszz := HBz.out.size
                clear hJ hO HRA HRX HCE 
                go_wp2_with (go_at_call 24; go_must (refine (pd_fault g8 A8 n8 c8 ⟨po + (itemB x).length, 0, 0⟩ rfl W HKz.out).mono ?_); rintro e w20 ⟨rfl, hb20⟩; have HB20 := kp hb20; clear hb20)
                go_roundw
                case rel => exact ⟨i + 1, by omega, by go_num, by rw [HPn.out]; exact Blk.below HKz.out HB20.out HKz.out.lt, HRAz.out.below (HB20.out.mono (Nat.le_of_lt HKz.out.lt)), HBz.out.trans (HB20.out.mono hszz)⟩
                case measure => simp [intOf]; omega
            · have h4' : (x.do_ : Int) % 4 = 1 := by omega
              have hib : itemB x = x.bs := by unfold itemB; rw [if_neg (show ¬ x.do_ % 4 = 0 by omega), if_pos h4]
              have HX : Kept (R.raw fb ⟨po, 0, 0⟩ (x.len : Int) = (x.bs, ⟨po + (itemB x).length, 0, 0⟩)) := kp (by
                obtain ⟨post, hp⟩ := HPart.out
                rw [hib] at hp ⊢
                rw [← HOx.out.row.len]
                exact R.raw_at HOks.out.1 hp rfl)
              clear hib
              clear h4
              go_wp2
              apply region_acts (fun k => k = g8) [7] (phs [fun W => Pd W g8 A8 n8 c8 ⟨po, 0, 0⟩, fun W => Pd W g8 A8 n8 c8 ⟨po + (itemB x).length, 0, 0⟩]) (.is _ :: .is _ :: .is _ :: .is _ :: .is _ :: .is _ :: .is _ :: .bytes x.bs :: .is _ :: .is _ :: .is _ :: .is _ :: .is _ :: .is _ :: .is _ :: .is _ :: .is _ :: [])
                [[], [], [], [(1, 105), (2, 106)], [(3, 107)], [(4, 108)], [(5, 109)], [(0, 104), (6, 110)], [(7, 111)], [], [], [(9, 113), (10, 114)], [(11, 115)], [(12, 116)], [(13, 117)], [(8, 112), (14, 118)], [(15, 119)]]
                [(0, 104), (1, 105), (2, 106), (3, 107), (4, 108), (5, 109), (6, 110), (7, 111), (8, 112), (9, 113), (10, 114), (11, 115), (12, 116), (13, 117), (14, 118), (15, 119), (16, 10)] (by kernel_rfl) (by kernel_rfl) (by kernel_rfl) (by decide)
              case h0 => exact HKs.out
              case hob =>
                refine gobs_calm rfl ?o0 (gobs_calm rfl ?o1 (gobs_calm rfl ?o2 (gobs_calm rfl ?o3 (gobs_calm rfl ?o4 (gobs_calm rfl ?o5 (gobs_calm rfl ?o6 (gobs_act 0 rfl rfl ?o7 (gobs_calm rfl ?o8 (gobs_calm rfl ?o9 (gobs_calm rfl ?o10 (gobs_calm rfl ?o11 (gobs_calm rfl ?o12 (gobs_calm rfl ?o13 (gobs_calm rfl ?o14 (gobs_calm rfl ?o15 (gobs_calm rfl ?o16 (gobs_nil)))))))))))))))))
                case o0 => intro p W hO hJ; change wpList _ _ _ _ _ _; go_wp2; exact calm_post rfl rfl rfl hJ
                case o1 => intro p W hO hJ; change wpList _ _ _ _ _ _; go_wp2; exact calm_post rfl rfl rfl hJ
                case o2 => intro p W hO hJ; change wpList _ _ _ _ _ _; go_wp2; exact calm_post rfl rfl rfl hJ
                case o3 => intro p W hO hJ; rintro _ rfl; rintro _ rfl; change wpList _ _ _ _ _ _; go_wp2; exact calm_post rfl rfl rfl hJ
                case o4 => intro p W hO hJ; rintro _ rfl; change wpList _ _ _ _ _ _; go_wp2; exact calm_post rfl rfl rfl hJ
                case o5 =>
                  intro p W hO hJ; rintro _ rfl; change wpList _ _ _ _ _ _
                  obtain ⟨hc0, hc1, hc2, hc3⟩ := HCE.out W hO
                  go_wp2; exact calm_post rfl rfl rfl hJ
                case o6 => intro p W hO hJ; rintro _ rfl; change wpList _ _ _ _ _ _; go_wp2; exact calm_post rfl rfl rfl hJ
                case o7 =>
                  intro W hO hJ; rintro _ rfl; rintro _ rfl; change wpList _ _ _ _ _ _
                  have hj1 : Pd W g8 A8 n8 c8 ⟨po, 0, 0⟩ := hJ
                  have hzW := hO.size
                  have HJ1 := kp hj1; have HRow := kp (HRA.out W hO)
                  clear hj1 hJ hO
                  go_wp2_with fail
                  refine (pd_raw g8 g8 A8 n8 c8 fb ⟨po, 0, 0⟩ HOks.out (x.len : Int) x.bs ⟨po + (itemB x).length, 0, 0⟩ HX.out W HJ1.out HRow.out (by omega) hc8c (Nat.le_refl _) (by omega)).mono ?_
                  rintro e w2 ⟨v2, rfl, hown2, hk2, hg2, hr2⟩
                  have HO2 := kp hown2
                  clear hown2
                  have HK2 := kp hk2; have HG2 := kp hg2
                  clear hk2 hg2 hr2
                  go_wp2
                  exact act_post rfl rfl rfl (Only.of_grown HG2.out rfl) HK2.out (own_gbytes HO2.out (by intro k hk hg; omega))
                case o8 =>
                  intro p W hO hJ; rintro _ ⟨A7, c7, rfl, hr7, hg7⟩; change wpList _ _ _ _ _ _
                  have hcv := cv (c := c7) hr7
                  go_wp2; exact calm_post rfl rfl rfl hJ
                case o9 => intro p W hO hJ; change wpList _ _ _ _ _ _; go_wp2; exact calm_post rfl rfl rfl hJ
                case o10 => intro p W hO hJ; change wpList _ _ _ _ _ _; go_wp2; exact calm_post rfl rfl rfl hJ
                case o11 => intro p W hO hJ; rintro _ rfl; rintro _ rfl; change wpList _ _ _ _ _ _; go_wp2; exact calm_post rfl rfl rfl hJ
                case o12 => intro p W hO hJ; rintro _ rfl; change wpList _ _ _ _ _ _; go_wp2; exact calm_post rfl rfl rfl hJ
                case o13 =>
                  intro p W hO hJ; rintro _ rfl; change wpList _ _ _ _ _ _
                  obtain ⟨hc0, hc1, hc2, hc3⟩ := HCE.out W hO
                  go_wp2; exact calm_post rfl rfl rfl hJ
                case o14 =>
                  intro p W hO hJ; rintro _ rfl; change wpList _ _ _ _ _ _
                  have hcx := cv (w := W) (c := x.cap) (HRX.out W hO)
                  go_wp2; exact calm_post rfl rfl rfl hJ
                case o15 => intro p W hO hJ; rintro _ rfl; rintro _ rfl; change wpList _ _ _ _ _ _; go_wp2; exact calm_post rfl rfl rfl hJ
                case o16 => intro p W hO hJ; rintro _ rfl; change wpList _ _ _ _ _ _; go_wp2; exact calm_post rfl rfl rfl hJ
              case hend =>
                intro W hO hJ; rintro _ rfl; rintro _ rfl; rintro _ rfl; rintro _ rfl; rintro _ rfl; rintro _ rfl; rintro _ rfl; rintro _ ⟨A7, c7, rfl, hr7, hg7⟩; rintro _ rfl; rintro _ rfl; rintro _ rfl; rintro _ rfl; rintro _ rfl; rintro _ rfl; rintro _ rfl; rintro _ rfl; rintro _ rfl
                simp only [ggiven, put_lit, List.set]
                have HKz : Kept (Pd W g8 A8 n8 c8 ⟨po + (itemB x).length, 0, 0⟩) := kp (show Pd W g8 A8 n8 c8 ⟨po + (itemB x).length, 0, 0⟩ from hJ)
                have HRAz := kp (HRA.out W hO)
                have HBz : Kept (Below w.heap.size w W) := kp (HB.out.trans (hO.below hsz (by intro k hk; omega)))
                have hszz := HBz.out.size
                clear hJ hO HRA HRX HCE hr7 hg7
                go_wp2_with (go_at_call 24; go_must (refine (pd_fault g8 A8 n8 c8 ⟨po + (itemB x).length, 0, 0⟩ rfl W HKz.out).mono ?_); rintro e w20 ⟨rfl, hb20⟩; have HB20 := kp hb20; clear hb20)
                go_roundw
                case rel => exact ⟨i + 1, by omega, by go_num, by rw [HPn.out]; exact Blk.below HKz.out HB20.out HKz.out.lt, HRAz.out.below (HB20.out.mono (Nat.le_of_lt HKz.out.lt)), HBz.out.trans (HB20.out.mono hszz)⟩
                case measure => simp [intOf]; omega
            · have h4' : (x.do_ : Int) % 4 = 2 := by omega
              have hib : itemB x = V.put x.len ++ x.bs := by unfold itemB; rw [if_neg (show ¬ x.do_ % 4 = 0 by omega), if_neg (show ¬ x.do_ % 4 = 1 by omega), if_pos h4]
              have H1X : Kept (R.num fb ⟨po, 0, 0⟩ 600 = (x.len, ⟨po + (V.put x.len).length, 0, 0⟩) ∧ R.raw fb ⟨po + (V.put x.len).length, 0, 0⟩ (x.len : Int) = (x.bs, ⟨po + (itemB x).length, 0, 0⟩)) := kp (by
                obtain ⟨post, hp⟩ := HPart.out
                rw [hib, List.append_assoc] at hp
                have h1 := R.num_at (s := ⟨po, 0, 0⟩) (most := 600) hp (by omega) (by omega) rfl
                have hd2 : fb.drop (po + (V.put x.len).length) = x.bs ++ post := by
                  rw [← List.drop_drop, hp, List.drop_left']
                  rfl
                refine ⟨h1, ?_⟩
                have hok := (R.num_ok HN.out HOks.out 600).1
                rw [h1] at hok
                have h2 := R.raw_at (s := ⟨po + (V.put x.len).length, 0, 0⟩) hok.1 hd2 rfl
                rw [HOx.out.row.len] at h2
                rw [h2, hib, List.length_append, HOx.out.row.len, Nat.add_assoc])
              have H1 := kp H1X.out.1
              have HX := kp H1X.out.2
              clear hib H1X
              clear h4
              go_wp2
              apply region_acts (fun k => k = g8) [1] (phs [fun W => Pd W g8 A8 n8 c8 ⟨po, 0, 0⟩, fun W => Pd W g8 A8 n8 c8 ⟨po + (itemB x).length, 0, 0⟩]) (.is _ :: .bytes x.bs :: .is _ :: .is _ :: .is _ :: .is _ :: .is _ :: .is _ :: .is _ :: .is _ :: .is _ :: [])
                [[], [(0, 122)], [(1, 123)], [], [], [(3, 125), (4, 126)], [(5, 127)], [(6, 128)], [(7, 129)], [(2, 124), (8, 130)], [(9, 131)]]
                [(0, 122), (1, 123), (2, 124), (3, 125), (4, 126), (5, 127), (6, 128), (7, 129), (8, 130), (9, 131), (10, 10)] (by kernel_rfl) (by kernel_rfl) (by kernel_rfl) (by decide)
              case h0 => exact HKs.out
              case hob =>
                refine gobs_calm rfl ?o0 (gobs_act 0 rfl rfl ?o1 (gobs_calm rfl ?o2 (gobs_calm rfl ?o3 (gobs_calm rfl ?o4 (gobs_calm rfl ?o5 (gobs_calm rfl ?o6 (gobs_calm rfl ?o7 (gobs_calm rfl ?o8 (gobs_calm rfl ?o9 (gobs_calm rfl ?o10 (gobs_nil)))))))))))
                case o0 => intro p W hO hJ; change wpList _ _ _ _ _ _; go_wp2; exact calm_post rfl rfl rfl hJ
                case o1 =>
                  intro W hO hJ; rintro _ rfl; change wpList _ _ _ _ _ _
                  have hj1 : Pd W g8 A8 n8 c8 ⟨po, 0, 0⟩ := hJ
                  have hzW := hO.size
                  have HJ1 := kp hj1; have HRow := kp (HRA.out W hO)
                  clear hj1 hJ hO
                  go_wp2_with fail
                  refine (pd_block g8 g8 A8 n8 c8 fb ⟨po, 0, 0⟩ HOks.out 600 x.len ⟨po + (V.put x.len).length, 0, 0⟩ H1.out x.bs ⟨po + (itemB x).length, 0, 0⟩ HX.out W HJ1.out HRow.out HN.out (by omega) hc8c HM8.out (Nat.le_refl _) (by omega)).mono ?_
                  rintro e w2 ⟨v2, rfl, hown2, hk2, hg2, hr2⟩
                  have HO2 := kp hown2
                  clear hown2
                  have HK2 := kp hk2; have HG2 := kp hg2
                  clear hk2 hg2 hr2
                  go_wp2
                  exact act_post rfl rfl rfl (Only.of_grown HG2.out rfl) HK2.out (own_gbytes HO2.out (by intro k hk hg; omega))
                case o2 =>
                  intro p W hO hJ; rintro _ ⟨A1, c1, rfl, hr1, hg1⟩; change wpList _ _ _ _ _ _
                  have hcv := cv (c := c1) hr1
                  go_wp2; exact calm_post rfl rfl rfl hJ
                case o3 => intro p W hO hJ; change wpList _ _ _ _ _ _; go_wp2; exact calm_post rfl rfl rfl hJ
                case o4 => intro p W hO hJ; change wpList _ _ _ _ _ _; go_wp2; exact calm_post rfl rfl rfl hJ
                case o5 => intro p W hO hJ; rintro _ rfl; rintro _ rfl; change wpList _ _ _ _ _ _; go_wp2; exact calm_post rfl rfl rfl hJ
                case o6 => intro p W hO hJ; rintro _ rfl; change wpList _ _ _ _ _ _; go_wp2; exact calm_post rfl rfl rfl hJ
                case o7 =>
                  intro p W hO hJ; rintro _ rfl; change wpList _ _ _ _ _ _
                  obtain ⟨hc0, hc1, hc2, hc3⟩ := HCE.out W hO
                  go_wp2; exact calm_post rfl rfl rfl hJ
                case o8 =>
                  intro p W hO hJ; rintro _ rfl; change wpList _ _ _ _ _ _
                  have hcx := cv (w := W) (c := x.cap) (HRX.out W hO)
                  go_wp2; exact calm_post rfl rfl rfl hJ
                case o9 => intro p W hO hJ; rintro _ rfl; rintro _ rfl; change wpList _ _ _ _ _ _; go_wp2; exact calm_post rfl rfl rfl hJ
                case o10 => intro p W hO hJ; rintro _ rfl; change wpList _ _ _ _ _ _; go_wp2; exact calm_post rfl rfl rfl hJ
              case hend =>
                intro W hO hJ; rintro _ rfl; rintro _ ⟨A1, c1, rfl, hr1, hg1⟩; rintro _ rfl; rintro _ rfl; rintro _ rfl; rintro _ rfl; rintro _ rfl; rintro _ rfl; rintro _ rfl; rintro _ rfl; rintro _ rfl
                simp only [ggiven, put_lit, List.set]
                have HKz : Kept (Pd W g8 A8 n8 c8 ⟨po + (itemB x).length, 0, 0⟩) := kp (show Pd W g8 A8 n8 c8 ⟨po + (itemB x).length, 0, 0⟩ from hJ)
                have HRAz := kp (HRA.out W hO)
                have HBz : Kept (Below w.heap.size w W) := kp (HB.out.trans (hO.below hsz (by intro k hk; omega)))
                have hszz := HBz.out.size
                clear hJ hO HRA HRX HCE hr1 hg1
                go_wp2_with (go_at_call 24; go_must (refine (pd_fault g8 A8 n8 c8 ⟨po + (itemB x).length, 0, 0⟩ rfl W HKz.out).mono ?_); rintro e w20 ⟨rfl, hb20⟩; have HB20 := kp hb20; clear hb20)
                go_roundw
                case rel => exact ⟨i + 1, by omega, by go_num, by rw [HPn.out]; exact Blk.below HKz.out HB20.out HKz.out.lt, HRAz.out.below (HB20.out.mono (Nat.le_of_lt HKz.out.lt)), HBz.out.trans (HB20.out.mono hszz)⟩
                case measure => simp [intOf]; omega
            · have h4' : (x.do_ : Int) % 4 = 3 := by omega
              have hib : itemB x = R.setB x.m := by unfold itemB; rw [if_neg (show ¬ x.do_ % 4 = 0 by omega), if_neg (show ¬ x.do_ % 4 = 1 by omega), if_neg (show ¬ x.do_ % 4 = 2 by omega)]
              have HX : Kept (R.set fb ⟨po, 0, 0⟩ 32 = (x.m, ⟨po + (itemB x).length, 0, 0⟩)) := kp (by
                obtain ⟨post, hp⟩ := HPart.out
                rw [hib] at hp ⊢
                exact R.set_at hm32 hp rfl)
              clear hib
              clear h4
              go_wp2
              apply region_acts (fun k => k = g8) [1] (phs [fun W => Pd W g8 A8 n8 c8 ⟨po, 0, 0⟩, fun W => Pd W g8 A8 n8 c8 ⟨po + (itemB x).length, 0, 0⟩]) (.is _ :: .is _ :: .is _ :: .is _ :: .is _ :: .is _ :: .is _ :: .is _ :: .is _ :: [])
                [[], [(0, 82)], [], [], [(2, 84), (3, 85)], [(4, 86)], [(5, 87)], [(1, 83), (6, 88)], [(7, 89)]]
                [(0, 82), (1, 83), (2, 84), (3, 85), (4, 86), (5, 87), (6, 88), (7, 89), (8, 10)] (by kernel_rfl) (by kernel_rfl) (by kernel_rfl) (by decide)
              case h0 => exact HKs.out
              case hob =>
                refine gobs_calm rfl ?o0 (gobs_act 0 rfl rfl ?o1 (gobs_calm rfl ?o2 (gobs_calm rfl ?o3 (gobs_calm rfl ?o4 (gobs_calm rfl ?o5 (gobs_calm rfl ?o6 (gobs_calm rfl ?o7 (gobs_calm rfl ?o8 (gobs_nil)))))))))
                case o0 => intro p W hO hJ; change wpList _ _ _ _ _ _; go_wp2; exact calm_post rfl rfl rfl hJ
                case o1 =>
                  intro W hO hJ; rintro _ rfl; change wpList _ _ _ _ _ _
                  have hj1 : Pd W g8 A8 n8 c8 ⟨po, 0, 0⟩ := hJ
                  have hzW := hO.size
                  have HJ1 := kp hj1; have HRow := kp (HRA.out W hO)
                  clear hj1 hJ hO
                  go_wp2_with fail
                  refine (pd_set g8 g8 A8 n8 c8 fb ⟨po, 0, 0⟩ HOks.out 32 (by omega) x.m ⟨po + (itemB x).length, 0, 0⟩ HX.out W HJ1.out HRow.out HN.out hc8c HM8.out (Nat.le_refl _) (by omega)).mono ?_
                  rintro e w2 ⟨rfl, hk2, hg2, hr2⟩
                  have HK2 := kp hk2; have HG2 := kp hg2
                  clear hk2 hg2 hr2
                  go_wp2
                  exact act_post rfl rfl rfl (Only.of_grown HG2.out rfl) HK2.out rfl
                case o2 => intro p W hO hJ; change wpList _ _ _ _ _ _; go_wp2; exact calm_post rfl rfl rfl hJ
                case o3 => intro p W hO hJ; change wpList _ _ _ _ _ _; go_wp2; exact calm_post rfl rfl rfl hJ
                case o4 => intro p W hO hJ; rintro _ rfl; rintro _ rfl; change wpList _ _ _ _ _ _; go_wp2; exact calm_post rfl rfl rfl hJ
                case o5 => intro p W hO hJ; rintro _ rfl; change wpList _ _ _ _ _ _; go_wp2; exact calm_post rfl rfl rfl hJ
                case o6 =>
                  intro p W hO hJ; rintro _ rfl; change wpList _ _ _ _ _ _
                  obtain ⟨hc0, hc1, hc2, hc3⟩ := HCE.out W hO
                  go_wp2; exact calm_post rfl rfl rfl hJ
                case o7 => intro p W hO hJ; rintro _ rfl; rintro _ rfl; change wpList _ _ _ _ _ _; go_wp2; exact calm_post rfl rfl rfl hJ
                case o8 => intro p W hO hJ; rintro _ rfl; change wpList _ _ _ _ _ _; go_wp2; exact calm_post rfl rfl rfl hJ
              case hend =>
                intro W hO hJ; rintro _ rfl; rintro _ rfl; rintro _ rfl; rintro _ rfl; rintro _ rfl; rintro _ rfl; rintro _ rfl; rintro _ rfl; rintro _ rfl
                simp only [ggiven, put_lit, List.set]
                have HKz : Kept (Pd W g8 A8 n8 c8 ⟨po + (itemB x).length, 0, 0⟩) := kp (show Pd W g8 A8 n8 c8 ⟨po + (itemB x).length, 0, 0⟩ from hJ)
                have HRAz := kp (HRA.out W hO)
                have HBz : Kept (Below w.heap.size w W) := kp (HB.out.trans (hO.below hsz (by intro k hk; omega)))
                have hszz := HBz.out.size
                clear hJ hO HRA HRX HCE 
                go_wp2_with (go_at_call 24; go_must (refine (pd_fault g8 A8 n8 c8 ⟨po + (itemB x).length, 0, 0⟩ rfl W HKz.out).mono ?_); rintro e w20 ⟨rfl, hb20⟩; have HB20 := kp hb20; clear hb20)
                go_roundw
                case rel => exact ⟨i + 1, by omega, by go_num, by rw [HPn.out]; exact Blk.below HKz.out HB20.out HKz.out.lt, HRAz.out.below (HB20.out.mono (Nat.le_of_lt HKz.out.lt)), HBz.out.trans (HB20.out.mono hszz)⟩
                case measure => simp [intOf]; omega
          · have hie2 : i = len0 := by omega
            have hpe : po = n7 := by
              rw [← hpo, hie2, List.take_of_length_le (by rw [HLn.out]; exact Nat.le_refl _), HAb.out, HN7.out]
            subst hpe
            have hleft : (n8 : Int) - (po : Int) = 1 := by omega
            have hlt8 : po < n8 := by omega
            clear hlt hpo hqlen
            go_wp2_with (first
              | (go_at_call 25; go_must (refine (pd_left g8 A8 n8 c8 ⟨po, 0, 0⟩ wr HKs.out (by show po ≤ n8; omega) (by omega)).mono ?_); rintro e w11 ⟨rfl, m, hm11⟩
                 have HK11 : Kept (Pd w11 g8 A8 n8 c8 ⟨po, 0, 0⟩) := kp (by rw [hm11]; exact HKs.out)
                 have HB11 : Kept (Below w.heap.size w w11) := kp (by rw [hm11]; exact below_drewN HB.out _)
                 have hsz11 := HB11.out.size
                 clear hm11)
              | (go_at_call 27; go_must (refine (pd_done_left g8 A8 n8 c8 po w11 HK11.out hlt8 (by omega)).mono ?_); rintro e w12 ⟨rfl, hk12, hg12⟩
                 have HK12 := kp hk12
                 have HB12 : Kept (Below w.heap.size w w12) := kp (HB11.out.grown hg12 hsz11 (by intro k e; cases e; exact hwg8))
                 have hsz12 := HB12.out.size
                 clear hk12 hg12)
              | (go_at_call 24; go_must (refine (pd_fault g8 A8 n8 c8 ⟨po, po, 7⟩ rfl w12 HK12.out).mono ?_); rintro e w13 ⟨rfl, hb13⟩; have HB13 := kp (HB12.out.trans (hb13.mono hsz12)); clear hb13))
            go_ret
            exact ⟨rfl, HB13.out⟩
end Go.Proofs.YtgdnimhhhllgaaaDoor
