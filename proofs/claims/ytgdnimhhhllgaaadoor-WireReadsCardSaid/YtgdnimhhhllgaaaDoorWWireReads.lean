/- WireReads, walked. -/
import Derived.Test.YtgdnimhhhllgaaaDoorWireLaw3
import Derived.Test.YtgdnimhhhllgaaaDoorWireRef2
import Derived.Test.YtgdnimhhhllgaaaDoorWireRef3
import Derived.Test.YtgdnimhhhllgaaaDoorActs
import Derived.Test.YtgdnimhhhllgaaaDoorOwn
namespace Go.Proofs.YtgdnimhhhllgaaaDoor
open Go.RowKit

theorem left_quiet (g : Nat) (A : Option Addr) (n c : Nat) (s : R.St) (w : World) (hk : Pd w g A n c s) (hat : s.at_ ≤ n) (hn : n ≤ 1000000) (k : Nat) :
    Calls Tryd.prog 25 #[.pointer (some ⟨g, 0, none⟩)] (w.drewN k) fun e w'' => e = .returned (.int .i64 ((n : Int) - (s.at_ : Int))) ∧ ∃ m, w'' = w.drewN m :=
  (pd_left g A n c s (w.drewN k) hk hat hn).mono fun _ _ ⟨he, m, hm⟩ => ⟨he, k + m, by rw [hm, World.drewN_drewN]⟩

set_option maxRecDepth 1000000 in
set_option maxHeartbeats 8000000 in
theorem walkWireReads (a0 : Option Addr) (len0 cap0 : Nat) (z0 : List Int) (a1 : Option Addr) (len1 cap1 : Nat) (z1 : List Item) (w : World) (w0 : IsRow .u8 w a0 len0 cap0 z0) (w1 : Items w w.heap.size a1 len1 z1) (c1 : len1 ≤ cap1 ∧ cap1 ≤ maxLen) (hL : Tab w) :
    Calls Tryd.prog 4 #[.slice a0 len0 cap0, .slice a1 len1 cap1] w fun e w' => e = .returned (.bool true) ∧ Below w.heap.size w w' := by
  have hs := hL.size
  have HT := kp hL
  obtain ⟨bs, hr, hb, hm, hlc, hcm⟩ := w0.bytes
  have HR := kp hr; have HN := kp hb
  have HL0 := kp hr.len
  have HI1 := kp w1
  have hcm0 := hcm
  obtain ⟨hc11, hc12⟩ := c1
  have hcm1 := hc12
  unfold maxLen at hcm1 hm hcm
  have hl164 : len1 ≤ 9223372036854775807 := by omega
  clear hL w0 w1 hr hb hcm1
  by_cases h0 : 600 < len0
  · go_enter Tryd.func4, Tryd.ntmps4
    go_wp2_with fail
    refine (awake_any w HT.out hs).mono ?_
    rintro e w1 ⟨rfl, hb1⟩
    have HB1 := kp hb1
    have hs1 := hb1.size
    clear hb1
    go_wp2_with fail
    refine (awake_any w1 (HT.out.below HB1.out hs) (by omega)).mono ?_
    rintro e w2 ⟨rfl, hb2⟩
    have HB2 := kp (HB1.out.trans (hb2.mono hs1))
    clear hb2
    go_wp2
    go_ret
    exact ⟨rfl, HB2.out⟩
  by_cases hl1 : 600 < tot z1
  · have HLong : Kept (decide (600 < tot z1) = true) := kp (decide_eq_true hl1)
    clear hl1
    go_enter Tryd.func4, Tryd.ntmps4
    go_wp2_with fail
    refine (awake_any w HT.out hs).mono ?_
    rintro e w1 ⟨rfl, hb1⟩
    have HB1 := kp hb1
    have hs1 := hb1.size
    clear hb1
    go_wp2_with fail
    refine (long_any w.heap.size a1 len1 cap1 z1 w1 (HI1.out.below HB1.out) (by omega) true HLong.out).mono ?_
    rintro e w' ⟨rfl, rfl⟩
    go_wp2_with fail
    refine (awake_any w1 (HT.out.below HB1.out hs) (by omega)).mono ?_
    rintro e w2 ⟨rfl, hb2⟩
    have HB2 := kp (HB1.out.trans (hb2.mono hs1))
    clear hb2
    go_wp2
    go_ret
    exact ⟨rfl, HB2.out⟩
  · have HLong : Kept (decide (600 < tot z1) = false) := kp (decide_eq_false hl1)
    have hn1 : len1 ≤ 600 := by rw [← HI1.out.1.len]; exact tot_len (by omega)
    have h06 : len0 ≤ 600 := by omega
    clear hl1 h0
    go_enter Tryd.func4, Tryd.ntmps4
    go_wp2_with fail
    refine (awake_any w HT.out hs).mono ?_
    rintro e w1 ⟨rfl, hb1⟩
    have HB1 := kp hb1
    have hs1 := hb1.size
    clear hb1
    go_wp2_with fail
    refine (long_any w.heap.size a1 len1 cap1 z1 w1 (HI1.out.below HB1.out) (by omega) false HLong.out).mono ?_
    rintro e w' ⟨rfl, rfl⟩
    have HO0 := kp (Own.new w1 w.heap.size 5 [] hs1 (by simp [maxLen]))
    have HB1a := kp (HB1.out.alloc hs1 (.cells #[] 5))
    go_wp2_with (first
      | ((with_reducible show wpList _ _ _ (⟨some 28, _, _, _, _, _⟩ :: _) _ _); go_must (refine wpList_append_row rfl (.tmp 26) (.tmp 27) 25 rfl w.heap.size 5 _ _ Tryd.underlying25 byte_info rfl _ _ [] rfl HO0.out a0 len0 cap0 _ _ rfl ((HR.out.below HB1a.out).vals) (ones _ one_byteV _) (by simp [maxLen]; omega) (by simp; omega) HB1a.out.size ?_); intro v2 w2 hown2 hg2
         have HB2 : Kept (Below w.heap.size w w2) := kp (hg2.below HB1a.out HO0.out HB1a.out.size)
         rw [List.nil_append] at hown2
         have HO2 := kp hown2
         obtain ⟨A2, c2, e2, hlc2, hcm2, hr2, hbk2, hcell2⟩ := Own.split (bs := bs) (n := len0) hown2 HL0.out
         subst e2
         have HR2 := kp hr2; have HBk2 := kp hbk2; have HC2 := kp hcell2
         have hs2 := HB2.out.size
         clear hown2 hg2 hr2 hbk2 hcell2)
      | (go_at_call 16; go_must (refine (pd_new2 w2.heap.size A2 len0 c2 bs w2 HR2.out (by omega) (Nat.le_refl _)).mono ?_); rintro e w3 ⟨g1, A1, c1, rfl, hg3, hk3, hr3, hc1c, hm3, hb3, hA3⟩
         have HK3 := kp hk3; have HR3 := kp hr3; have HM1 := kp hm3; have HA3 := kp hA3
         have HB3 := kp (HB2.out.trans (hb3.mono hs2))
         have HB23 := kp hb3
         have hs3 := HB3.out.size
         clear hk3 hr3 hm3 hb3 hA3))
    have hwg1 : w.heap.size ≤ g1 := by omega
    have hg13 : g1 < w3.heap.size := HK3.out.lt
    -- the block of what was handed in, if it has any
    obtain ⟨ga, hga, hgaw, hga2⟩ : ∃ ga, (0 < len0 → A2 = some ⟨ga, 0, none⟩ ∧ ∃ cur, Blk w3 ga 5 cur ∧ ∀ k, k < len0 → ∃ x, x < 256 ∧ cur[k]? = some (byteV x)) ∧ w.heap.size ≤ ga ∧ (ga < w2.heap.size ∨ w3.heap.size ≤ ga) := by
      by_cases hz : 0 < len0
      · obtain ⟨ga, cur, e1, hb, _, hx⟩ := HC2.out hz
        refine ⟨ga, fun _ => ⟨e1, cur, hb.below HB23.out hb.lt, fun k hk => ?_⟩, (HBk2.out _ e1).1, .inl (HBk2.out _ e1).2⟩
        have hkl : k < bs.length := by rw [HL0.out]; exact hk
        exact ⟨bs[k], HN.out _ (List.getElem_mem hkl), hx k _ (List.getElem?_eq_getElem hkl)⟩
      · exact ⟨w3.heap.size, fun h => absurd h hz, hs3, .inr (Nat.le_refl _)⟩
    have HGa := kp hga
    clear hga
    go_loopw [7] (fun v7 wr => ∃ i : Nat, i ≤ len0 ∧ v7 = .int .i64 i ∧ (0 < len0 → ∃ cur, Blk wr ga 5 cur ∧ ∀ k, k < len0 → ∃ x, x < 256 ∧ cur[k]? = some (byteV x)) ∧ w3.grownBy wr (some ga)) (fun v7 _ => len0 - (intOf v7).toNat)
    case atStart => exact ⟨0, by omega, rfl, fun h => (HGa.out h).2, grown_refl _ _⟩
    case round =>
      obtain ⟨i, hi, rfl, hcur, hgr⟩ := hrel
      have HGr := kp hgr; have HCur := kp hcur
      clear hgr hcur
      by_cases hlt : i < len0
      · obtain ⟨rfl, _⟩ := HGa.out (by omega)
        obtain ⟨cur, hbk, hx⟩ := HCur.out (by omega)
        obtain ⟨x, hx8, hxi⟩ := hx i hlt
        have hc : wr.cell? ⟨ga, i, none⟩ = some (.int .u8 (x : Int)) := (hbk.cell i).trans hxi
        have hf := hbk.frozen i
        have HBk := kp hbk; have HX := kp hx
        clear hbk hx hxi
        go_wp2
        go_roundw
        case rel =>
          refine ⟨i + 1, by omega, by go_num, fun _ => ⟨_, HBk.out.set i _, fun k hk => ?_⟩, grown_set HGr.out⟩
          by_cases hki : i = k
          · subst hki
            refine ⟨(x + 1) % 256, Nat.mod_lt _ (by decide), ?_⟩
            obtain ⟨y, _, hy⟩ := HX.out i hk
            have hil : i < cur.length := (List.getElem?_eq_some_iff.1 hy).1
            rw [List.getElem?_set_self hil]
            unfold byteV
            congr 2
          · obtain ⟨y, hy8, hy⟩ := HX.out k hk
            exact ⟨y, hy8, by rw [List.getElem?_set_ne hki]; exact hy⟩
        case measure => simp [intOf]; omega
      · have hge : len0 ≤ i := by omega
        have hsz0 := HGr.out.size
        have HKq : Kept (Pd wr g1 A1 len0 c1 ⟨0, 0, 0⟩) := kp (Blk.grown HK3.out HGr.out (by intro e; cases e; omega))
        have HRq : Kept (Row byteV wr g1 A1 len0 bs) := kp (HR3.out.grown HGr.out (Nat.le_of_lt hg13) (by
          intro a h0 e e2
          cases e2
          have h1 := HA3.out a e
          obtain ⟨a', e', hb', _⟩ := HR3.out.cells h0
          rw [e] at e'; cases e'
          omega))
        have HBq : Kept (Below w.heap.size w wr) := kp (HB3.out.grown HGr.out hs3 (by intro k e; cases e; exact hgaw))
        have hszq := HBq.out.size
        have hg1q : g1 < wr.heap.size := HKq.out.lt
        clear hlt hi
        go_wp2_with (first
          | ((with_reducible refine wpList_box_agg rfl 41 (.tmp 46) rfl (rdC a0 len0 cap0 ⟨0, 0, 0⟩) rfl ?_); intro g2 w5 hg5 hk5 hw5
             have HD5 : Kept (Rd w5 g2 a0 len0 cap0 ⟨0, 0, 0⟩) := kp hk5
             have HK5 : Kept (Pd w5 g1 A1 len0 c1 ⟨0, 0, 0⟩) := kp (Blk.below HKq.out hw5 hg1q)
             have HRA5 := kp (HRq.out.below (hw5.mono (Nat.le_of_lt hg1q)))
             have HB5 := kp (HBq.out.trans (hw5.mono hszq))
             have HRB5 := kp (HR.out.below HB5.out)
             clear hk5 hw5))
        have hg12 : g1 < g2 := by omega
        clear hge
        go_loopw [9] (fun v9 wr => ∃ (i : Nat) (s : R.St), i ≤ len1 ∧ v9 = .int .i64 i ∧ R.Ok bs s ∧ R.Fit s ∧ Pd wr g1 A1 len0 c1 s ∧ Rd wr g2 a0 len0 cap0 s ∧ Row byteV wr g1 A1 len0 bs ∧ Row byteV wr w.heap.size a0 len0 bs ∧ Below w.heap.size w wr) (fun v9 _ => len1 - (intOf v9).toNat)
        case atStart => exact ⟨0, ⟨0, 0, 0⟩, by omega, rfl, ⟨Nat.zero_le _, Nat.zero_le _, by decide⟩, rfl, HK5.out, HD5.out, HRA5.out, HRB5.out, HB5.out⟩
        case round =>
          clear HK5 HD5 HRA5 HRB5 HB5 HKq HRq HBq hszq hg1q HGr HCur hsz0 HK3 HR3 HA3 HB3 HB23 HGa HR2 HBk2 HC2 HO2 HB2 hs3 hg13 hga2 hgaw
          obtain ⟨i, s, hi, rfl, hok, hfit, hk, hd, hra, hrb, hb⟩ := hrel
          have HOk := kp hok; have HFit := kp hfit; have HKs := kp hk; have HDs := kp hd; have HRAs := kp hra; have HRBs := kp hrb; have HBs := kp hb
          have hsz := hb.size
          have hgw1 := hk.lt
          have hgw2 := hd.lt
          have hat : s.at_ ≤ len0 := by rw [← HL0.out]; exact hok.1
          clear hok hfit hk hd hra hrb hb
          have HRA : Kept (∀ W, Only (fun k => k = g1 ∨ k = g2) wr W → Row byteV W g1 A1 len0 bs) := kp fun W hW => HRAs.out.onlyB hW (Nat.le_of_lt hgw1) (by intro k hk hg; rcases hg with hg | hg <;> omega)
          have HRB : Kept (∀ W, Only (fun k => k = g1 ∨ k = g2) wr W → Row byteV W w.heap.size a0 len0 bs) := kp fun W hW => HRBs.out.onlyB hW hsz (by intro k hk hg; rcases hg with hg | hg <;> omega)
          by_cases hlt : i < len1
          · obtain ⟨ad, x, rfl, hab, hx, hxok, he0, he1, he2, he3⟩ := (HI1.out.below HBs.out).get hlt
            have HOx := kp hxok
            obtain ⟨hn1, hn2⟩ := hxok.n
            have hd256 := hxok.d
            clear hx hxok he2 he3
            have h4 : x.do_ % 4 = 0 ∨ x.do_ % 4 = 1 ∨ x.do_ % 4 = 2 ∨ x.do_ % 4 = 3 := by omega
            rcases h4 with h4 | h4 | h4 | h4
            · have h4' : (x.do_ : Int) % 4 = 0 := by omega
              obtain ⟨y, s', h1⟩ : ∃ y s1, R.num bs s x.n = (y, s1) := ⟨_, _, rfl⟩
              have hok' := (R.num_ok HN.out HOk.out x.n).1
              have hfit' := R.num_fit bs HFit.out x.n
              rw [h1] at hok' hfit'
              have H1 := kp h1; have HOk' := kp hok'; have HFit' := kp hfit'
              have hat' : s'.at_ ≤ len0 := by rw [← HL0.out]; exact hok'.1
              clear h1 h4 hok' hfit'
              go_wp2_with (first
                | (go_at_call 17; go_must (refine (pd_num g1 g1 A1 len0 c1 bs s HOk.out x.n y s' H1.out wr HKs.out HRAs.out HN.out hc1c HM1.out (Nat.le_refl _) (by omega)).mono ?_); rintro e w11 ⟨rfl, hk11, hg11, hr11⟩
                   have HK11 := kp hk11
                   have HD11 : Kept (Rd w11 g2 a0 len0 cap0 s) := kp (Blk.grown HDs.out hg11 (by intro e; cases e; omega))
                   have HRA11 := kp hr11
                   have HRB11 := kp (HRBs.out.turned hg11 hsz hwg1)
                   have HB11 : Kept (Below w.heap.size w w11) := kp (HBs.out.grown hg11 hsz (by intro k e; cases e; exact hwg1))
                   have hsz11 := HB11.out.size
                   have hlt11 := hk11.lt
                   have hszw11 := hg11.size
                   clear hk11 hg11 hr11)
                | (go_at_call 18; go_must (refine (rd_num g2 w.heap.size a0 len0 cap0 bs s HOk.out x.n y s' H1.out w11 HD11.out HRB11.out HN.out hlc hcm0 (by omega) (by omega)).mono ?_); rintro e wz ⟨rfl, hk12, hg12, hr12⟩
                   have HDz := kp hk12
                   have HKz : Kept (Pd wz g1 A1 len0 c1 s') := kp (Blk.grown HK11.out hg12 (by intro e; cases e; omega))
                   have HRBz := kp hr12
                   have HRAz := kp (HRA11.out.turned hg12 (by omega) (by omega))
                   have HBz : Kept (Below w.heap.size w wz) := kp (HB11.out.grown hg12 hsz11 (by intro k e; cases e; omega))
                   have hszz := HBz.out.size
                   clear hk12 hg12 hr12)
                | (go_at_call 24; go_must (refine (pd_fault g1 A1 len0 c1 s' HFit'.out wz HKz.out).mono ?_); rintro e w20 ⟨rfl, hb20⟩
                   have HK20 : Kept (Pd w20 g1 A1 len0 c1 s') := kp (Blk.below HKz.out hb20 HKz.out.lt)
                   have HD20 : Kept (Rd w20 g2 a0 len0 cap0 s') := kp (Blk.below HDz.out hb20 HDz.out.lt)
                   have HB20 := kp hb20
                   have hsz20 := hb20.size
                   clear hb20)
                | ((with_reducible show wpList _ _ _ (⟨some 11, _, _, _, _, _⟩ :: _) _ _); go_must (refine wpList_alloc_zero rfl 46 rfl _ spot_zero ?_); intro g11 w21 hg11 hk21 hw21; have HK21 := kp hk21
                   have HP21 : Kept (Pd w21 g1 A1 len0 c1 s') := kp (Blk.below HK20.out hw21 HK20.out.lt)
                   have HD21 : Kept (Rd w21 g2 a0 len0 cap0 s') := kp (Blk.below HD20.out hw21 HD20.out.lt)
                   have HB21 := kp (HB20.out.trans (hw21.mono hsz20))
                   have hsz21 := HB21.out.size
                   clear hk21 hw21)
                | ((with_reducible show wpList _ _ _ (⟨none, _, _, _, _, _⟩ :: _) _ _); go_must (refine wpList_store_blk rfl 46 (.tmp 11) (.tmp 106) rfl g11 [.int .i64 (s'.wh : Int), .int .i64 (s'.why : Int)] rfl rfl _ _ HK21.out spot_size rfl (spot_ones _ _) ?_); intro w22 hk22 hg22 hs22
                   obtain ⟨hd0, hd1⟩ := spot_cells hk22
                   have HP22 : Kept (Pd w22 g1 A1 len0 c1 s') := kp (Blk.grown HP21.out hg22 (by intro e; cases e; have := HKz.out.lt; omega))
                   have HD22 : Kept (Rd w22 g2 a0 len0 cap0 s') := kp (Blk.grown HD21.out hg22 (by intro e; cases e; have := HDz.out.lt; omega))
                   have HB22 : Kept (Below wz.heap.size wz w22) := kp (HB21.out.grown hg22 hsz21 (by intro k e; cases e; omega))
                   obtain ⟨hf0, hf1, hf2, hf3, _, _, _⟩ := HD22.out.cells
                   clear hk22 hg22))
              have hwr : IntKind.i64.wrap ((len0 : Int) - (s'.at_ : Int)) = (len0 : Int) - (s'.at_ : Int) := by rw [IntKind.wrap_i64]; omega
              go_quiet ((go_at_call 25; exact left_quiet g1 A1 len0 c1 s' w22 HP22.out hat' (by omega) _))
              go_wp2
              go_roundw
              case rel => exact ⟨i + 1, s', by omega, by go_num, HOk'.out, HFit'.out, HP22.out.drewN _, HD22.out.drewN _, (HRAz.out.below (HB22.out.mono (Nat.le_of_lt HKz.out.lt))).drewN _, (HRBz.out.below (HB22.out.mono hszz)).drewN _, below_drewN (HBz.out.trans (HB22.out.mono hszz)) _⟩
              case measure => simp [intOf]; omega
            · have h4' : (x.do_ : Int) % 4 = 1 := by omega
              obtain ⟨out, s', hx1⟩ : ∃ y s1, R.raw bs s x.n = (y, s1) := ⟨_, _, rfl⟩
              have hok' := R.raw_ok HOk.out x.n
              have hfit' := R.raw_fit bs HFit.out x.n
              rw [hx1] at hok' hfit'
              have HX := kp hx1; have HOk' := kp hok'; have HFit' := kp hfit'
              have hat' : s'.at_ ≤ len0 := by rw [← HL0.out]; exact hok'.1
              clear hx1 h4 hok' hfit'
              go_wp2
              apply region_acts (fun k => k = g1 ∨ k = g2) [2, 6] (phs [fun W => Pd W g1 A1 len0 c1 s ∧ Rd W g2 a0 len0 cap0 s, fun W => Pd W g1 A1 len0 c1 s' ∧ Rd W g2 a0 len0 cap0 s, fun W => Pd W g1 A1 len0 c1 s' ∧ Rd W g2 a0 len0 cap0 s']) (.is _ :: .is _ :: .bytes out :: .is _ :: .is _ :: .is _ :: .bytes out :: .is _ :: .is _ :: [])
                [[], [], [(0, 83), (1, 84)], [(2, 85)], [], [], [(4, 87), (5, 88)], [(6, 89)], [(3, 86), (7, 90)]]
                [(0, 83), (1, 84), (2, 85), (3, 86), (4, 87), (5, 88), (6, 89), (7, 90), (8, 91)] (by kernel_rfl) (by kernel_rfl) (by kernel_rfl) (by decide)
              case h0 => exact ⟨HKs.out, HDs.out⟩
              case hob =>
                refine gobs_calm rfl ?o0 (gobs_calm rfl ?o1 (gobs_act 0 rfl rfl ?o2 (gobs_calm rfl ?o3 (gobs_calm rfl ?o4 (gobs_calm rfl ?o5 (gobs_act 1 rfl rfl ?o6 (gobs_calm rfl ?o7 (gobs_calm rfl ?o8 (gobs_nil)))))))))
                case o0 => intro p W hO hJ; change wpList _ _ _ _ _ _; go_wp2; exact calm_post rfl rfl rfl hJ
                case o1 => intro p W hO hJ; change wpList _ _ _ _ _ _; go_wp2; exact calm_post rfl rfl rfl hJ
                case o2 =>
                  intro W hO hJ; rintro _ rfl; rintro _ rfl; change wpList _ _ _ _ _ _
                  obtain ⟨hj1, hj2⟩ : Pd W g1 A1 len0 c1 s ∧ Rd W g2 a0 len0 cap0 s := hJ
                  have hzW := hO.size
                  have HJ1 := kp hj1; have HJ2 := kp hj2; have HRow := kp (HRA.out W hO)
                  clear hj1 hj2 hO
                  go_wp2_with fail
                  refine (pd_raw g1 g1 A1 len0 c1 bs s HOk.out x.n out s' HX.out W HJ1.out HRow.out (by omega) hc1c (Nat.le_refl _) (by omega)).mono ?_
                  rintro e w2 ⟨v2, rfl, hown2, hk2, hg2, hr2⟩
                  have HO2 := kp hown2
                  clear hown2
                  have HK2 := kp hk2; have HG2 := kp hg2
                  clear hk2 hg2 hr2
                  go_wp2
                  exact act_post rfl rfl rfl (Only.of_grown HG2.out (.inl rfl)) ⟨HK2.out, Blk.grown HJ2.out HG2.out (by intro e; cases e; omega)⟩ (own_gbytes HO2.out (by intro k hk hg; rcases hg with hg | hg <;> omega))
                case o3 =>
                  intro p W hO hJ; rintro _ ⟨A2, c2, rfl, hr2, hg2⟩; change wpList _ _ _ _ _ _
                  have hcv := cv (c := c2) hr2
                  go_wp2; exact calm_post rfl rfl rfl hJ
                case o4 => intro p W hO hJ; change wpList _ _ _ _ _ _; go_wp2; exact calm_post rfl rfl rfl hJ
                case o5 => intro p W hO hJ; change wpList _ _ _ _ _ _; go_wp2; exact calm_post rfl rfl rfl hJ
                case o6 =>
                  intro W hO hJ; rintro _ rfl; rintro _ rfl; change wpList _ _ _ _ _ _
                  obtain ⟨hj1, hj2⟩ : Pd W g1 A1 len0 c1 s' ∧ Rd W g2 a0 len0 cap0 s := hJ
                  have hzW := hO.size
                  have HJ1 := kp hj1; have HJ2 := kp hj2; have HRow := kp (HRB.out W hO)
                  clear hj1 hj2 hO
                  go_wp2_with fail
                  refine (rd_raw g2 w.heap.size a0 len0 cap0 bs s HOk.out x.n ⟨hn1, hn2⟩ out s' HX.out W HJ2.out HRow.out (by omega) (by omega) (by omega)).mono ?_
                  rintro e w2 ⟨v2, rfl, hown2, hk2, hg2, hr2⟩
                  have HO2 := kp hown2
                  clear hown2
                  have HK2 := kp hk2; have HG2 := kp hg2
                  clear hk2 hg2 hr2
                  go_wp2
                  exact act_post rfl rfl rfl (Only.of_grown HG2.out (.inr rfl)) ⟨Blk.grown HJ1.out HG2.out (by intro e; cases e; omega), HK2.out⟩ (own_gbytes HO2.out (by intro k hk hg; rcases hg with hg | hg <;> omega))
                case o7 =>
                  intro p W hO hJ; rintro _ ⟨A6, c6, rfl, hr6, hg6⟩; change wpList _ _ _ _ _ _
                  have hcv := cv (c := c6) hr6
                  go_wp2; exact calm_post rfl rfl rfl hJ
                case o8 => intro p W hO hJ; rintro _ rfl; rintro _ rfl; change wpList _ _ _ _ _ _; go_wp2; exact calm_post rfl rfl rfl hJ
              case hend =>
                intro W hO hJ; rintro _ rfl; rintro _ rfl; rintro _ ⟨A2, c2, rfl, hr2, hg2⟩; rintro _ rfl; rintro _ rfl; rintro _ rfl; rintro _ ⟨A6, c6, rfl, hr6, hg6⟩; rintro _ rfl; rintro _ rfl
                simp only [ggiven, put_lit, List.set]
                have hO' : Only (fun k => k = g1 ∨ k = g2) wr W := hO
                obtain ⟨HKz, HDz⟩ : Kept (Pd W g1 A1 len0 c1 s') ∧ Kept (Rd W g2 a0 len0 cap0 s') := ⟨kp (show Pd W g1 A1 len0 c1 s' ∧ Rd W g2 a0 len0 cap0 s' from hJ).1, kp (show Pd W g1 A1 len0 c1 s' ∧ Rd W g2 a0 len0 cap0 s' from hJ).2⟩
                have HRAz := kp (HRA.out W hO)
                have HRBz := kp (HRB.out W hO)
                have HBz : Kept (Below w.heap.size w W) := kp (HBs.out.trans (hO.below hsz (by intro k hk; rcases hk with hk | hk <;> omega)))
                have hszz := HBz.out.size
                clear hJ hO hO' hr2 hg2 hr6 hg6 HRA HRB
                go_wp2_with (first
                  | (go_at_call 24; go_must (refine (pd_fault g1 A1 len0 c1 s' HFit'.out W HKz.out).mono ?_); rintro e w20 ⟨rfl, hb20⟩
                     have HK20 : Kept (Pd w20 g1 A1 len0 c1 s') := kp (Blk.below HKz.out hb20 HKz.out.lt)
                     have HD20 : Kept (Rd w20 g2 a0 len0 cap0 s') := kp (Blk.below HDz.out hb20 HDz.out.lt)
                     have HB20 := kp hb20
                     have hsz20 := hb20.size
                     clear hb20)
                  | ((with_reducible show wpList _ _ _ (⟨some 11, _, _, _, _, _⟩ :: _) _ _); go_must (refine wpList_alloc_zero rfl 46 rfl _ spot_zero ?_); intro g11 w21 hg11 hk21 hw21; have HK21 := kp hk21
                     have HP21 : Kept (Pd w21 g1 A1 len0 c1 s') := kp (Blk.below HK20.out hw21 HK20.out.lt)
                     have HD21 : Kept (Rd w21 g2 a0 len0 cap0 s') := kp (Blk.below HD20.out hw21 HD20.out.lt)
                     have HB21 := kp (HB20.out.trans (hw21.mono hsz20))
                     have hsz21 := HB21.out.size
                     clear hk21 hw21)
                  | ((with_reducible show wpList _ _ _ (⟨none, _, _, _, _, _⟩ :: _) _ _); go_must (refine wpList_store_blk rfl 46 (.tmp 11) (.tmp 106) rfl g11 [.int .i64 (s'.wh : Int), .int .i64 (s'.why : Int)] rfl rfl _ _ HK21.out spot_size rfl (spot_ones _ _) ?_); intro w22 hk22 hg22 hs22
                     obtain ⟨hd0, hd1⟩ := spot_cells hk22
                     have HP22 : Kept (Pd w22 g1 A1 len0 c1 s') := kp (Blk.grown HP21.out hg22 (by intro e; cases e; have := HKz.out.lt; omega))
                     have HD22 : Kept (Rd w22 g2 a0 len0 cap0 s') := kp (Blk.grown HD21.out hg22 (by intro e; cases e; have := HDz.out.lt; omega))
                     have HB22 : Kept (Below W.heap.size W w22) := kp (HB21.out.grown hg22 hsz21 (by intro k e; cases e; omega))
                     obtain ⟨hf0, hf1, hf2, hf3, _, _, _⟩ := HD22.out.cells
                     clear hk22 hg22))
                have hwr : IntKind.i64.wrap ((len0 : Int) - (s'.at_ : Int)) = (len0 : Int) - (s'.at_ : Int) := by rw [IntKind.wrap_i64]; omega
                go_quiet ((go_at_call 25; exact left_quiet g1 A1 len0 c1 s' w22 HP22.out hat' (by omega) _))
                go_wp2
                go_roundw
                case rel => exact ⟨i + 1, s', by omega, by go_num, HOk'.out, HFit'.out, HP22.out.drewN _, HD22.out.drewN _, (HRAz.out.below (HB22.out.mono (Nat.le_of_lt HKz.out.lt))).drewN _, (HRBz.out.below (HB22.out.mono hszz)).drewN _, below_drewN (HBz.out.trans (HB22.out.mono hszz)) _⟩
                case measure => simp [intOf]; omega
            · have h4' : (x.do_ : Int) % 4 = 2 := by omega
              obtain ⟨y, s1, h1⟩ : ∃ y s1, R.num bs s x.n = (y, s1) := ⟨_, _, rfl⟩
              have hok1 := R.num_ok HN.out HOk.out x.n
              have hfit1 := R.num_fit bs HFit.out x.n
              rw [h1] at hok1 hfit1
              have hy32 := hok1.2
              have HOk1 := kp hok1.1; have H1 := kp h1
              obtain ⟨out, s', hx1⟩ : ∃ y' s', R.raw bs s1 (y : Int) = (y', s') := ⟨_, _, rfl⟩
              have hok' := R.raw_ok HOk1.out (y : Int)
              have hfit' := R.raw_fit bs hfit1 (y : Int)
              rw [hx1] at hok' hfit'
              have HX := kp hx1; have HOk' := kp hok'; have HFit' := kp hfit'
              have hat' : s'.at_ ≤ len0 := by rw [← HL0.out]; exact hok'.1
              clear hx1 h1 h4 hok' hfit' hok1 hfit1
              go_wp2
              apply region_acts (fun k => k = g1 ∨ k = g2) [2, 7, 8] (phs [fun W => Pd W g1 A1 len0 c1 s ∧ Rd W g2 a0 len0 cap0 s, fun W => Pd W g1 A1 len0 c1 s' ∧ Rd W g2 a0 len0 cap0 s, fun W => Pd W g1 A1 len0 c1 s' ∧ Rd W g2 a0 len0 cap0 s1, fun W => Pd W g1 A1 len0 c1 s' ∧ Rd W g2 a0 len0 cap0 s']) (.is _ :: .is _ :: .bytes out :: .is _ :: .is _ :: .is _ :: .is _ :: .is _ :: .bytes out :: .is _ :: .is _ :: [])
                [[], [], [(0, 94), (1, 95)], [(2, 96)], [], [], [], [(5, 99), (6, 100)], [(4, 98), (7, 101)], [(8, 102)], [(3, 97), (9, 103)]]
                [(0, 94), (1, 95), (2, 96), (3, 97), (4, 98), (5, 99), (6, 100), (7, 101), (8, 102), (9, 103), (10, 104)] (by kernel_rfl) (by kernel_rfl) (by kernel_rfl) (by decide)
              case h0 => exact ⟨HKs.out, HDs.out⟩
              case hob =>
                refine gobs_calm rfl ?o0 (gobs_calm rfl ?o1 (gobs_act 0 rfl rfl ?o2 (gobs_calm rfl ?o3 (gobs_calm rfl ?o4 (gobs_calm rfl ?o5 (gobs_calm rfl ?o6 (gobs_act 1 rfl rfl ?o7 (gobs_act 2 rfl rfl ?o8 (gobs_calm rfl ?o9 (gobs_calm rfl ?o10 (gobs_nil)))))))))))
                case o0 => intro p W hO hJ; change wpList _ _ _ _ _ _; go_wp2; exact calm_post rfl rfl rfl hJ
                case o1 => intro p W hO hJ; change wpList _ _ _ _ _ _; go_wp2; exact calm_post rfl rfl rfl hJ
                case o2 =>
                  intro W hO hJ; rintro _ rfl; rintro _ rfl; change wpList _ _ _ _ _ _
                  obtain ⟨hj1, hj2⟩ : Pd W g1 A1 len0 c1 s ∧ Rd W g2 a0 len0 cap0 s := hJ
                  have hzW := hO.size
                  have HJ1 := kp hj1; have HJ2 := kp hj2; have HRow := kp (HRA.out W hO)
                  clear hj1 hj2 hO
                  go_wp2_with fail
                  refine (pd_block g1 g1 A1 len0 c1 bs s HOk.out x.n y s1 H1.out out s' HX.out W HJ1.out HRow.out HN.out (by omega) hc1c HM1.out (Nat.le_refl _) (by omega)).mono ?_
                  rintro e w2 ⟨v2, rfl, hown2, hk2, hg2, hr2⟩
                  have HO2 := kp hown2
                  clear hown2
                  have HK2 := kp hk2; have HG2 := kp hg2
                  clear hk2 hg2 hr2
                  go_wp2
                  exact act_post rfl rfl rfl (Only.of_grown HG2.out (.inl rfl)) ⟨HK2.out, Blk.grown HJ2.out HG2.out (by intro e; cases e; omega)⟩ (own_gbytes HO2.out (by intro k hk hg; rcases hg with hg | hg <;> omega))
                case o3 =>
                  intro p W hO hJ; rintro _ ⟨A2, c2, rfl, hr2, hg2⟩; change wpList _ _ _ _ _ _
                  have hcv := cv (c := c2) hr2
                  go_wp2; exact calm_post rfl rfl rfl hJ
                case o4 => intro p W hO hJ; change wpList _ _ _ _ _ _; go_wp2; exact calm_post rfl rfl rfl hJ
                case o5 => intro p W hO hJ; change wpList _ _ _ _ _ _; go_wp2; exact calm_post rfl rfl rfl hJ
                case o6 => intro p W hO hJ; change wpList _ _ _ _ _ _; go_wp2; exact calm_post rfl rfl rfl hJ
                case o7 =>
                  intro W hO hJ; rintro _ rfl; rintro _ rfl; change wpList _ _ _ _ _ _
                  obtain ⟨hj1, hj2⟩ : Pd W g1 A1 len0 c1 s' ∧ Rd W g2 a0 len0 cap0 s := hJ
                  have hzW := hO.size
                  have HJ1 := kp hj1; have HJ2 := kp hj2; have HRow := kp (HRB.out W hO)
                  clear hj1 hj2 hO
                  go_wp2_with fail
                  refine (rd_num g2 w.heap.size a0 len0 cap0 bs s HOk.out x.n y s1 H1.out W HJ2.out HRow.out HN.out hlc hcm0 (by omega) (by omega)).mono ?_
                  rintro e w2 ⟨rfl, hk2, hg2, hr2⟩
                  have HK2 := kp hk2; have HG2 := kp hg2
                  clear hk2 hg2 hr2
                  go_wp2
                  exact act_post rfl rfl rfl (Only.of_grown HG2.out (.inr rfl)) ⟨Blk.grown HJ1.out HG2.out (by intro e; cases e; omega), HK2.out⟩ rfl
                case o8 =>
                  intro W hO hJ; rintro _ rfl; rintro _ rfl; change wpList _ _ _ _ _ _
                  obtain ⟨hj1, hj2⟩ : Pd W g1 A1 len0 c1 s' ∧ Rd W g2 a0 len0 cap0 s1 := hJ
                  have hzW := hO.size
                  have HJ1 := kp hj1; have HJ2 := kp hj2; have HRow := kp (HRB.out W hO)
                  clear hj1 hj2 hO
                  go_wp2_with fail
                  refine (rd_raw g2 w.heap.size a0 len0 cap0 bs s1 HOk1.out (y : Int) (by omega) out s' HX.out W HJ2.out HRow.out (by omega) (by omega) (by omega)).mono ?_
                  rintro e w2 ⟨v2, rfl, hown2, hk2, hg2, hr2⟩
                  have HO2 := kp hown2
                  clear hown2
                  have HK2 := kp hk2; have HG2 := kp hg2
                  clear hk2 hg2 hr2
                  go_wp2
                  exact act_post rfl rfl rfl (Only.of_grown HG2.out (.inr rfl)) ⟨Blk.grown HJ1.out HG2.out (by intro e; cases e; omega), HK2.out⟩ (own_gbytes HO2.out (by intro k hk hg; rcases hg with hg | hg <;> omega))
                case o9 =>
                  intro p W hO hJ; rintro _ ⟨A8, c8, rfl, hr8, hg8⟩; change wpList _ _ _ _ _ _
                  have hcv := cv (c := c8) hr8
                  go_wp2; exact calm_post rfl rfl rfl hJ
                case o10 => intro p W hO hJ; rintro _ rfl; rintro _ rfl; change wpList _ _ _ _ _ _; go_wp2; exact calm_post rfl rfl rfl hJ
              case hend =>
                intro W hO hJ; rintro _ rfl; rintro _ rfl; rintro _ ⟨A2, c2, rfl, hr2, hg2⟩; rintro _ rfl; rintro _ rfl; rintro _ rfl; rintro _ rfl; rintro _ rfl; rintro _ ⟨A8, c8, rfl, hr8, hg8⟩; rintro _ rfl; rintro _ rfl
                simp only [ggiven, put_lit, List.set]
                have hO' : Only (fun k => k = g1 ∨ k = g2) wr W := hO
                obtain ⟨HKz, HDz⟩ : Kept (Pd W g1 A1 len0 c1 s') ∧ Kept (Rd W g2 a0 len0 cap0 s') := ⟨kp (show Pd W g1 A1 len0 c1 s' ∧ Rd W g2 a0 len0 cap0 s' from hJ).1, kp (show Pd W g1 A1 len0 c1 s' ∧ Rd W g2 a0 len0 cap0 s' from hJ).2⟩
                have HRAz := kp (HRA.out W hO)
                have HRBz := kp (HRB.out W hO)
                have HBz : Kept (Below w.heap.size w W) := kp (HBs.out.trans (hO.below hsz (by intro k hk; rcases hk with hk | hk <;> omega)))
                have hszz := HBz.out.size
                clear hJ hO hO' hr2 hg2 hr8 hg8 HRA HRB
                go_wp2_with (first
                  | (go_at_call 24; go_must (refine (pd_fault g1 A1 len0 c1 s' HFit'.out W HKz.out).mono ?_); rintro e w20 ⟨rfl, hb20⟩
                     have HK20 : Kept (Pd w20 g1 A1 len0 c1 s') := kp (Blk.below HKz.out hb20 HKz.out.lt)
                     have HD20 : Kept (Rd w20 g2 a0 len0 cap0 s') := kp (Blk.below HDz.out hb20 HDz.out.lt)
                     have HB20 := kp hb20
                     have hsz20 := hb20.size
                     clear hb20)
                  | ((with_reducible show wpList _ _ _ (⟨some 11, _, _, _, _, _⟩ :: _) _ _); go_must (refine wpList_alloc_zero rfl 46 rfl _ spot_zero ?_); intro g11 w21 hg11 hk21 hw21; have HK21 := kp hk21
                     have HP21 : Kept (Pd w21 g1 A1 len0 c1 s') := kp (Blk.below HK20.out hw21 HK20.out.lt)
                     have HD21 : Kept (Rd w21 g2 a0 len0 cap0 s') := kp (Blk.below HD20.out hw21 HD20.out.lt)
                     have HB21 := kp (HB20.out.trans (hw21.mono hsz20))
                     have hsz21 := HB21.out.size
                     clear hk21 hw21)
                  | ((with_reducible show wpList _ _ _ (⟨none, _, _, _, _, _⟩ :: _) _ _); go_must (refine wpList_store_blk rfl 46 (.tmp 11) (.tmp 106) rfl g11 [.int .i64 (s'.wh : Int), .int .i64 (s'.why : Int)] rfl rfl _ _ HK21.out spot_size rfl (spot_ones _ _) ?_); intro w22 hk22 hg22 hs22
                     obtain ⟨hd0, hd1⟩ := spot_cells hk22
                     have HP22 : Kept (Pd w22 g1 A1 len0 c1 s') := kp (Blk.grown HP21.out hg22 (by intro e; cases e; have := HKz.out.lt; omega))
                     have HD22 : Kept (Rd w22 g2 a0 len0 cap0 s') := kp (Blk.grown HD21.out hg22 (by intro e; cases e; have := HDz.out.lt; omega))
                     have HB22 : Kept (Below W.heap.size W w22) := kp (HB21.out.grown hg22 hsz21 (by intro k e; cases e; omega))
                     obtain ⟨hf0, hf1, hf2, hf3, _, _, _⟩ := HD22.out.cells
                     clear hk22 hg22))
                have hwr : IntKind.i64.wrap ((len0 : Int) - (s'.at_ : Int)) = (len0 : Int) - (s'.at_ : Int) := by rw [IntKind.wrap_i64]; omega
                go_quiet ((go_at_call 25; exact left_quiet g1 A1 len0 c1 s' w22 HP22.out hat' (by omega) _))
                go_wp2
                go_roundw
                case rel => exact ⟨i + 1, s', by omega, by go_num, HOk'.out, HFit'.out, HP22.out.drewN _, HD22.out.drewN _, (HRAz.out.below (HB22.out.mono (Nat.le_of_lt HKz.out.lt))).drewN _, (HRBz.out.below (HB22.out.mono hszz)).drewN _, below_drewN (HBz.out.trans (HB22.out.mono hszz)) _⟩
                case measure => simp [intOf]; omega
            · have h4' : (x.do_ : Int) % 4 = 3 := by omega
              obtain ⟨y, s', h1⟩ : ∃ y s1, R.set bs s x.n = (y, s1) := ⟨_, _, rfl⟩
              have hok' := (R.set_ok HN.out HOk.out x.n).1
              have hfit' := R.set_fit bs HFit.out x.n
              rw [h1] at hok' hfit'
              have H1 := kp h1; have HOk' := kp hok'; have HFit' := kp hfit'
              have hat' : s'.at_ ≤ len0 := by rw [← HL0.out]; exact hok'.1
              clear h1 h4 hok' hfit'
              go_wp2_with (first
                | (go_at_call 22; go_must (refine (pd_set g1 g1 A1 len0 c1 bs s HOk.out x.n ⟨hn1, hn2⟩ y s' H1.out wr HKs.out HRAs.out HN.out hc1c HM1.out (Nat.le_refl _) (by omega)).mono ?_); rintro e w11 ⟨rfl, hk11, hg11, hr11⟩
                   have HK11 := kp hk11
                   have HD11 : Kept (Rd w11 g2 a0 len0 cap0 s) := kp (Blk.grown HDs.out hg11 (by intro e; cases e; omega))
                   have HRA11 := kp hr11
                   have HRB11 := kp (HRBs.out.turned hg11 hsz hwg1)
                   have HB11 : Kept (Below w.heap.size w w11) := kp (HBs.out.grown hg11 hsz (by intro k e; cases e; exact hwg1))
                   have hsz11 := HB11.out.size
                   have hlt11 := hk11.lt
                   have hszw11 := hg11.size
                   clear hk11 hg11 hr11)
                | (go_at_call 23; go_must (refine (rd_set g2 w.heap.size a0 len0 cap0 bs s HOk.out x.n ⟨hn1, hn2⟩ y s' H1.out w11 HD11.out HRB11.out HN.out hlc hcm0 (by omega) (by omega)).mono ?_); rintro e wz ⟨rfl, hk12, hg12, hr12⟩
                   have HDz := kp hk12
                   have HKz : Kept (Pd wz g1 A1 len0 c1 s') := kp (Blk.grown HK11.out hg12 (by intro e; cases e; omega))
                   have HRBz := kp hr12
                   have HRAz := kp (HRA11.out.turned hg12 (by omega) (by omega))
                   have HBz : Kept (Below w.heap.size w wz) := kp (HB11.out.grown hg12 hsz11 (by intro k e; cases e; omega))
                   have hszz := HBz.out.size
                   clear hk12 hg12 hr12)
                | (go_at_call 24; go_must (refine (pd_fault g1 A1 len0 c1 s' HFit'.out wz HKz.out).mono ?_); rintro e w20 ⟨rfl, hb20⟩
                   have HK20 : Kept (Pd w20 g1 A1 len0 c1 s') := kp (Blk.below HKz.out hb20 HKz.out.lt)
                   have HD20 : Kept (Rd w20 g2 a0 len0 cap0 s') := kp (Blk.below HDz.out hb20 HDz.out.lt)
                   have HB20 := kp hb20
                   have hsz20 := hb20.size
                   clear hb20)
                | ((with_reducible show wpList _ _ _ (⟨some 11, _, _, _, _, _⟩ :: _) _ _); go_must (refine wpList_alloc_zero rfl 46 rfl _ spot_zero ?_); intro g11 w21 hg11 hk21 hw21; have HK21 := kp hk21
                   have HP21 : Kept (Pd w21 g1 A1 len0 c1 s') := kp (Blk.below HK20.out hw21 HK20.out.lt)
                   have HD21 : Kept (Rd w21 g2 a0 len0 cap0 s') := kp (Blk.below HD20.out hw21 HD20.out.lt)
                   have HB21 := kp (HB20.out.trans (hw21.mono hsz20))
                   have hsz21 := HB21.out.size
                   clear hk21 hw21)
                | ((with_reducible show wpList _ _ _ (⟨none, _, _, _, _, _⟩ :: _) _ _); go_must (refine wpList_store_blk rfl 46 (.tmp 11) (.tmp 106) rfl g11 [.int .i64 (s'.wh : Int), .int .i64 (s'.why : Int)] rfl rfl _ _ HK21.out spot_size rfl (spot_ones _ _) ?_); intro w22 hk22 hg22 hs22
                   obtain ⟨hd0, hd1⟩ := spot_cells hk22
                   have HP22 : Kept (Pd w22 g1 A1 len0 c1 s') := kp (Blk.grown HP21.out hg22 (by intro e; cases e; have := HKz.out.lt; omega))
                   have HD22 : Kept (Rd w22 g2 a0 len0 cap0 s') := kp (Blk.grown HD21.out hg22 (by intro e; cases e; have := HDz.out.lt; omega))
                   have HB22 : Kept (Below wz.heap.size wz w22) := kp (HB21.out.grown hg22 hsz21 (by intro k e; cases e; omega))
                   obtain ⟨hf0, hf1, hf2, hf3, _, _, _⟩ := HD22.out.cells
                   clear hk22 hg22))
              have hwr : IntKind.i64.wrap ((len0 : Int) - (s'.at_ : Int)) = (len0 : Int) - (s'.at_ : Int) := by rw [IntKind.wrap_i64]; omega
              go_quiet ((go_at_call 25; exact left_quiet g1 A1 len0 c1 s' w22 HP22.out hat' (by omega) _))
              go_wp2
              go_roundw
              case rel => exact ⟨i + 1, s', by omega, by go_num, HOk'.out, HFit'.out, HP22.out.drewN _, HD22.out.drewN _, (HRAz.out.below (HB22.out.mono (Nat.le_of_lt HKz.out.lt))).drewN _, (HRBz.out.below (HB22.out.mono hszz)).drewN _, below_drewN (HBz.out.trans (HB22.out.mono hszz)) _⟩
              case measure => simp [intOf]; omega
          · have hge : len1 ≤ i := by omega
            obtain ⟨hc0, hc1d, hc2d, hc3, _, _, _⟩ := HDs.out.cells
            clear hlt
            by_cases hw : s.why = 0
            · have hwz : ((s.why : Int) == 0) = true := by simp; omega
              by_cases hat0 : s.at_ < len0
              · obtain ⟨s', hs'⟩ : ∃ s', R.fail s 7 = s' := ⟨_, rfl⟩
                have HFl := kp hs'
                have HS' : Kept ((if s.why = 0 ∧ s.at_ < len0 then R.fail s 7 else s) = s') := kp (by rw [if_pos ⟨hw, hat0⟩]; exact hs')
                have hw7 : s'.why = 7 := by rw [← hs']; unfold R.fail; rw [if_pos hw]
                have HBb : Kept (decide (s'.why = 0) = false) := kp (by rw [hw7]; rfl)
                have hbz : ((s'.why : Int) == 0) = false := by rw [hw7]; rfl
                have hat1 : s'.at_ = s.at_ := by rw [← hs']; unfold R.fail; rw [if_pos hw]
                have HAt1 := kp hat1
                clear hs' hw hw7 hat1
                have HFit' : Kept (R.Fit s') := kp (by rw [← HFl.out]; exact R.fail_fit HFit.out (by decide))
                have hat' : s'.at_ ≤ len0 := by rw [HAt1.out]; exact hat
                go_wp2_with (first
                  | (go_at_call 26; go_must (refine (rd_fail g2 a0 len0 cap0 s 7 s' HFl.out wr HDs.out).mono ?_); rintro e w11 ⟨rfl, hk11, hg11⟩
                     have HD11 := kp hk11
                     have HK11 : Kept (Pd w11 g1 A1 len0 c1 s) := kp (Blk.grown HKs.out hg11 (by intro e; cases e; omega))
                     have HB11 : Kept (Below w.heap.size w w11) := kp (HBs.out.grown hg11 hsz (by intro k e; cases e; omega))
                     have hsz11 := HB11.out.size
                     clear hk11 hg11 hc0 hc1d hc2d hc3)
                  | (go_at_call 27; go_must (refine (pd_done_b g1 A1 len0 c1 s w11 HK11.out hat (by omega) s' HS'.out false HBb.out).mono ?_); rintro e wz ⟨rfl, hk12, hg12⟩
                     have HKz := kp hk12
                     have HDz : Kept (Rd wz g2 a0 len0 cap0 s') := kp (Blk.grown (show Rd w11 g2 a0 len0 cap0 s' from HD11.out) hg12 (by intro e; cases e; omega))
                     have HBz : Kept (Below w.heap.size w wz) := kp (HB11.out.grown hg12 hsz11 (by intro k e; cases e; exact hwg1))
                     have hszz := HBz.out.size
                     clear hk12 hg12)
                  | (go_at_call 24; go_must (refine (pd_fault g1 A1 len0 c1 s' HFit'.out wz HKz.out).mono ?_); rintro e w20 ⟨rfl, hb20⟩
                     have HK20 : Kept (Pd w20 g1 A1 len0 c1 s') := kp (Blk.below HKz.out hb20 HKz.out.lt)
                     have HD20 : Kept (Rd w20 g2 a0 len0 cap0 s') := kp (Blk.below HDz.out hb20 HDz.out.lt)
                     have HB20 := kp hb20
                     have hsz20 := hb20.size
                     clear hb20)
                  | ((with_reducible show wpList _ _ _ (⟨some 13, _, _, _, _, _⟩ :: _) _ _); go_must (refine wpList_alloc_zero rfl 46 rfl _ spot_zero ?_); intro g11 w21 hg11 hk21 hw21; have HK21 := kp hk21
                     have HP21 : Kept (Pd w21 g1 A1 len0 c1 s') := kp (Blk.below HK20.out hw21 HK20.out.lt)
                     have HD21 : Kept (Rd w21 g2 a0 len0 cap0 s') := kp (Blk.below HD20.out hw21 HD20.out.lt)
                     have HB21 := kp (HB20.out.trans (hw21.mono hsz20))
                     have hsz21 := HB21.out.size
                     clear hk21 hw21)
                  | ((with_reducible show wpList _ _ _ (⟨none, _, _, _, _, _⟩ :: _) _ _); go_must (refine wpList_store_blk rfl 46 (.tmp 13) (.tmp 154) rfl g11 [.int .i64 (s'.wh : Int), .int .i64 (s'.why : Int)] rfl rfl _ _ HK21.out spot_size rfl (spot_ones _ _) ?_); intro w22 hk22 hg22 hs22
                     obtain ⟨hd0, hd1⟩ := spot_cells hk22
                     have HP22 : Kept (Pd w22 g1 A1 len0 c1 s') := kp (Blk.grown HP21.out hg22 (by intro e; cases e; have := HKz.out.lt; omega))
                     have HD22 : Kept (Rd w22 g2 a0 len0 cap0 s') := kp (Blk.grown HD21.out hg22 (by intro e; cases e; have := HDz.out.lt; omega))
                     have HB22 : Kept (Below wz.heap.size wz w22) := kp (HB21.out.grown hg22 hsz21 (by intro k e; cases e; omega))
                     obtain ⟨hf0, hf1, hf2, hf3, _, _, _⟩ := HD22.out.cells
                     clear hk22 hg22))
                go_quiet (fail)
                go_wp2
                go_ret
                exact ⟨rfl, below_drewN (HBz.out.trans (HB22.out.mono hszz)) _⟩
              · have HS' : Kept ((if s.why = 0 ∧ s.at_ < len0 then R.fail s 7 else s) = s) := kp (by rw [if_neg (fun h => hat0 h.2)])
                have HBb : Kept (decide (s.why = 0) = true) := kp (decide_eq_true hw)
                clear hw
                have hge0 : len0 ≤ s.at_ := by omega
                clear hat0
                have HFitp : Kept (R.Fit s) := kp HFit.out
                have hatp : s.at_ ≤ len0 := hat
                go_wp2_with (first
                  | (go_at_call 27; go_must (refine (pd_done_b g1 A1 len0 c1 s wr HKs.out hat (by omega) s HS'.out true HBb.out).mono ?_); rintro e wz ⟨rfl, hk12, hg12⟩
                     have HKz := kp hk12
                     have HDz : Kept (Rd wz g2 a0 len0 cap0 s) := kp (Blk.grown (show Rd wr g2 a0 len0 cap0 s from HDs.out) hg12 (by intro e; cases e; omega))
                     have HBz : Kept (Below w.heap.size w wz) := kp (HBs.out.grown hg12 hsz (by intro k e; cases e; exact hwg1))
                     have hszz := HBz.out.size
                     clear hk12 hg12)
                  | (go_at_call 24; go_must (refine (pd_fault g1 A1 len0 c1 s HFitp.out wz HKz.out).mono ?_); rintro e w20 ⟨rfl, hb20⟩
                     have HK20 : Kept (Pd w20 g1 A1 len0 c1 s) := kp (Blk.below HKz.out hb20 HKz.out.lt)
                     have HD20 : Kept (Rd w20 g2 a0 len0 cap0 s) := kp (Blk.below HDz.out hb20 HDz.out.lt)
                     have HB20 := kp hb20
                     have hsz20 := hb20.size
                     clear hb20)
                  | ((with_reducible show wpList _ _ _ (⟨some 13, _, _, _, _, _⟩ :: _) _ _); go_must (refine wpList_alloc_zero rfl 46 rfl _ spot_zero ?_); intro g11 w21 hg11 hk21 hw21; have HK21 := kp hk21
                     have HP21 : Kept (Pd w21 g1 A1 len0 c1 s) := kp (Blk.below HK20.out hw21 HK20.out.lt)
                     have HD21 : Kept (Rd w21 g2 a0 len0 cap0 s) := kp (Blk.below HD20.out hw21 HD20.out.lt)
                     have HB21 := kp (HB20.out.trans (hw21.mono hsz20))
                     have hsz21 := HB21.out.size
                     clear hk21 hw21)
                  | ((with_reducible show wpList _ _ _ (⟨none, _, _, _, _, _⟩ :: _) _ _); go_must (refine wpList_store_blk rfl 46 (.tmp 13) (.tmp 154) rfl g11 [.int .i64 (s.wh : Int), .int .i64 (s.why : Int)] rfl rfl _ _ HK21.out spot_size rfl (spot_ones _ _) ?_); intro w22 hk22 hg22 hs22
                     obtain ⟨hd0, hd1⟩ := spot_cells hk22
                     have HP22 : Kept (Pd w22 g1 A1 len0 c1 s) := kp (Blk.grown HP21.out hg22 (by intro e; cases e; have := HKz.out.lt; omega))
                     have HD22 : Kept (Rd w22 g2 a0 len0 cap0 s) := kp (Blk.grown HD21.out hg22 (by intro e; cases e; have := HDz.out.lt; omega))
                     have HB22 : Kept (Below wz.heap.size wz w22) := kp (HB21.out.grown hg22 hsz21 (by intro k e; cases e; omega))
                     obtain ⟨hf0, hf1, hf2, hf3, _, _, _⟩ := HD22.out.cells
                     clear hk22 hg22))
                go_quiet (fail)
                go_wp2
                go_ret
                exact ⟨rfl, below_drewN (HBz.out.trans (HB22.out.mono hszz)) _⟩
            · have hwz : ((s.why : Int) == 0) = false := by simp; omega
              have HS' : Kept ((if s.why = 0 ∧ s.at_ < len0 then R.fail s 7 else s) = s) := kp (by rw [if_neg (fun h => hw h.1)])
              have HBb : Kept (decide (s.why = 0) = false) := kp (decide_eq_false hw)
              clear hw
              have HFitp : Kept (R.Fit s) := kp HFit.out
              have hatp : s.at_ ≤ len0 := hat
              go_wp2_with (first
                | (go_at_call 27; go_must (refine (pd_done_b g1 A1 len0 c1 s wr HKs.out hat (by omega) s HS'.out false HBb.out).mono ?_); rintro e wz ⟨rfl, hk12, hg12⟩
                   have HKz := kp hk12
                   have HDz : Kept (Rd wz g2 a0 len0 cap0 s) := kp (Blk.grown (show Rd wr g2 a0 len0 cap0 s from HDs.out) hg12 (by intro e; cases e; omega))
                   have HBz : Kept (Below w.heap.size w wz) := kp (HBs.out.grown hg12 hsz (by intro k e; cases e; exact hwg1))
                   have hszz := HBz.out.size
                   clear hk12 hg12)
                | (go_at_call 24; go_must (refine (pd_fault g1 A1 len0 c1 s HFitp.out wz HKz.out).mono ?_); rintro e w20 ⟨rfl, hb20⟩
                   have HK20 : Kept (Pd w20 g1 A1 len0 c1 s) := kp (Blk.below HKz.out hb20 HKz.out.lt)
                   have HD20 : Kept (Rd w20 g2 a0 len0 cap0 s) := kp (Blk.below HDz.out hb20 HDz.out.lt)
                   have HB20 := kp hb20
                   have hsz20 := hb20.size
                   clear hb20)
                | ((with_reducible show wpList _ _ _ (⟨some 13, _, _, _, _, _⟩ :: _) _ _); go_must (refine wpList_alloc_zero rfl 46 rfl _ spot_zero ?_); intro g11 w21 hg11 hk21 hw21; have HK21 := kp hk21
                   have HP21 : Kept (Pd w21 g1 A1 len0 c1 s) := kp (Blk.below HK20.out hw21 HK20.out.lt)
                   have HD21 : Kept (Rd w21 g2 a0 len0 cap0 s) := kp (Blk.below HD20.out hw21 HD20.out.lt)
                   have HB21 := kp (HB20.out.trans (hw21.mono hsz20))
                   have hsz21 := HB21.out.size
                   clear hk21 hw21)
                | ((with_reducible show wpList _ _ _ (⟨none, _, _, _, _, _⟩ :: _) _ _); go_must (refine wpList_store_blk rfl 46 (.tmp 13) (.tmp 154) rfl g11 [.int .i64 (s.wh : Int), .int .i64 (s.why : Int)] rfl rfl _ _ HK21.out spot_size rfl (spot_ones _ _) ?_); intro w22 hk22 hg22 hs22
                   obtain ⟨hd0, hd1⟩ := spot_cells hk22
                   have HP22 : Kept (Pd w22 g1 A1 len0 c1 s) := kp (Blk.grown HP21.out hg22 (by intro e; cases e; have := HKz.out.lt; omega))
                   have HD22 : Kept (Rd w22 g2 a0 len0 cap0 s) := kp (Blk.grown HD21.out hg22 (by intro e; cases e; have := HDz.out.lt; omega))
                   have HB22 : Kept (Below wz.heap.size wz w22) := kp (HB21.out.grown hg22 hsz21 (by intro k e; cases e; omega))
                   obtain ⟨hf0, hf1, hf2, hf3, _, _, _⟩ := HD22.out.cells
                   clear hk22 hg22))
              go_quiet (fail)
              go_wp2
              go_ret
              exact ⟨rfl, below_drewN (HBz.out.trans (HB22.out.mono hszz)) _⟩
end Go.Proofs.YtgdnimhhhllgaaaDoor
