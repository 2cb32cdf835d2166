/- TextR8, WTextParses, in one text. -/
import Derived.Test.YtiojobajcnifpaaDoorTextR7
import Derived.Test.YtiojobajcnifpaaDoorPk22
import Derived.Test.YtiojobajcnifpaaDoorWTextBack
/- The document's Parse, walked: any text. -/
namespace Go.Proofs.YtiojobajcnifpaaDoor
open Go.RowKit
set_option linter.unusedVariables false

set_option maxRecDepth 1000000 in
set_option maxHeartbeats 4000000 in
theorem rf_parse_long (l : List UInt8) (w : World) (hl : 65536 < l.length) : Calls Tryd.prog 10 #[.string (T.str l)] w fun e w' => TextPost w (T.parse l) e w' := by
  have HP : Kept (T.parse l = (C.none_, 0, 4)) := kp (by unfold T.parse; rw [if_pos hl])
  have hsz : 65536 < (T.str l).size := by rw [T.str_size]; exact hl
  clear hl
  go_enter Tryd.func10, Tryd.ntmps10
  go_wp2_with (first
    | ((with_reducible show wpList _ _ _ (⟨some 2, _, _, _, _, _⟩ :: _) _ _); go_must (refine wpList_alloc_zero rfl 25 rfl _ tx_pg_zero ?_); intro gr w1 hgr hk1 hw1; have HK1 := kp hk1; have HW1 := kp hw1; have hs1 := hw1.size; have hl1 := hk1.lt; clear hk1 hw1)
    | ((with_reducible show wpList _ _ _ (⟨some 24, _, _, _, _, _⟩ :: _) _ _); go_must (refine wpList_build_run rfl _ _ rfl _ (by simp [Act.eval]) _ rf_build_pg ?_))
    | ((with_reducible show wpList _ _ _ (⟨some 5, _, _, _, _, _⟩ :: _) _ _); go_must (refine wpList_alloc_zero rfl 25 rfl _ tx_pg_zero ?_); intro g5 w2 hg5 hk2 hw2; have HK2 := kp hk2; have HW2 := kp (HW1.out.trans (hw2.mono hs1)); have HKr2 := kp (HK1.out.below hw2 hl1); have hs2 := HW2.out.size; have hne5 : gr ≠ g5 := by omega
       have hg5w : w.heap.size ≤ g5 := Nat.le_trans hs1 hg5
       clear hk2 hw2)
    | ((with_reducible show wpList _ _ _ (⟨some 28, _, _, _, _, _⟩ :: _) _ _); go_must (refine wpList_load_blk rfl 25 (.tmp 5) rfl g5 rfl _ (pgC txNone) _ HK3.out Tryd.underlying25 rfl pg_size ?_))
    | ((with_reducible show wpList _ _ _ (⟨none, _, _, _, _, _⟩ :: _) _ _); (refine wpList_store_blk rfl 25 (.tmp 5) (.tmp 24) rfl g5 (pgC txNone) rfl rfl _ _ HK2.out pg_size rfl (tx_pg_ones txNone) ?_); intro w3 hk3 hg3 hz3
       have HK3 := kp hk3; have HW3 : Kept (Below w.heap.size w w3) := kp (HW2.out.grown hg3 hs2 (by intro k e; cases e; exact hg5w)); have HKr3 := kp (HKr2.out.grown hg3 (by intro e; cases e; exact hne5 rfl)); have hs3 := HW3.out.size
       have hl3 := hk3.lt
       clear hk3 hg3)
    | ((with_reducible show wpList _ _ _ (⟨none, _, _, _, _, _⟩ :: _) _ _); (refine wpList_store_blk rfl 25 (.tmp 2) (.tmp 28) rfl gr (pgC txNone) rfl rfl _ _ HKr3.out pg_size rfl (tx_pg_ones txNone) ?_); intro wa hka hga hza
       have HKa := kp hka; have HBa : Kept (Below w.heap.size w wa) := kp (HW3.out.grown hga hs3 (by intro k e; cases e; exact hgr))
       clear hka hga)
    | ((with_reducible show bodyPost _ _ _ _ _ _); rw [HP.out]; exact bodyPost_ret (tx_results3 (P := Tryd.prog) (fn := Tryd.f10) rfl _ _ gr 25 _ _ _ _ rfl rfl rfl HKa.out Tryd.underlying25 rfl pg_size) rfl (text_none HBa.out)))

theorem rf_parse (l : List UInt8) (w : World) : Calls Tryd.prog 10 #[.string (T.str l)] w fun e w' => TextPost w (T.parse l) e w' := by
  by_cases hl : 65536 < l.length
  · exact rf_parse_long l w hl
  rw [T.parse_lines (by omega)]
  exact rf_parse_main l w (by omega) _ rfl
end Go.Proofs.YtiojobajcnifpaaDoor

/- TextParses, walked. -/
namespace Go.Proofs.YtiojobajcnifpaaDoor
open Go.RowKit
set_option linter.unusedVariables false

set_option maxRecDepth 1000000 in
set_option maxHeartbeats 8000000 in
theorem walkTextParses (s0 : ByteArray) (w : World) (w0 : s0.size ≤ maxLen) (hE : Env w) :
    Calls Tryd.prog 3 #[.string s0] w fun e w' => e = .returned (.bool true) ∧ Below w.heap.size w w' := by
  obtain ⟨l, hl⟩ : ∃ l, T.str l = s0 := ⟨_, T.str_of s0⟩
  have HL := kp hl
  have HE := kp hE
  unfold maxLen at w0
  clear hl hE
  by_cases h : 66000 < s0.size
  · go_enter Tryd.func3, Tryd.ntmps3
    go_wp2_with fail
    refine (tx_awake w HE.out).mono ?_
    rintro e w1 ⟨rfl, hb1⟩
    have HW1 := kp hb1; have HE1 := kp (HE.out.on hb1); have hs1 := hb1.size
    clear hb1
    go_wp2_with fail
    refine (tx_awake w1 HE1.out).mono ?_
    rintro e w2 ⟨rfl, hb2⟩
    have HW2 := kp (HW1.out.trans (hb2.mono hs1))
    clear hb2
    go_wp2
    go_ret
    exact ⟨rfl, HW2.out⟩
  · obtain ⟨d, n, e, hx⟩ : ∃ d n e, T.parse l = (d, n, e) := ⟨_, _, _, rfl⟩
    have HX := kp hx
    clear hx
    go_enter Tryd.func3, Tryd.ntmps3
    go_wp2_with fail
    refine (tx_awake w HE.out).mono ?_
    rintro e1 w1 ⟨rfl, hb1⟩
    have HW1 := kp hb1; have HE1 := kp (HE.out.on hb1); have hs1 := hb1.size
    clear hb1
    have HPa : Kept (Calls Tryd.prog 9 #[.string s0] w1 fun e w' => TextPost w1 (T.parse l) e w') := kp (by rw [← HL.out]; exact tx_parse l w1 HE1.out)
    have HRa : Kept (∀ W, Calls Tryd.prog 10 #[.string s0] W fun e w' => TextPost W (T.parse l) e w') := kp (fun W => by rw [← HL.out]; exact rf_parse l W)
    go_wp2_with (first
      | (go_at_call 9; go_must (refine HPa.out.mono ?_); rintro e2 w2 h2
         rw [HX.out] at h2
         obtain ⟨p, rfl, hok, hd, hb2⟩ := h2
         rw [pgA_is]
         have HP := kp hok; have HPD : Kept (C.dataOf p = d) := kp hd
         have HW2 := kp (HW1.out.trans (hb2.mono hs1)); have hs2 := HW2.out.size
         clear hok hd hb2)
      | ((with_reducible show wpList _ _ _ (⟨some 3, _, _, _, _, _⟩ :: _) _ _); go_must (refine wpList_alloc_zero rfl 25 rfl _ tx_pg_zero ?_); intro g3 w3 hg3 hk3 hw3; have HK3 := kp hk3; have HW3 := kp (HW2.out.trans (hw3.mono hs2)); have HV3 := kp hw3; have hs3 := HW3.out.size
         have hg3' : w.heap.size ≤ g3 := Nat.le_trans hs2 hg3
         clear hk3 hw3)
      | ((with_reducible show wpList _ _ _ (⟨none, _, _, _, _, _⟩ :: _) _ _); (refine wpList_store_blk rfl 25 (.tmp 3) (.tmp 20) rfl g3 (pgC p) rfl rfl _ _ HK3.out pg_size rfl (tx_pg_ones p) ?_); intro w4 hk4 hg4 hz4
         have HK4 := kp hk4; have HW4 : Kept (Below w.heap.size w w4) := kp (HW3.out.grown hg4 hs3 (by intro k e; cases e; exact hg3'))
         have HV4 := kp (HV3.out.grown hg4 HV3.out.size (by intro k e; cases e; exact hg3))
         have hs4 := HW4.out.size
         clear hk4 hg4 hz4)
      | (go_at_call 10; go_must (refine (HRa.out w4).mono ?_); rintro e5 w5 h5
         rw [HX.out] at h5
         obtain ⟨q, rfl, hok, hd, hb5⟩ := h5
         rw [pgA_is]
         have HQ := kp hok; have HQD : Kept (C.dataOf q = d) := kp hd
         have HW5 := kp (HW4.out.trans (hb5.mono hs4)); have hs5 := HW5.out.size
         have HV5 := kp (HV4.out.trans (hb5.mono HV4.out.size)); have HK5 := kp (HK4.out.below hb5 HK4.out.lt)
         clear hok hd hb5)
      | ((with_reducible show wpList _ _ _ (⟨some 6, _, _, _, _, _⟩ :: _) _ _); go_must (refine wpList_alloc_zero rfl 25 rfl _ tx_pg_zero ?_); intro g6 w6 hg6 hk6 hw6; have HK6 := kp hk6; have HW6 := kp (HW5.out.trans (hw6.mono hs5)); have HU6 := kp hw6; have hs6 := HW6.out.size
         have HV6 := kp (HV5.out.trans (hw6.mono HV5.out.size)); have HK56 := kp (HK5.out.below hw6 HK5.out.lt)
         have hg6' : w.heap.size ≤ g6 := Nat.le_trans hs5 hg6
         have hne6 : g3 ≠ g6 := by have := HK5.out.lt; omega
         have hg6v : w2.heap.size ≤ g6 := Nat.le_trans HV5.out.size hg6
         clear hk6 hw6)
      | ((with_reducible show wpList _ _ _ (⟨none, _, _, _, _, _⟩ :: _) _ _); (refine wpList_store_blk rfl 25 (.tmp 6) (.tmp 26) rfl g6 (pgC q) rfl rfl _ _ HK6.out pg_size rfl (tx_pg_ones q) ?_); intro wa hka hga hza
         have HKa := kp hka; have HWa : Kept (Below w.heap.size w wa) := kp (HW6.out.grown hga hs6 (by intro k e; cases e; exact hg6'))
         have HVa := kp (HV6.out.grown hga HV6.out.size (by intro k e; cases e; exact hg6v))
         have HUa := kp (HU6.out.grown hga HU6.out.size (by intro k e; cases e; exact hg6))
         have HK7 := kp (HK56.out.grown hga (by intro e; cases e; exact hne6 rfl))
         have hsa := HWa.out.size
         obtain ⟨hp0, hp1, hp2, hp3⟩ := pg_cells HK7.out
         obtain ⟨hq0, hq1, hq2, hq3⟩ := pg_cells HKa.out
         clear hka hga hza)
      | (go_at_call 11; fail))
    refine (ref_same wa.heap.size p q wa (pg_mores (HP.out.below HVa.out) HVa.out.size) (pg_mores (HQ.out.below HUa.out) HUa.out.size) (Nat.le_refl _) true ⟨fun _ => C.same_iff.2 (by rw [HPD.out, HQD.out]), fun _ => rfl⟩).mono ?_
    rintro e9 wb ⟨rfl, hbb⟩
    have HWb := kp (HWa.out.trans (hbb.mono hsa))
    clear hbb hp0 hp1 hp2 hp3 hq0 hq1 hq2 hq3
    go_wp2
    go_ret
    exact ⟨rfl, HWb.out⟩
end Go.Proofs.YtiojobajcnifpaaDoor
