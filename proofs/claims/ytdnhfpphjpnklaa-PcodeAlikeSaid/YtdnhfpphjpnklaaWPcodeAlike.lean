/- PcodeAlike, walked. -/
import Derived.Test.YtdnhfpphjpnklaaPk11
import Derived.Test.YtdnhfpphjpnklaaProgRef3
import Derived.Test.YtdnhfpphjpnklaaPk5
namespace Go.Proofs.Ytdnhfpphjpnklaa
open Go.RowKit

open Classical in
set_option maxRecDepth 1000000 in
set_option maxHeartbeats 8000000 in
theorem walkPcodeAlike (pg0 : Pg) (pg1 : Pg) (w : World) (w0 : pg0.Ok w w.heap.size) (w1 : pg1.Ok w w.heap.size) :
    Calls Try.prog 6 #[pgA pg0, pgA pg1] w fun e w' => e = .returned (.bool true) ∧ Below w.heap.size w w' := by
  have HP := kp w0; have HQ := kp w1
  clear w0 w1
  obtain ⟨r, hr⟩ : ∃ r, Q.small pg0 = r := ⟨_, rfl⟩
  obtain ⟨r2, hr2⟩ : ∃ r, Q.small pg1 = r := ⟨_, rfl⟩
  have HR := kp hr; have HR2 := kp hr2
  clear hr hr2
  rw [pgA_is, pgA_is]
  cases r
  · go_enter Try.func6, Try.ntmps6
    go_wp2_with (first
      | ((with_reducible refine wpList_box_agg rfl 26 (.tmp 0) rfl (pgC pg0) rfl ?_); intro g1 u1 hg1 hk1 hu1; have HK1 := kp hk1; have HU1 := kp hu1; have hz1 := hu1.size; clear hg1 hk1 hu1)
      | ((with_reducible refine wpList_box_agg rfl 26 (.tmp 1) rfl (pgC pg1) rfl ?_); intro g2 u2 hg2 hk2 hu2; have HK2 := kp hk2; have HU2 := kp (HU1.out.trans (hu2.mono hz1)); have HK1b := kp (HK1.out.below hu2 HK1.out.lt); have hz2 := HU2.out.size; clear hg2 hk2 hu2)
      | fail)
    refine (pc_awake u2).mono ?_
    rintro e w1 ⟨rfl, hb1⟩
    have HW1 : Kept (Below w.heap.size w w1) := kp (HU2.out.trans (hb1.mono hz2))
    have hs1 := HW1.out.size
    have HKa := kp (HK1b.out.below hb1 HK1b.out.lt)
    have HKa2 := kp (HK2.out.below hb1 HK2.out.lt)
    obtain ⟨hc0, hc1, hc2, hc3⟩ := pg_cells HKa.out
    clear hb1
    go_wp2_with fail
    refine (ref_small _ pg0 w1 (HP.out.below HW1.out) hs1 _ HR.out).mono ?_
    rintro e w2 ⟨rfl, hb2⟩
    have HW2 : Kept (Below w.heap.size w w2) := kp (HW1.out.trans (hb2.mono hs1))
    have hs2 := HW2.out.size
    have HKb := kp (HKa.out.below hb2 HKa.out.lt)
    have HKb2 := kp (HKa2.out.below hb2 HKa2.out.lt)
    clear hb2 hc0 hc1 hc2 hc3
    go_wp2_with fail
    refine (pc_awake w2).mono ?_
    rintro e w9 ⟨rfl, hb9⟩
    have HW9 := kp (HW2.out.trans (hb9.mono hs2))
    clear hb9
    go_wp2
    go_ret
    exact ⟨rfl, HW9.out⟩
  cases r2
  · go_enter Try.func6, Try.ntmps6
    go_wp2_with (first
      | ((with_reducible refine wpList_box_agg rfl 26 (.tmp 0) rfl (pgC pg0) rfl ?_); intro g1 u1 hg1 hk1 hu1; have HK1 := kp hk1; have HU1 := kp hu1; have hz1 := hu1.size; clear hg1 hk1 hu1)
      | ((with_reducible refine wpList_box_agg rfl 26 (.tmp 1) rfl (pgC pg1) rfl ?_); intro g2 u2 hg2 hk2 hu2; have HK2 := kp hk2; have HU2 := kp (HU1.out.trans (hu2.mono hz1)); have HK1b := kp (HK1.out.below hu2 HK1.out.lt); have hz2 := HU2.out.size; clear hg2 hk2 hu2)
      | fail)
    refine (pc_awake u2).mono ?_
    rintro e w1 ⟨rfl, hb1⟩
    have HW1 : Kept (Below w.heap.size w w1) := kp (HU2.out.trans (hb1.mono hz2))
    have hs1 := HW1.out.size
    have HKa := kp (HK1b.out.below hb1 HK1b.out.lt)
    have HKa2 := kp (HK2.out.below hb1 HK2.out.lt)
    obtain ⟨hc0, hc1, hc2, hc3⟩ := pg_cells HKa.out
    clear hb1
    go_wp2_with fail
    refine (ref_small _ pg0 w1 (HP.out.below HW1.out) hs1 _ HR.out).mono ?_
    rintro e w2 ⟨rfl, hb2⟩
    have HW2 : Kept (Below w.heap.size w w2) := kp (HW1.out.trans (hb2.mono hs1))
    have hs2 := HW2.out.size
    have HKb := kp (HKa.out.below hb2 HKa.out.lt)
    have HKb2 := kp (HKa2.out.below hb2 HKa2.out.lt)
    clear hb2 hc0 hc1 hc2 hc3
    obtain ⟨hc0, hc1, hc2, hc3⟩ := pg_cells HKb2.out
    go_wp2_with fail
    refine (ref_small _ pg1 w2 (HQ.out.below HW2.out) hs2 _ HR2.out).mono ?_
    rintro e w3 ⟨rfl, hb3⟩
    have HW3 : Kept (Below w.heap.size w w3) := kp (HW2.out.trans (hb3.mono hs2))
    have hs3 := HW3.out.size
    have HKc := kp (HKb.out.below hb3 HKb.out.lt)
    have HKc2 := kp (HKb2.out.below hb3 HKb2.out.lt)
    clear hb3 hc0 hc1 hc2 hc3
    go_wp2_with fail
    refine (pc_awake w3).mono ?_
    rintro e w9 ⟨rfl, hb9⟩
    have HW9 := kp (HW3.out.trans (hb9.mono hs3))
    clear hb9
    go_wp2
    go_ret
    exact ⟨rfl, HW9.out⟩
  obtain ⟨a, b, c, hc⟩ : ∃ a b c, Q.check pg0 = (a, b, c) := ⟨_, _, _, rfl⟩
  obtain ⟨a2, b2, c2, hc2⟩ : ∃ a b c, Q.check pg1 = (a, b, c) := ⟨_, _, _, rfl⟩
  have HC := kp hc; have HC2 := kp hc2
  have HO1 : Kept (c = 0 → C.PDOk (C.dataOf pg0)) := kp fun h => by subst h; exact C.fine_ok HP.out.row.len (fine_of hc)
  have HO2 : Kept (c2 = 0 → C.PDOk (C.dataOf pg1)) := kp fun h => by subst h; exact C.fine_ok HQ.out.row.len (fine_of hc2)
  clear hc hc2
  by_cases h1 : c = 0
  · by_cases h2 : c2 = 0
    · have HO1' := kp (HO1.out h1); have HO2' := kp (HO2.out h2)
      have HZ1 := kp h1; have HZ2 := kp h2
      have hb1 : ((c : Int) != 0) = false := by rw [bne_eq_false_iff_eq]; omega
      have hb2 : ((c2 : Int) != 0) = false := by rw [bne_eq_false_iff_eq]; omega
      clear h1 h2
      go_enter Try.func6, Try.ntmps6
      go_wp2_with (first
        | ((with_reducible refine wpList_box_agg rfl 26 (.tmp 0) rfl (pgC pg0) rfl ?_); intro g1 u1 hg1 hk1 hu1; have HK1 := kp hk1; have HU1 := kp hu1; have hz1 := hu1.size; clear hg1 hk1 hu1)
        | ((with_reducible refine wpList_box_agg rfl 26 (.tmp 1) rfl (pgC pg1) rfl ?_); intro g2 u2 hg2 hk2 hu2; have HK2 := kp hk2; have HU2 := kp (HU1.out.trans (hu2.mono hz1)); have HK1b := kp (HK1.out.below hu2 HK1.out.lt); have hz2 := HU2.out.size; clear hg2 hk2 hu2)
        | fail)
      refine (pc_awake u2).mono ?_
      rintro e w1 ⟨rfl, hb1⟩
      have HW1 : Kept (Below w.heap.size w w1) := kp (HU2.out.trans (hb1.mono hz2))
      have hs1 := HW1.out.size
      have HKa := kp (HK1b.out.below hb1 HK1b.out.lt)
      have HKa2 := kp (HK2.out.below hb1 HK2.out.lt)
      obtain ⟨hc0, hc1, hc2, hc3⟩ := pg_cells HKa.out
      clear hb1
      go_wp2_with fail
      refine (ref_small _ pg0 w1 (HP.out.below HW1.out) hs1 _ HR.out).mono ?_
      rintro e w2 ⟨rfl, hb2⟩
      have HW2 : Kept (Below w.heap.size w w2) := kp (HW1.out.trans (hb2.mono hs1))
      have hs2 := HW2.out.size
      have HKb := kp (HKa.out.below hb2 HKa.out.lt)
      have HKb2 := kp (HKa2.out.below hb2 HKa2.out.lt)
      clear hb2 hc0 hc1 hc2 hc3
      obtain ⟨hc0, hc1, hc2, hc3⟩ := pg_cells HKb2.out
      go_wp2_with fail
      refine (ref_small _ pg1 w2 (HQ.out.below HW2.out) hs2 _ HR2.out).mono ?_
      rintro e w3 ⟨rfl, hb3⟩
      have HW3 : Kept (Below w.heap.size w w3) := kp (HW2.out.trans (hb3.mono hs2))
      have hs3 := HW3.out.size
      have HKc := kp (HKb.out.below hb3 HKb.out.lt)
      have HKc2 := kp (HKb2.out.below hb3 HKb2.out.lt)
      clear hb3 hc0 hc1 hc2 hc3
      go_wp2_with (first
        | ((with_reducible show wpList _ _ _ (⟨some 23, _, _, _, _, _⟩ :: _) _ _); go_must (refine wpList_load_blk rfl 26 (.tmp 2) rfl g1 rfl _ (pgC pg0) _ HKc.out Try.underlying26 rfl pg_size ?_))
        | (go_at_call 12; fail))
      rw [← pgA_is]
      refine (pc_write_any _ pg0 w3 (HP.out.below HW3.out) hs3 HR.out a b c HC.out).mono ?_
      rintro e w4 ⟨A4, n4, cap4, l4, rfl, hr4, hn4, hm4, hl4, hl4', hb4⟩
      have HR4 := kp hr4; have HL4 := kp hl4; have HM4 := kp hm4
      have HW4 : Kept (Below w.heap.size w w4) := kp (HW3.out.trans (hb4.mono hs3))
      have hs4 := HW4.out.size
      have HKd := kp (HKc.out.below hb4 HKc.out.lt)
      have HKd2 := kp (HKc2.out.below hb4 HKc2.out.lt)
      clear hb4 hr4 hl4 hl4' hm4
      go_wp2_with (first
        | ((with_reducible show wpList _ _ _ (⟨some 28, _, _, _, _, _⟩ :: _) _ _); go_must (refine wpList_load_blk rfl 26 (.tmp 3) rfl g2 rfl _ (pgC pg1) _ HKd2.out Try.underlying26 rfl pg_size ?_))
        | (go_at_call 12; fail))
      rw [← pgA_is]
      refine (pc_write_any _ pg1 w4 (HQ.out.below HW4.out) hs4 HR2.out a2 b2 c2 HC2.out).mono ?_
      rintro e w5 ⟨A5, n5, cap5, l5, rfl, hr5, hn5, hm5, hl5, hl5', hb5⟩
      have HR5 := kp hr5; have HL5 := kp hl5
      have HR4b := kp (HR4.out.below hb5)
      have HW5 : Kept (Below w.heap.size w w5) := kp (HW4.out.trans (hb5.mono hs4))
      have hs5 := HW5.out.size
      have hs45 := hb5.size
      have HKe := kp (HKd.out.below hb5 HKd.out.lt)
      have HKe2 := kp (HKd2.out.below hb5 HKd2.out.lt)
      clear hb5 hr5 hl5 hl5' hm5
      have HB4 : Kept (l4 = C.pgB (C.dataOf pg0)) := kp (HL4.out HZ1.out)
      have HB5 : Kept (l5 = C.pgB (C.dataOf pg1)) := kp (HL5.out HZ2.out)
      have HSm : Kept (((strOf l4).toList == (strOf l5).toList) = decide (Q.Same pg0 pg1)) := kp (by
        rw [strOf_list, strOf_list, HB4.out, HB5.out]
        by_cases h : C.dataOf pg0 = C.dataOf pg1
        · rw [h, beq_self_eq_true]
          exact (decide_eq_true (C.same_iff.2 h)).symm
        · have hne : (C.pgB (C.dataOf pg0)).map UInt8.ofNat ≠ (C.pgB (C.dataOf pg1)).map UInt8.ofNat := fun e => h ((C.bytes_same HO1'.out HO2'.out).1 (bytes_inj (C.pgB_small _) (C.pgB_small _) e))
          rw [beq_eq_false_iff_ne.2 hne]
          exact (decide_eq_false (fun hs => h (C.same_iff.1 hs))).symm)
      obtain ⟨sm, hsm⟩ : ∃ sm, decide (Q.Same pg0 pg1) = sm := ⟨_, rfl⟩
      have HSmi : Kept (sm = true ↔ Q.Same pg0 pg1) := kp (by rw [← hsm]; exact decide_eq_true_iff)
      rw [hsm] at HSm
      have hcq := HSm.out
      clear hsm HB4 HB5
      go_wp2
      apply region_list (.is _ :: .is _ :: .is _ :: .is _ :: .is _ :: .is _ :: .is _ :: .is _ :: .is _ :: .is _ :: [])
        [[], [(0, 38)], [], [(2, 40)], [(1, 39), (3, 41)], [], [], [(5, 43), (6, 44)], [(4, 42), (7, 45)], [(8, 46)]]
        [(0, 38), (1, 39), (2, 40), (3, 41), (4, 42), (5, 43), (6, 44), (7, 45), (8, 46), (9, 4)] (by kernel_rfl) (by kernel_rfl)
      case hob =>
        refine ⟨?o0, ?o1, ?o2, ?o3, ?o4, ?o5, ?o6, ?o7, ?o8, ?o9, trivial⟩
        case o0 => intro W hW; change wpList _ _ _ _ _ _; go_wp2; exact pure_post rfl rfl rfl
        case o1 =>
          intro W hW; rintro _ rfl; change wpList _ _ _ _ _ _
          have hcv := cvr (c := cap4) ((HR4b.out.below (hW.mono hs45)))
          go_wp2; exact pure_post rfl rfl rfl
        case o2 => intro W hW; change wpList _ _ _ _ _ _; go_wp2; exact pure_post rfl rfl rfl
        case o3 =>
          intro W hW; rintro _ rfl; change wpList _ _ _ _ _ _
          have hcv := cvr (c := cap5) ((HR5.out.below hW))
          go_wp2; exact pure_post rfl rfl rfl
        case o4 => intro W hW; rintro _ rfl; rintro _ rfl; change wpList _ _ _ _ _ _; go_wp2; exact pure_post rfl rfl rfl
        case o5 =>
          intro W hW; change wpList _ _ _ _ _ _
          refine wpList_load_blk rfl 26 (.tmp 2) rfl g1 rfl _ (pgC pg0) _ (HKe.out.below hW HKe.out.lt) Try.underlying26 rfl pg_size ?_
          go_wp2; exact pure_post rfl rfl rfl
        case o6 =>
          intro W hW; change wpList _ _ _ _ _ _
          refine wpList_load_blk rfl 26 (.tmp 3) rfl g2 rfl _ (pgC pg1) _ (HKe2.out.below hW HKe2.out.lt) Try.underlying26 rfl pg_size ?_
          go_wp2; exact pure_post rfl rfl rfl
        case o7 =>
          intro W hW; rintro _ rfl; rintro _ rfl; change wpList _ _ _ _ _ _
          go_wp2_with fail
          refine (ref_same w.heap.size pg0 pg1 W (HP.out.below (HW5.out.trans (hW.mono hs5))) (HQ.out.below (HW5.out.trans (hW.mono hs5))) (Nat.le_trans hs5 hW.size) sm HSmi.out).mono ?_
          rintro e w2 ⟨rfl, hb2⟩
          have HB2 := kp hb2; clear hb2
          go_wp2
          exact made_post rfl rfl rfl HB2.out rfl
        case o8 => intro W hW; rintro _ rfl; rintro _ rfl; change wpList _ _ _ _ _ _; go_wp2; exact pure_post rfl rfl rfl
        case o9 => intro W hW; rintro _ rfl; change wpList _ _ _ _ _ _; go_wp2; exact pure_post rfl rfl rfl
      case hend =>
        intro W hW; rintro _ rfl; rintro _ rfl; rintro _ rfl; rintro _ rfl; rintro _ rfl; rintro _ rfl; rintro _ rfl; rintro _ rfl; rintro _ rfl; rintro _ rfl
        simp only [given, put_lit, List.set]
        go_wp2
        go_ret
        exact ⟨ret_bool (by cases sm <;> rfl), HW5.out.trans (hW.mono hs5)⟩
    · have hb1 : ((c : Int) != 0) = false := by rw [bne_eq_false_iff_eq]; omega
      have hb2 : ((c2 : Int) != 0) = true := by rw [bne_iff_ne]; omega
      clear h1 h2
      go_enter Try.func6, Try.ntmps6
      go_wp2_with (first
        | ((with_reducible refine wpList_box_agg rfl 26 (.tmp 0) rfl (pgC pg0) rfl ?_); intro g1 u1 hg1 hk1 hu1; have HK1 := kp hk1; have HU1 := kp hu1; have hz1 := hu1.size; clear hg1 hk1 hu1)
        | ((with_reducible refine wpList_box_agg rfl 26 (.tmp 1) rfl (pgC pg1) rfl ?_); intro g2 u2 hg2 hk2 hu2; have HK2 := kp hk2; have HU2 := kp (HU1.out.trans (hu2.mono hz1)); have HK1b := kp (HK1.out.below hu2 HK1.out.lt); have hz2 := HU2.out.size; clear hg2 hk2 hu2)
        | fail)
      refine (pc_awake u2).mono ?_
      rintro e w1 ⟨rfl, hb1⟩
      have HW1 : Kept (Below w.heap.size w w1) := kp (HU2.out.trans (hb1.mono hz2))
      have hs1 := HW1.out.size
      have HKa := kp (HK1b.out.below hb1 HK1b.out.lt)
      have HKa2 := kp (HK2.out.below hb1 HK2.out.lt)
      obtain ⟨hc0, hc1, hc2, hc3⟩ := pg_cells HKa.out
      clear hb1
      go_wp2_with fail
      refine (ref_small _ pg0 w1 (HP.out.below HW1.out) hs1 _ HR.out).mono ?_
      rintro e w2 ⟨rfl, hb2⟩
      have HW2 : Kept (Below w.heap.size w w2) := kp (HW1.out.trans (hb2.mono hs1))
      have hs2 := HW2.out.size
      have HKb := kp (HKa.out.below hb2 HKa.out.lt)
      have HKb2 := kp (HKa2.out.below hb2 HKa2.out.lt)
      clear hb2 hc0 hc1 hc2 hc3
      obtain ⟨hc0, hc1, hc2, hc3⟩ := pg_cells HKb2.out
      go_wp2_with fail
      refine (ref_small _ pg1 w2 (HQ.out.below HW2.out) hs2 _ HR2.out).mono ?_
      rintro e w3 ⟨rfl, hb3⟩
      have HW3 : Kept (Below w.heap.size w w3) := kp (HW2.out.trans (hb3.mono hs2))
      have hs3 := HW3.out.size
      have HKc := kp (HKb.out.below hb3 HKb.out.lt)
      have HKc2 := kp (HKb2.out.below hb3 HKb2.out.lt)
      clear hb3 hc0 hc1 hc2 hc3
      go_wp2_with (first
        | ((with_reducible show wpList _ _ _ (⟨some 23, _, _, _, _, _⟩ :: _) _ _); go_must (refine wpList_load_blk rfl 26 (.tmp 2) rfl g1 rfl _ (pgC pg0) _ HKc.out Try.underlying26 rfl pg_size ?_))
        | (go_at_call 12; fail))
      rw [← pgA_is]
      refine (pc_write_any _ pg0 w3 (HP.out.below HW3.out) hs3 HR.out a b c HC.out).mono ?_
      rintro e w4 ⟨A4, n4, cap4, l4, rfl, hr4, hn4, hm4, hl4, hl4', hb4⟩
      have HR4 := kp hr4; have HL4 := kp hl4; have HM4 := kp hm4
      have HW4 : Kept (Below w.heap.size w w4) := kp (HW3.out.trans (hb4.mono hs3))
      have hs4 := HW4.out.size
      have HKd := kp (HKc.out.below hb4 HKc.out.lt)
      have HKd2 := kp (HKc2.out.below hb4 HKc2.out.lt)
      clear hb4 hr4 hl4 hl4' hm4
      go_wp2_with (first
        | ((with_reducible show wpList _ _ _ (⟨some 28, _, _, _, _, _⟩ :: _) _ _); go_must (refine wpList_load_blk rfl 26 (.tmp 3) rfl g2 rfl _ (pgC pg1) _ HKd2.out Try.underlying26 rfl pg_size ?_))
        | (go_at_call 12; fail))
      rw [← pgA_is]
      refine (pc_write_any _ pg1 w4 (HQ.out.below HW4.out) hs4 HR2.out a2 b2 c2 HC2.out).mono ?_
      rintro e w5 ⟨A5, n5, cap5, l5, rfl, hr5, hn5, hm5, hl5, hl5', hb5⟩
      have HR5 := kp hr5; have HL5 := kp hl5
      have HR4b := kp (HR4.out.below hb5)
      have HW5 : Kept (Below w.heap.size w w5) := kp (HW4.out.trans (hb5.mono hs4))
      have hs5 := HW5.out.size
      have hs45 := hb5.size
      have HKe := kp (HKd.out.below hb5 HKd.out.lt)
      have HKe2 := kp (HKd2.out.below hb5 HKd2.out.lt)
      clear hb5 hr5 hl5 hl5' hm5
      go_wp2
      go_ret
      exact ⟨rfl, HW5.out⟩
  · have hb1 : ((c : Int) != 0) = true := by rw [bne_iff_ne]; omega
    clear h1
    go_enter Try.func6, Try.ntmps6
    go_wp2_with (first
      | ((with_reducible refine wpList_box_agg rfl 26 (.tmp 0) rfl (pgC pg0) rfl ?_); intro g1 u1 hg1 hk1 hu1; have HK1 := kp hk1; have HU1 := kp hu1; have hz1 := hu1.size; clear hg1 hk1 hu1)
      | ((with_reducible refine wpList_box_agg rfl 26 (.tmp 1) rfl (pgC pg1) rfl ?_); intro g2 u2 hg2 hk2 hu2; have HK2 := kp hk2; have HU2 := kp (HU1.out.trans (hu2.mono hz1)); have HK1b := kp (HK1.out.below hu2 HK1.out.lt); have hz2 := HU2.out.size; clear hg2 hk2 hu2)
      | fail)
    refine (pc_awake u2).mono ?_
    rintro e w1 ⟨rfl, hb1⟩
    have HW1 : Kept (Below w.heap.size w w1) := kp (HU2.out.trans (hb1.mono hz2))
    have hs1 := HW1.out.size
    have HKa := kp (HK1b.out.below hb1 HK1b.out.lt)
    have HKa2 := kp (HK2.out.below hb1 HK2.out.lt)
    obtain ⟨hc0, hc1, hc2, hc3⟩ := pg_cells HKa.out
    clear hb1
    go_wp2_with fail
    refine (ref_small _ pg0 w1 (HP.out.below HW1.out) hs1 _ HR.out).mono ?_
    rintro e w2 ⟨rfl, hb2⟩
    have HW2 : Kept (Below w.heap.size w w2) := kp (HW1.out.trans (hb2.mono hs1))
    have hs2 := HW2.out.size
    have HKb := kp (HKa.out.below hb2 HKa.out.lt)
    have HKb2 := kp (HKa2.out.below hb2 HKa2.out.lt)
    clear hb2 hc0 hc1 hc2 hc3
    obtain ⟨hc0, hc1, hc2, hc3⟩ := pg_cells HKb2.out
    go_wp2_with fail
    refine (ref_small _ pg1 w2 (HQ.out.below HW2.out) hs2 _ HR2.out).mono ?_
    rintro e w3 ⟨rfl, hb3⟩
    have HW3 : Kept (Below w.heap.size w w3) := kp (HW2.out.trans (hb3.mono hs2))
    have hs3 := HW3.out.size
    have HKc := kp (HKb.out.below hb3 HKb.out.lt)
    have HKc2 := kp (HKb2.out.below hb3 HKb2.out.lt)
    clear hb3 hc0 hc1 hc2 hc3
    go_wp2_with (first
      | ((with_reducible show wpList _ _ _ (⟨some 23, _, _, _, _, _⟩ :: _) _ _); go_must (refine wpList_load_blk rfl 26 (.tmp 2) rfl g1 rfl _ (pgC pg0) _ HKc.out Try.underlying26 rfl pg_size ?_))
      | (go_at_call 12; fail))
    rw [← pgA_is]
    refine (pc_write_any _ pg0 w3 (HP.out.below HW3.out) hs3 HR.out a b c HC.out).mono ?_
    rintro e w4 ⟨A4, n4, cap4, l4, rfl, hr4, hn4, hm4, hl4, hl4', hb4⟩
    have HR4 := kp hr4; have HL4 := kp hl4; have HM4 := kp hm4
    have HW4 : Kept (Below w.heap.size w w4) := kp (HW3.out.trans (hb4.mono hs3))
    have hs4 := HW4.out.size
    have HKd := kp (HKc.out.below hb4 HKc.out.lt)
    have HKd2 := kp (HKc2.out.below hb4 HKc2.out.lt)
    clear hb4 hr4 hl4 hl4' hm4
    go_wp2_with (first
      | ((with_reducible show wpList _ _ _ (⟨some 28, _, _, _, _, _⟩ :: _) _ _); go_must (refine wpList_load_blk rfl 26 (.tmp 3) rfl g2 rfl _ (pgC pg1) _ HKd2.out Try.underlying26 rfl pg_size ?_))
      | (go_at_call 12; fail))
    rw [← pgA_is]
    refine (pc_write_any _ pg1 w4 (HQ.out.below HW4.out) hs4 HR2.out a2 b2 c2 HC2.out).mono ?_
    rintro e w5 ⟨A5, n5, cap5, l5, rfl, hr5, hn5, hm5, hl5, hl5', hb5⟩
    have HR5 := kp hr5; have HL5 := kp hl5
    have HR4b := kp (HR4.out.below hb5)
    have HW5 : Kept (Below w.heap.size w w5) := kp (HW4.out.trans (hb5.mono hs4))
    have hs5 := HW5.out.size
    have hs45 := hb5.size
    have HKe := kp (HKd.out.below hb5 HKd.out.lt)
    have HKe2 := kp (HKd2.out.below hb5 HKd2.out.lt)
    clear hb5 hr5 hl5 hl5' hm5
    go_wp2
    go_ret
    exact ⟨rfl, HW5.out⟩
end Go.Proofs.Ytdnhfpphjpnklaa

