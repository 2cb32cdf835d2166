/- ProgSame, walked. -/
import Derived.Test.YtkglcmbpajfofaaProgLaw1
import Derived.Test.YtkglcmbpajfofaaProgRef3
import Derived.Test.YtkglcmbpajfofaaParts
namespace Go.Proofs.Ytkglcmbpajfofaa
open Go.RowKit

theorem Q.Same.symm {p q : Pg} (h : Q.Same p q) : Q.Same q p := ⟨h.1.symm, h.2.1.symm, h.2.2.1.symm, h.2.2.2.symm⟩
theorem Q.Same.refl (p : Pg) : Q.Same p p := ⟨rfl, rfl, rfl, rfl⟩

set_option maxRecDepth 1000000 in
set_option maxHeartbeats 4000000 in
theorem walkProgSame (pg0 : Pg) (pg1 : Pg) (w : World) (w0 : pg0.Ok w w.heap.size) (w1 : pg1.Ok w w.heap.size) :
    Calls Try.prog 5 #[pgA pg0, pgA pg1] w fun e w' => e = .returned (.bool true) ∧ Below w.heap.size w w' := by
  have HP := kp w0; have HQ := kp w1
  clear w0 w1
  obtain ⟨r, hr⟩ : ∃ r, Q.small pg0 = r := ⟨_, rfl⟩
  obtain ⟨r2, hr2⟩ : ∃ r, Q.small pg1 = r := ⟨_, rfl⟩
  have HR := kp hr; have HR2 := kp hr2
  clear hr hr2
  rw [pgA_is, pgA_is]
  cases r
  · go_enter Try.func5, Try.ntmps5
    go_wp2_with (first
      | ((with_reducible refine wpList_box_agg rfl 24 (.tmp 0) rfl (pgC pg0) rfl ?_); intro g1 u1 hg1 hk1 hu1; have HK1 := kp hk1; have HU1 := kp hu1; have hz1 := hu1.size; clear hg1 hk1 hu1)
      | ((with_reducible refine wpList_box_agg rfl 24 (.tmp 1) rfl (pgC pg1) rfl ?_); intro g2 u2 hg2 hk2 hu2; have HK2 := kp hk2; have HU2 := kp (HU1.out.trans (hu2.mono hz1)); have HK1b := kp (HK1.out.below hu2 HK1.out.lt); have hz2 := HU2.out.size; clear hg2 hk2 hu2))
    refine (awake_any u2).mono ?_
    rintro e w1 ⟨rfl, hb1⟩
    have HW1 : Kept (Below w.heap.size w w1) := kp (HU2.out.trans (hb1.mono hz2))
    have hs1 := HW1.out.size
    have HKa := kp (HK1b.out.below hb1 HK1b.out.lt)
    have HKa2 := kp (HK2.out.below hb1 HK2.out.lt)
    obtain ⟨hc0, hc1, hc2, hc3⟩ := pg_cells HKa.out
    clear hb1
    go_wp2_with fail
    refine (ref_small _ pg0 w1 (HP.out.below HW1.out) hs1 _ HR.out).mono ?_
    rintro e w2 ⟨rfl, hb2⟩
    have HW2 : Kept (Below w.heap.size w w2) := kp (HW1.out.trans (hb2.mono hs1))
    have hs2 := HW2.out.size
    have HKb := kp (HKa.out.below hb2 HKa.out.lt)
    have HKb2 := kp (HKa2.out.below hb2 HKa2.out.lt)
    clear hb2 hc0 hc1 hc2 hc3
    go_wp2_with fail
    refine (awake_any w2).mono ?_
    rintro e w9 ⟨rfl, hb9⟩
    have HW9 := kp (HW2.out.trans (hb9.mono hs2))
    clear hb9
    go_wp2
    go_ret
    exact ⟨rfl, HW9.out⟩
  cases r2
  · go_enter Try.func5, Try.ntmps5
    go_wp2_with (first
      | ((with_reducible refine wpList_box_agg rfl 24 (.tmp 0) rfl (pgC pg0) rfl ?_); intro g1 u1 hg1 hk1 hu1; have HK1 := kp hk1; have HU1 := kp hu1; have hz1 := hu1.size; clear hg1 hk1 hu1)
      | ((with_reducible refine wpList_box_agg rfl 24 (.tmp 1) rfl (pgC pg1) rfl ?_); intro g2 u2 hg2 hk2 hu2; have HK2 := kp hk2; have HU2 := kp (HU1.out.trans (hu2.mono hz1)); have HK1b := kp (HK1.out.below hu2 HK1.out.lt); have hz2 := HU2.out.size; clear hg2 hk2 hu2))
    refine (awake_any u2).mono ?_
    rintro e w1 ⟨rfl, hb1⟩
    have HW1 : Kept (Below w.heap.size w w1) := kp (HU2.out.trans (hb1.mono hz2))
    have hs1 := HW1.out.size
    have HKa := kp (HK1b.out.below hb1 HK1b.out.lt)
    have HKa2 := kp (HK2.out.below hb1 HK2.out.lt)
    obtain ⟨hc0, hc1, hc2, hc3⟩ := pg_cells HKa.out
    clear hb1
    go_wp2_with fail
    refine (ref_small _ pg0 w1 (HP.out.below HW1.out) hs1 _ HR.out).mono ?_
    rintro e w2 ⟨rfl, hb2⟩
    have HW2 : Kept (Below w.heap.size w w2) := kp (HW1.out.trans (hb2.mono hs1))
    have hs2 := HW2.out.size
    have HKb := kp (HKa.out.below hb2 HKa.out.lt)
    have HKb2 := kp (HKa2.out.below hb2 HKa2.out.lt)
    clear hb2 hc0 hc1 hc2 hc3
    obtain ⟨hd0, hd1, hd2, hd3⟩ := pg_cells HKb2.out
    go_wp2_with fail
    refine (ref_small _ pg1 w2 (HQ.out.below HW2.out) hs2 _ HR2.out).mono ?_
    rintro e w3 ⟨rfl, hb3⟩
    have HW3 : Kept (Below w.heap.size w w3) := kp (HW2.out.trans (hb3.mono hs2))
    have hs3 := HW3.out.size
    have HKc := kp (HKb.out.below hb3 HKb.out.lt)
    have HKc2 := kp (HKb2.out.below hb3 HKb2.out.lt)
    clear hb3 hd0 hd1 hd2 hd3
    go_wp2_with fail
    refine (awake_any w3).mono ?_
    rintro e w9 ⟨rfl, hb9⟩
    have HW9 := kp (HW3.out.trans (hb9.mono hs3))
    clear hb9
    go_wp2
    go_ret
    exact ⟨rfl, HW9.out⟩
  · obtain ⟨rs, hrs⟩ : ∃ rs : Bool, (rs = true ↔ Q.Same pg0 pg1) := by
      by_cases h : Q.Same pg0 pg1
      · exact ⟨true, by simp [h]⟩
      · exact ⟨false, by simp [h]⟩
    have HRs := kp hrs
    have HRs2 : Kept (rs = true ↔ Q.Same pg1 pg0) := kp (hrs.trans ⟨Q.Same.symm, Q.Same.symm⟩)
    clear hrs
    go_enter Try.func5, Try.ntmps5
    go_wp2_with (first
      | ((with_reducible refine wpList_box_agg rfl 24 (.tmp 0) rfl (pgC pg0) rfl ?_); intro g1 u1 hg1 hk1 hu1; have HK1 := kp hk1; have HU1 := kp hu1; have hz1 := hu1.size; clear hg1 hk1 hu1)
      | ((with_reducible refine wpList_box_agg rfl 24 (.tmp 1) rfl (pgC pg1) rfl ?_); intro g2 u2 hg2 hk2 hu2; have HK2 := kp hk2; have HU2 := kp (HU1.out.trans (hu2.mono hz1)); have HK1b := kp (HK1.out.below hu2 HK1.out.lt); have hz2 := HU2.out.size; clear hg2 hk2 hu2))
    refine (awake_any u2).mono ?_
    rintro e w1 ⟨rfl, hb1⟩
    have HW1 : Kept (Below w.heap.size w w1) := kp (HU2.out.trans (hb1.mono hz2))
    have hs1 := HW1.out.size
    have HKa := kp (HK1b.out.below hb1 HK1b.out.lt)
    have HKa2 := kp (HK2.out.below hb1 HK2.out.lt)
    obtain ⟨hc0, hc1, hc2, hc3⟩ := pg_cells HKa.out
    clear hb1
    go_wp2_with fail
    refine (ref_small _ pg0 w1 (HP.out.below HW1.out) hs1 _ HR.out).mono ?_
    rintro e w2 ⟨rfl, hb2⟩
    have HW2 : Kept (Below w.heap.size w w2) := kp (HW1.out.trans (hb2.mono hs1))
    have hs2 := HW2.out.size
    have HKb := kp (HKa.out.below hb2 HKa.out.lt)
    have HKb2 := kp (HKa2.out.below hb2 HKa2.out.lt)
    clear hb2 hc0 hc1 hc2 hc3
    obtain ⟨hd0, hd1, hd2, hd3⟩ := pg_cells HKb2.out
    go_wp2_with fail
    refine (ref_small _ pg1 w2 (HQ.out.below HW2.out) hs2 _ HR2.out).mono ?_
    rintro e w3 ⟨rfl, hb3⟩
    have HW3 : Kept (Below w.heap.size w w3) := kp (HW2.out.trans (hb3.mono hs2))
    have hs3 := HW3.out.size
    have HKc := kp (HKb.out.below hb3 HKb.out.lt)
    have HKc2 := kp (HKb2.out.below hb3 HKb2.out.lt)
    clear hb3 hd0 hd1 hd2 hd3
    have HPA : Kept (∀ W, Below w3.heap.size w3 W → pg0.Ok W w.heap.size) := kp fun W hW => HP.out.below (HW3.out.trans (hW.mono hs3))
    have HPB : Kept (∀ W, Below w3.heap.size w3 W → pg1.Ok W w.heap.size) := kp fun W hW => HQ.out.below (HW3.out.trans (hW.mono hs3))
    have HSZ : Kept (∀ W, Below w3.heap.size w3 W → w.heap.size ≤ W.heap.size) := kp fun W hW => Nat.le_trans hs3 hW.size
    have HCA : Kept (∀ W, Below w3.heap.size w3 W → W.cell? ⟨g1, 0, none⟩ = some (.int .i64 pg0.g) ∧ W.cell? ⟨g1, 1, none⟩ = some (.int .i64 pg0.l) ∧ W.cell? ⟨g1, 2, none⟩ = some (.int .i64 pg0.s) ∧ W.cell? ⟨g1, 3, none⟩ = some (.slice pg0.A pg0.len pg0.cap)) := kp fun W hW => pg_cells (HKc.out.below hW HKc.out.lt)
    have HCB : Kept (∀ W, Below w3.heap.size w3 W → W.cell? ⟨g2, 0, none⟩ = some (.int .i64 pg1.g) ∧ W.cell? ⟨g2, 1, none⟩ = some (.int .i64 pg1.l) ∧ W.cell? ⟨g2, 2, none⟩ = some (.int .i64 pg1.s) ∧ W.cell? ⟨g2, 3, none⟩ = some (.slice pg1.A pg1.len pg1.cap)) := kp fun W hW => pg_cells (HKc2.out.below hW HKc2.out.lt)
    go_wp2
    apply region_list (.is _ :: .is _ :: .is _ :: .is _ :: .is _ :: .is _ :: .is _ :: .is _ :: .is _ :: .is _ :: .is _ :: .is _ :: .is _ :: .is _ :: .is _ :: .is _ :: .is _ :: .is _ :: .is _ :: .is _ :: .is _ :: .is _ :: [])
      [[], [], [(0, 18), (1, 19)], [], [], [(3, 21), (4, 22)], [(2, 20), (5, 23)], [(6, 24)], [(7, 25)], [(7, 25)], [(8, 26), (9, 27), (7, 25)], [(7, 25), (10, 28)], [(11, 29)], [(12, 30)], [(12, 30)], [(13, 31), (14, 32), (12, 30)], [(12, 30)], [(12, 30)], [(16, 34), (17, 35), (12, 30)], [(15, 33), (18, 36), (12, 30)], [(12, 30), (19, 37)], [(20, 38)]]
      [(0, 18), (1, 19), (2, 20), (3, 21), (4, 22), (5, 23), (6, 24), (7, 25), (8, 26), (9, 27), (10, 28), (11, 29), (12, 30), (13, 31), (14, 32), (15, 33), (16, 34), (17, 35), (18, 36), (19, 37), (20, 38), (21, 4)] (by kernel_rfl) (by kernel_rfl)
    case hob =>
      refine ⟨?o0, ?o1, ?o2, ?o3, ?o4, ?o5, ?o6, ?o7, ?o8, ?o9, ?o10, ?o11, ?o12, ?o13, ?o14, ?o15, ?o16, ?o17, ?o18, ?o19, ?o20, ?o21, trivial⟩
      case o0 =>
        intro W hW; change wpList _ _ _ _ _ _
        obtain ⟨hc0, hc1, hc2, hc3⟩ := HCA.out W hW
        go_wp2; exact pure_post rfl rfl rfl
      case o1 =>
        intro W hW; change wpList _ _ _ _ _ _
        obtain ⟨hd0, hd1, hd2, hd3⟩ := HCB.out W hW
        go_wp2; exact pure_post rfl rfl rfl
      case o2 =>
        intro W hW; rintro _ rfl; rintro _ rfl; change wpList _ _ _ _ _ _
        go_wp2_with fail
        refine (prog_same _ pg0 pg1 W (HPA.out W hW) (HPB.out W hW) (HSZ.out W hW) HR.out HR2.out rs HRs.out).mono ?_
        rintro e w2 ⟨rfl, hb2⟩
        have HB2 := kp hb2; clear hb2
        go_wp2
        exact made_post rfl rfl rfl HB2.out rfl
      case o3 =>
        intro W hW; change wpList _ _ _ _ _ _
        obtain ⟨hc0, hc1, hc2, hc3⟩ := HCA.out W hW
        go_wp2; exact pure_post rfl rfl rfl
      case o4 =>
        intro W hW; change wpList _ _ _ _ _ _
        obtain ⟨hd0, hd1, hd2, hd3⟩ := HCB.out W hW
        go_wp2; exact pure_post rfl rfl rfl
      case o5 =>
        intro W hW; rintro _ rfl; rintro _ rfl; change wpList _ _ _ _ _ _
        go_wp2_with fail
        refine (ref_same _ pg0 pg1 W (HPA.out W hW) (HPB.out W hW) (HSZ.out W hW) rs HRs.out).mono ?_
        rintro e w2 ⟨rfl, hb2⟩
        have HB2 := kp hb2; clear hb2
        go_wp2
        exact made_post rfl rfl rfl HB2.out rfl
      case o6 => intro W hW; rintro _ rfl; rintro _ rfl; change wpList _ _ _ _ _ _; go_wp2; exact pure_post rfl rfl rfl
      case o7 => intro W hW; rintro _ rfl; change wpList _ _ _ _ _ _; go_wp2; exact pure_post rfl rfl rfl
      case o8 =>
        intro W hW; rintro _ rfl; change wpList _ _ _ _ _ _
        obtain ⟨hc0, hc1, hc2, hc3⟩ := HCA.out W hW
        go_wp2; exact pure_post rfl rfl rfl
      case o9 =>
        intro W hW; rintro _ rfl; change wpList _ _ _ _ _ _
        obtain ⟨hc0, hc1, hc2, hc3⟩ := HCA.out W hW
        go_wp2; exact pure_post rfl rfl rfl
      case o10 =>
        intro W hW; rintro _ rfl; rintro _ rfl; rintro _ rfl; change wpList _ _ _ _ _ _
        go_wp2_with fail
        refine (prog_same _ pg0 pg0 W (HPA.out W hW) (HPA.out W hW) (HSZ.out W hW) HR.out HR.out true (by simp [Q.Same.refl])).mono ?_
        rintro e w2 ⟨rfl, hb2⟩
        have HB2 := kp hb2; clear hb2
        go_wp2
        exact made_post rfl rfl rfl HB2.out rfl
      case o11 => intro W hW; rintro _ rfl; rintro _ rfl; change wpList _ _ _ _ _ _; go_wp2; exact pure_post rfl rfl rfl
      case o12 => intro W hW; rintro _ rfl; change wpList _ _ _ _ _ _; go_wp2; exact pure_post rfl rfl rfl
      case o13 =>
        intro W hW; rintro _ rfl; change wpList _ _ _ _ _ _
        obtain ⟨hc0, hc1, hc2, hc3⟩ := HCA.out W hW
        go_wp2; exact pure_post rfl rfl rfl
      case o14 =>
        intro W hW; rintro _ rfl; change wpList _ _ _ _ _ _
        obtain ⟨hd0, hd1, hd2, hd3⟩ := HCB.out W hW
        go_wp2; exact pure_post rfl rfl rfl
      case o15 =>
        intro W hW; rintro _ rfl; rintro _ rfl; rintro _ rfl; change wpList _ _ _ _ _ _
        go_wp2_with fail
        refine (prog_same _ pg0 pg1 W (HPA.out W hW) (HPB.out W hW) (HSZ.out W hW) HR.out HR2.out rs HRs.out).mono ?_
        rintro e w2 ⟨rfl, hb2⟩
        have HB2 := kp hb2; clear hb2
        go_wp2
        exact made_post rfl rfl rfl HB2.out rfl
      case o16 =>
        intro W hW; rintro _ rfl; change wpList _ _ _ _ _ _
        obtain ⟨hd0, hd1, hd2, hd3⟩ := HCB.out W hW
        go_wp2; exact pure_post rfl rfl rfl
      case o17 =>
        intro W hW; rintro _ rfl; change wpList _ _ _ _ _ _
        obtain ⟨hc0, hc1, hc2, hc3⟩ := HCA.out W hW
        go_wp2; exact pure_post rfl rfl rfl
      case o18 =>
        intro W hW; rintro _ rfl; rintro _ rfl; rintro _ rfl; change wpList _ _ _ _ _ _
        go_wp2_with fail
        refine (prog_same _ pg1 pg0 W (HPB.out W hW) (HPA.out W hW) (HSZ.out W hW) HR2.out HR.out rs HRs2.out).mono ?_
        rintro e w2 ⟨rfl, hb2⟩
        have HB2 := kp hb2; clear hb2
        go_wp2
        exact made_post rfl rfl rfl HB2.out rfl
      case o19 => intro W hW; rintro _ rfl; rintro _ rfl; rintro _ rfl; change wpList _ _ _ _ _ _; go_wp2; exact pure_post rfl rfl rfl
      case o20 => intro W hW; rintro _ rfl; rintro _ rfl; change wpList _ _ _ _ _ _; go_wp2; exact pure_post rfl rfl rfl
      case o21 => intro W hW; rintro _ rfl; change wpList _ _ _ _ _ _; go_wp2; exact pure_post rfl rfl rfl
    case hend =>
      intro W hW; rintro _ rfl; rintro _ rfl; rintro _ rfl; rintro _ rfl; rintro _ rfl; rintro _ rfl; rintro _ rfl; rintro _ rfl; rintro _ rfl; rintro _ rfl; rintro _ rfl; rintro _ rfl; rintro _ rfl; rintro _ rfl; rintro _ rfl; rintro _ rfl; rintro _ rfl; rintro _ rfl; rintro _ rfl; rintro _ rfl; rintro _ rfl; rintro _ rfl
      simp only [given, put_lit, List.set]
      go_wp2
      go_ret
      exact ⟨rfl, HW3.out.trans (hW.mono hs3)⟩
end Go.Proofs.Ytkglcmbpajfofaa
