/- ProgMay, walked. -/
import Derived.Test.YtkglcmbpajfofaaProgLaw1
import Derived.Test.YtkglcmbpajfofaaParts
namespace Go.Proofs.Ytkglcmbpajfofaa
open Go.RowKit

theorem succ_ints (x : Nd) : ∀ u ∈ (Q.succ x).map intV, ∃ y, u = .int .i64 y := by
  intro u hu
  obtain ⟨y, _, rfl⟩ := List.mem_map.1 hu
  exact ⟨y, rfl⟩
theorem succ_len (x : Nd) : ((Q.succ x).map intV).length ≤ 2 := by
  rw [List.length_map]; unfold Q.succ; split <;> (try split) <;> simp

set_option maxRecDepth 1000000 in
set_option maxHeartbeats 8000000 in
theorem walkProgMay (pg0 : Pg) (nd1 : Nd) (a2 : Int) (w : World) (w0 : pg0.Ok w w.heap.size) (w1 : nd1.Ok) (w2 : (Lit.int .i64 a2).wf = true) :
    Calls Try.prog 3 #[pgA pg0, ndA nd1, .int .i64 a2] w fun e w' => e = .returned (.bool true) ∧ Below w.heap.size w w' := by
  have HP := kp w0; have HN := kp w1; have HI := kp (int_i64 w2)
  clear w0 w1 w2
  obtain ⟨r, hr⟩ : ∃ r, Q.small pg0 = r := ⟨_, rfl⟩
  have HR := kp hr
  obtain ⟨m, hm⟩ : ∃ m, Q.may pg0.g pg0.l pg0.s pg0.len nd1 a2 = m := ⟨_, rfl⟩
  have HM := kp hm
  obtain ⟨us, hus⟩ : ∃ us, (Q.succ nd1).map intV = us := ⟨_, rfl⟩
  have HUs := kp hus
  have HInt : Kept (∀ u ∈ us, ∃ y, u = .int .i64 y) := kp (by rw [← hus]; exact succ_ints nd1)
  have hus2 : us.length ≤ 2 := by rw [← hus]; exact succ_len nd1
  clear hr hm hus
  rw [pgA_is, show ndA nd1 = .agg (ndC nd1).toArray from rfl]
  cases r
  · go_enter Try.func3, Try.ntmps3
    go_wp2_with (first
      | ((with_reducible refine wpList_box_agg rfl 24 (.tmp 0) rfl (pgC pg0) rfl ?_); intro g1 u1 hg1 hk1 hu1; have HK1 := kp hk1; have HU1 := kp hu1; have hz1 := hu1.size; clear hg1 hk1 hu1)
      | ((with_reducible refine wpList_box_agg rfl 26 (.tmp 1) rfl (ndC nd1) rfl ?_); intro g2 u2 hg2 hk2 hu2; have HK2 := kp hk2; have HU2 := kp (HU1.out.trans (hu2.mono hz1)); have HK1b := kp (HK1.out.below hu2 HK1.out.lt); have hz2 := HU2.out.size; clear hg2 hk2 hu2))
    refine (awake_any u2).mono ?_
    rintro e w1 ⟨rfl, hb1⟩
    have HW1 : Kept (Below w.heap.size w w1) := kp (HU2.out.trans (hb1.mono hz2))
    have hs1 := HW1.out.size
    have HKa := kp (HK1b.out.below hb1 HK1b.out.lt)
    have HKa2 := kp (HK2.out.below hb1 HK2.out.lt)
    obtain ⟨hc0, hc1, hc2, hc3⟩ := pg_cells HKa.out
    clear hb1
    go_wp2_with fail
    refine (ref_small _ pg0 w1 (HP.out.below HW1.out) hs1 _ HR.out).mono ?_
    rintro e w2 ⟨rfl, hb2⟩
    have HW2 : Kept (Below w.heap.size w w2) := kp (HW1.out.trans (hb2.mono hs1))
    have hs2 := HW2.out.size
    have HKb := kp (HKa.out.below hb2 HKa.out.lt)
    have HKb2 := kp (HKa2.out.below hb2 HKa2.out.lt)
    clear hb2 hc0 hc1 hc2 hc3
    go_wp2_with fail
    refine (awake_any w2).mono ?_
    rintro e w9 ⟨rfl, hb9⟩
    have HW9 := kp (HW2.out.trans (hb9.mono hs2))
    clear hb9
    go_wp2
    go_ret
    exact ⟨rfl, HW9.out⟩
  · go_enter Try.func3, Try.ntmps3
    go_wp2_with (first
      | ((with_reducible refine wpList_box_agg rfl 24 (.tmp 0) rfl (pgC pg0) rfl ?_); intro g1 u1 hg1 hk1 hu1; have HK1 := kp hk1; have HU1 := kp hu1; have hz1 := hu1.size; clear hg1 hk1 hu1)
      | ((with_reducible refine wpList_box_agg rfl 26 (.tmp 1) rfl (ndC nd1) rfl ?_); intro g2 u2 hg2 hk2 hu2; have HK2 := kp hk2; have HU2 := kp (HU1.out.trans (hu2.mono hz1)); have HK1b := kp (HK1.out.below hu2 HK1.out.lt); have hz2 := HU2.out.size; clear hg2 hk2 hu2))
    refine (awake_any u2).mono ?_
    rintro e w1 ⟨rfl, hb1⟩
    have HW1 : Kept (Below w.heap.size w w1) := kp (HU2.out.trans (hb1.mono hz2))
    have hs1 := HW1.out.size
    have HKa := kp (HK1b.out.below hb1 HK1b.out.lt)
    have HKa2 := kp (HK2.out.below hb1 HK2.out.lt)
    obtain ⟨hc0, hc1, hc2, hc3⟩ := pg_cells HKa.out
    clear hb1
    go_wp2_with fail
    refine (ref_small _ pg0 w1 (HP.out.below HW1.out) hs1 _ HR.out).mono ?_
    rintro e w2 ⟨rfl, hb2⟩
    have HW2 : Kept (Below w.heap.size w w2) := kp (HW1.out.trans (hb2.mono hs1))
    have hs2 := HW2.out.size
    have HKb := kp (HKa.out.below hb2 HKa.out.lt)
    have HKb2 := kp (HKa2.out.below hb2 HKa2.out.lt)
    clear hb2 hc0 hc1 hc2 hc3
    have HCA : Kept (∀ W, Below w2.heap.size w2 W → W.cell? ⟨g1, 0, none⟩ = some (.int .i64 pg0.g) ∧ W.cell? ⟨g1, 1, none⟩ = some (.int .i64 pg0.l) ∧ W.cell? ⟨g1, 2, none⟩ = some (.int .i64 pg0.s) ∧ W.cell? ⟨g1, 3, none⟩ = some (.slice pg0.A pg0.len pg0.cap)) := kp fun W hW => pg_cells (HKb.out.below hW HKb.out.lt)
    have HCN : Kept (∀ W, Below w2.heap.size w2 W → W.cell? ⟨g2, 0, none⟩ = some (.int .i64 nd1.kind) ∧ W.cell? ⟨g2, 1, none⟩ = some (.int .i64 nd1.arg) ∧ W.cell? ⟨g2, 2, none⟩ = some (.int .i64 nd1.next) ∧ W.cell? ⟨g2, 3, none⟩ = some (.int .i64 nd1.alt)) := kp fun W hW => nd_cells (HKb2.out.below hW HKb2.out.lt)
    go_wp2
    apply region_list (.is _ :: .vals us :: .is _ :: .vals us :: .vals us :: .vals us :: [])
      [[], [(0, 21)], [], [(2, 23)], [(1, 22)], [(3, 24)]]
      [(0, 21), (1, 22), (2, 23), (3, 24), (4, 7), (5, 8)] (by kernel_rfl) (by kernel_rfl)
    case hob =>
      refine ⟨?o0, ?o1, ?o2, ?o3, ?o4, ?o5, trivial⟩
      case o0 =>
        intro W hW; change wpList _ _ _ _ _ _
        obtain ⟨hd0, hd1, hd2, hd3⟩ := HCN.out W hW
        go_wp2; exact pure_post rfl rfl rfl
      case o1 =>
        intro W hW; rintro _ rfl; change wpList _ _ _ _ _ _
        go_wp2_with fail
        refine (prog_succ nd1 HN.out W).mono ?_
        rintro e w2 ⟨v2, rfl, hown2, hb2⟩
        rw [HUs.out] at hown2
        obtain ⟨A2, c2, rfl, hc2, hm2, hr2, _⟩ := hown2.form
        have HR2 := kp hr2; have HB2 := kp hb2; clear hown2 hr2 hb2 hm2
        go_wp2
        exact made_post rfl rfl rfl HB2.out ⟨A2, c2, rfl, HR2.out⟩
      case o2 =>
        intro W hW; change wpList _ _ _ _ _ _
        obtain ⟨hd0, hd1, hd2, hd3⟩ := HCN.out W hW
        go_wp2; exact pure_post rfl rfl rfl
      case o3 =>
        intro W hW; rintro _ rfl; change wpList _ _ _ _ _ _
        go_wp2_with fail
        refine (ref_succ nd1 W).mono ?_
        rintro e w2 ⟨v2, rfl, hown2, hb2⟩
        rw [HUs.out] at hown2
        obtain ⟨A2, c2, rfl, hc2, hm2, hr2, _⟩ := hown2.form
        have HR2 := kp hr2; have HB2 := kp hb2; clear hown2 hr2 hb2 hm2
        go_wp2
        exact made_post rfl rfl rfl HB2.out ⟨A2, c2, rfl, HR2.out⟩
      case o4 =>
        intro W hW; rintro _ ⟨A1, c1, rfl, hr1⟩; change wpList _ _ _ _ _ _
        go_wp2
        exact made_post rfl rfl rfl (Below.refl _ _) ⟨A1, c1, rfl, hr1⟩
      case o5 =>
        intro W hW; rintro _ ⟨A3, c3, rfl, hr3⟩; change wpList _ _ _ _ _ _
        go_wp2
        exact made_post rfl rfl rfl (Below.refl _ _) ⟨A3, c3, rfl, hr3⟩
    case hend =>
      intro W hW; rintro _ rfl; rintro _ ⟨A1, c1, rfl, hr1⟩; rintro _ rfl; rintro _ ⟨A3, c3, rfl, hr3⟩; rintro _ ⟨A4, c4, rfl, hr4⟩; rintro _ ⟨A5, c5, rfl, hr5⟩
      simp only [given, put_lit, List.set]
      have HRA := kp hr4; have HRB := kp hr5
      have HW3 : Kept (Below w.heap.size w W) := kp (HW2.out.trans (hW.mono hs2))
      have hs3 := HW3.out.size
      have HKc := kp (HKb.out.below hW HKb.out.lt)
      have HKc2 := kp (HKb2.out.below hW HKb2.out.lt)
      clear hr1 hr3 hr4 hr5 hW HCA HCN
      go_wp2
      go_loopw [9] (fun v9 wr => ∃ i : Nat, i ≤ us.length ∧ v9 = .int .i64 i ∧ Below W.heap.size W wr) (fun v9 _ => us.length - (intOf v9).toNat)
      case atStart => exact ⟨0, by omega, rfl, Below.refl _ _⟩
      case round =>
        obtain ⟨i, hi, rfl, hbw⟩ := hrel
        have HBw := kp hbw
        have hsw := hbw.size
        clear hbw
        by_cases hlt : i < us.length
        · obtain ⟨ad, x, rfl, _, hx, hcx⟩ := (HRA.out.below HBw.out).get hlt
          obtain ⟨ad2, x2, rfl, _, hx2, hcx2⟩ := (HRB.out.below HBw.out).get hlt
          have hxx : x2 = x := by rw [hx] at hx2; exact (Option.some.inj hx2).symm
          subst hxx
          obtain ⟨y, rfl⟩ := HInt.out x2 (List.mem_of_getElem? hx)
          clear hx hx2
          go_wp2
          go_quiet (fail)
          go_wp2
          go_roundw
          case rel => exact ⟨i + 1, by omega, by go_num, below_drewN HBw.out _⟩
          case measure => simp [intOf]; omega
        · have hge : us.length ≤ i := by omega
          have HW4 : Kept (Below w.heap.size w wr) := kp (HW3.out.trans (HBw.out.mono hs3))
          have hs4 := HW4.out.size
          have HKd := kp (HKc.out.below HBw.out HKc.out.lt)
          have HKd2 := kp (HKc2.out.below HBw.out HKc2.out.lt)
          obtain ⟨hd0, hd1, hd2, hd3⟩ := nd_cells HKd2.out
          clear hlt
          go_wp2_with fail
          refine (prog_access nd1 HN.out wr).mono ?_
          rintro e w5 ⟨rfl, hb5⟩
          have HW5 : Kept (Below w.heap.size w w5) := kp (HW4.out.trans (hb5.mono hs4))
          have hs5 := HW5.out.size
          have HKe := kp (HKd.out.below hb5 HKd.out.lt)
          have HKe2 := kp (HKd2.out.below hb5 HKd2.out.lt)
          clear hb5 hd0 hd1 hd2 hd3
          have HCA : Kept (∀ W, Below w5.heap.size w5 W → W.cell? ⟨g1, 0, none⟩ = some (.int .i64 pg0.g) ∧ W.cell? ⟨g1, 1, none⟩ = some (.int .i64 pg0.l) ∧ W.cell? ⟨g1, 2, none⟩ = some (.int .i64 pg0.s) ∧ W.cell? ⟨g1, 3, none⟩ = some (.slice pg0.A pg0.len pg0.cap)) := kp fun W hW => pg_cells (HKe.out.below hW HKe.out.lt)
          have HCN : Kept (∀ W, Below w5.heap.size w5 W → W.cell? ⟨g2, 0, none⟩ = some (.int .i64 nd1.kind) ∧ W.cell? ⟨g2, 1, none⟩ = some (.int .i64 nd1.arg) ∧ W.cell? ⟨g2, 2, none⟩ = some (.int .i64 nd1.next) ∧ W.cell? ⟨g2, 3, none⟩ = some (.int .i64 nd1.alt)) := kp fun W hW => nd_cells (HKe2.out.below hW HKe2.out.lt)
          have HPA : Kept (∀ W, Below w5.heap.size w5 W → pg0.Ok W w.heap.size) := kp fun W hW => HP.out.below (HW5.out.trans (hW.mono hs5))
          have HSZ : Kept (∀ W, Below w5.heap.size w5 W → w.heap.size ≤ W.heap.size) := kp fun W hW => Nat.le_trans hs5 hW.size
          by_cases hk : nd1.kind = 1
          · have hkb : (nd1.kind == 1) = true := by simpa using hk
            clear hk
            go_wp2
            apply region_list (.is _ :: .is _ :: .is _ :: .is _ :: .is _ :: .is _ :: .is _ :: .is _ :: .is _ :: .is _ :: .is _ :: .is _ :: .is _ :: .is _ :: .is _ :: .is _ :: .is _ :: .is _ :: .is _ :: .is _ :: .is _ :: .is _ :: .is _ :: .is _ :: .is _ :: .is _ :: .is _ :: .is _ :: .is _ :: .is _ :: .is _ :: .is _ :: .is _ :: .is _ :: .is _ :: [])
              [[], [], [], [(0, 51), (1, 52), (2, 53)], [], [], [], [(4, 55), (5, 56), (6, 57)], [(3, 54), (7, 58)], [(8, 59)], [(9, 60)], [(9, 60)], [(11, 62), (9, 60)], [(10, 61), (12, 63), (9, 60)], [(9, 60), (13, 64)], [(14, 65)], [(15, 66)], [(15, 66)], [(17, 68), (15, 66)], [(18, 69), (15, 66)], [(16, 67), (19, 70), (15, 66)], [(15, 66), (20, 71)], [(21, 72)], [(22, 73)], [(22, 73)], [(24, 75), (22, 73)], [(25, 76), (22, 73)], [(26, 77), (22, 73)], [(27, 78)], [(28, 79), (27, 78)], [(29, 80), (27, 78)], [(27, 78), (30, 81), (22, 73)], [(23, 74), (31, 82), (22, 73)], [(22, 73), (32, 83)], [(33, 84)]]
              [(0, 51), (1, 52), (2, 53), (3, 54), (4, 55), (5, 56), (6, 57), (7, 58), (8, 59), (9, 60), (10, 61), (11, 62), (12, 63), (13, 64), (14, 65), (15, 66), (16, 67), (17, 68), (18, 69), (19, 70), (20, 71), (21, 72), (22, 73), (23, 74), (24, 75), (25, 76), (26, 77), (27, 78), (28, 79), (29, 80), (30, 81), (31, 82), (32, 83), (33, 84), (34, 6)] (by kernel_rfl) (by kernel_rfl)
            case hob =>
              refine ⟨?o0, ?o1, ?o2, ?o3, ?o4, ?o5, ?o6, ?o7, ?o8, ?o9, ?o10, ?o11, ?o12, ?o13, ?o14, ?o15, ?o16, ?o17, ?o18, ?o19, ?o20, ?o21, ?o22, ?o23, ?o24, ?o25, ?o26, ?o27, ?o28, ?o29, ?o30, ?o31, ?o32, ?o33, ?o34, trivial⟩
              case o0 =>
                intro W hW; change wpList _ _ _ _ _ _
                obtain ⟨hc0, hc1, hc2, hc3⟩ := HCA.out W hW
                go_wp2; exact pure_post rfl rfl rfl
              case o1 =>
                intro W hW; change wpList _ _ _ _ _ _
                obtain ⟨hd0, hd1, hd2, hd3⟩ := HCN.out W hW
                go_wp2; exact pure_post rfl rfl rfl
              case o2 => intro W hW; change wpList _ _ _ _ _ _; go_wp2; exact pure_post rfl rfl rfl
              case o3 =>
                intro W hW; rintro _ rfl; rintro _ rfl; rintro _ rfl; change wpList _ _ _ _ _ _
                go_wp2_with fail
                refine (prog_may _ pg0 nd1 HN.out a2 HI.out m HM.out W (HPA.out W hW) (HSZ.out W hW)).mono ?_
                rintro e w2 ⟨rfl, hb2⟩
                have HB2 := kp hb2; clear hb2
                go_wp2
                exact made_post rfl rfl rfl HB2.out rfl
              case o4 =>
                intro W hW; change wpList _ _ _ _ _ _
                obtain ⟨hc0, hc1, hc2, hc3⟩ := HCA.out W hW
                go_wp2; exact pure_post rfl rfl rfl
              case o5 =>
                intro W hW; change wpList _ _ _ _ _ _
                obtain ⟨hd0, hd1, hd2, hd3⟩ := HCN.out W hW
                go_wp2; exact pure_post rfl rfl rfl
              case o6 => intro W hW; change wpList _ _ _ _ _ _; go_wp2; exact pure_post rfl rfl rfl
              case o7 =>
                intro W hW; rintro _ rfl; rintro _ rfl; rintro _ rfl; change wpList _ _ _ _ _ _
                go_wp2_with fail
                refine (ref_may pg0 nd1 HN.out a2 HI.out m HM.out W).mono ?_
                rintro e w2 ⟨rfl, hb2⟩
                have HB2 := kp hb2; clear hb2
                go_wp2
                exact made_post rfl rfl rfl HB2.out rfl
              case o8 => intro W hW; rintro _ rfl; rintro _ rfl; change wpList _ _ _ _ _ _; go_wp2; exact pure_post rfl rfl rfl
              case o9 => intro W hW; rintro _ rfl; change wpList _ _ _ _ _ _; go_wp2; exact pure_post rfl rfl rfl
              case o10 => intro W hW; rintro _ rfl; change wpList _ _ _ _ _ _; go_wp2; exact pure_post rfl rfl rfl
              case o11 => intro W hW; rintro _ rfl; change wpList _ _ _ _ _ _; go_wp2; exact pure_post rfl rfl rfl
              case o12 =>
                intro W hW; rintro _ rfl; rintro _ rfl; change wpList _ _ _ _ _ _
                obtain ⟨hd0, hd1, hd2, hd3⟩ := HCN.out W hW
                go_wp2; exact pure_post rfl rfl rfl
              case o13 => intro W hW; rintro _ rfl; rintro _ rfl; rintro _ rfl; change wpList _ _ _ _ _ _; go_wp2; exact pure_post rfl rfl rfl
              case o14 => intro W hW; rintro _ rfl; rintro _ rfl; change wpList _ _ _ _ _ _; go_wp2; exact pure_post rfl rfl rfl
              case o15 => intro W hW; rintro _ rfl; change wpList _ _ _ _ _ _; go_wp2; exact pure_post rfl rfl rfl
              case o16 => intro W hW; rintro _ rfl; change wpList _ _ _ _ _ _; go_wp2; exact pure_post rfl rfl rfl
              case o17 => intro W hW; rintro _ rfl; change wpList _ _ _ _ _ _; go_wp2; exact pure_post rfl rfl rfl
              case o18 =>
                intro W hW; rintro _ rfl; rintro _ rfl; change wpList _ _ _ _ _ _
                obtain ⟨hd0, hd1, hd2, hd3⟩ := HCN.out W hW
                go_wp2; exact pure_post rfl rfl rfl
              case o19 => intro W hW; rintro _ rfl; rintro _ rfl; change wpList _ _ _ _ _ _; go_wp2; exact pure_post rfl rfl rfl
              case o20 => intro W hW; rintro _ rfl; rintro _ rfl; rintro _ rfl; change wpList _ _ _ _ _ _; go_wp2; exact pure_post rfl rfl rfl
              case o21 => intro W hW; rintro _ rfl; rintro _ rfl; change wpList _ _ _ _ _ _; go_wp2; exact pure_post rfl rfl rfl
              case o22 => intro W hW; rintro _ rfl; change wpList _ _ _ _ _ _; go_wp2; exact pure_post rfl rfl rfl
              case o23 => intro W hW; rintro _ rfl; change wpList _ _ _ _ _ _; go_wp2; exact pure_post rfl rfl rfl
              case o24 => intro W hW; rintro _ rfl; change wpList _ _ _ _ _ _; go_wp2; exact pure_post rfl rfl rfl
              case o25 =>
                intro W hW; rintro _ rfl; rintro _ rfl; change wpList _ _ _ _ _ _
                obtain ⟨hd0, hd1, hd2, hd3⟩ := HCN.out W hW
                go_wp2; exact pure_post rfl rfl rfl
              case o26 => intro W hW; rintro _ rfl; rintro _ rfl; change wpList _ _ _ _ _ _; go_wp2; exact pure_post rfl rfl rfl
              case o27 => intro W hW; rintro _ rfl; rintro _ rfl; change wpList _ _ _ _ _ _; go_wp2; exact pure_post rfl rfl rfl
              case o28 => intro W hW; rintro _ rfl; change wpList _ _ _ _ _ _; go_wp2; exact pure_post rfl rfl rfl
              case o29 =>
                intro W hW; rintro _ rfl; rintro _ rfl; change wpList _ _ _ _ _ _
                obtain ⟨hd0, hd1, hd2, hd3⟩ := HCN.out W hW
                go_wp2; exact pure_post rfl rfl rfl
              case o30 => intro W hW; rintro _ rfl; rintro _ rfl; change wpList _ _ _ _ _ _; go_wp2; exact pure_post rfl rfl rfl
              case o31 => intro W hW; rintro _ rfl; rintro _ rfl; rintro _ rfl; change wpList _ _ _ _ _ _; go_wp2; exact pure_post rfl rfl rfl
              case o32 => intro W hW; rintro _ rfl; rintro _ rfl; rintro _ rfl; change wpList _ _ _ _ _ _; go_wp2; exact pure_post rfl rfl rfl
              case o33 => intro W hW; rintro _ rfl; rintro _ rfl; change wpList _ _ _ _ _ _; go_wp2; exact pure_post rfl rfl rfl
              case o34 => intro W hW; rintro _ rfl; change wpList _ _ _ _ _ _; go_wp2; exact pure_post rfl rfl rfl
            case hend =>
              intro W hW; rintro _ rfl; rintro _ rfl; rintro _ rfl; rintro _ rfl; rintro _ rfl; rintro _ rfl; rintro _ rfl; rintro _ rfl; rintro _ rfl; rintro _ rfl; rintro _ rfl; rintro _ rfl; rintro _ rfl; rintro _ rfl; rintro _ rfl; rintro _ rfl; rintro _ rfl; rintro _ rfl; rintro _ rfl; rintro _ rfl; rintro _ rfl; rintro _ rfl; rintro _ rfl; rintro _ rfl; rintro _ rfl; rintro _ rfl; rintro _ rfl; rintro _ rfl; rintro _ rfl; rintro _ rfl; rintro _ rfl; rintro _ rfl; rintro _ rfl; rintro _ rfl; rintro _ rfl
              simp only [given, put_lit, List.set]
              go_wp2
              go_ret
              exact ⟨rfl, HW5.out.trans (hW.mono hs5)⟩
          · have hkb : (nd1.kind == 1) = false := by simpa using hk
            clear hk
            go_wp2
            apply region_list (.is _ :: .is _ :: .is _ :: .is _ :: .is _ :: .is _ :: .is _ :: .is _ :: .is _ :: .is _ :: .is _ :: .is _ :: .is _ :: .is _ :: .is _ :: .is _ :: .is _ :: .is _ :: .is _ :: .is _ :: .is _ :: .is _ :: .is _ :: .is _ :: .is _ :: .is _ :: .is _ :: .is _ :: .is _ :: .is _ :: .is _ :: .is _ :: .is _ :: .is _ :: .is _ :: [])
              [[], [], [], [(0, 51), (1, 52), (2, 53)], [], [], [], [(4, 55), (5, 56), (6, 57)], [(3, 54), (7, 58)], [(8, 59)], [(9, 60)], [(9, 60)], [(11, 62), (9, 60)], [(10, 61), (12, 63), (9, 60)], [(9, 60), (13, 64)], [(14, 65)], [(15, 66)], [(15, 66)], [(17, 68), (15, 66)], [(18, 69), (15, 66)], [(16, 67), (19, 70), (15, 66)], [(15, 66), (20, 71)], [(21, 72)], [(22, 73)], [(22, 73)], [(24, 75), (22, 73)], [(25, 76), (22, 73)], [(26, 77), (22, 73)], [(27, 78)], [(28, 79), (27, 78)], [(29, 80), (27, 78)], [(27, 78), (30, 81), (22, 73)], [(23, 74), (31, 82), (22, 73)], [(22, 73), (32, 83)], [(33, 84)]]
              [(0, 51), (1, 52), (2, 53), (3, 54), (4, 55), (5, 56), (6, 57), (7, 58), (8, 59), (9, 60), (10, 61), (11, 62), (12, 63), (13, 64), (14, 65), (15, 66), (16, 67), (17, 68), (18, 69), (19, 70), (20, 71), (21, 72), (22, 73), (23, 74), (24, 75), (25, 76), (26, 77), (27, 78), (28, 79), (29, 80), (30, 81), (31, 82), (32, 83), (33, 84), (34, 6)] (by kernel_rfl) (by kernel_rfl)
            case hob =>
              refine ⟨?o0, ?o1, ?o2, ?o3, ?o4, ?o5, ?o6, ?o7, ?o8, ?o9, ?o10, ?o11, ?o12, ?o13, ?o14, ?o15, ?o16, ?o17, ?o18, ?o19, ?o20, ?o21, ?o22, ?o23, ?o24, ?o25, ?o26, ?o27, ?o28, ?o29, ?o30, ?o31, ?o32, ?o33, ?o34, trivial⟩
              case o0 =>
                intro W hW; change wpList _ _ _ _ _ _
                obtain ⟨hc0, hc1, hc2, hc3⟩ := HCA.out W hW
                go_wp2; exact pure_post rfl rfl rfl
              case o1 =>
                intro W hW; change wpList _ _ _ _ _ _
                obtain ⟨hd0, hd1, hd2, hd3⟩ := HCN.out W hW
                go_wp2; exact pure_post rfl rfl rfl
              case o2 => intro W hW; change wpList _ _ _ _ _ _; go_wp2; exact pure_post rfl rfl rfl
              case o3 =>
                intro W hW; rintro _ rfl; rintro _ rfl; rintro _ rfl; change wpList _ _ _ _ _ _
                go_wp2_with fail
                refine (prog_may _ pg0 nd1 HN.out a2 HI.out m HM.out W (HPA.out W hW) (HSZ.out W hW)).mono ?_
                rintro e w2 ⟨rfl, hb2⟩
                have HB2 := kp hb2; clear hb2
                go_wp2
                exact made_post rfl rfl rfl HB2.out rfl
              case o4 =>
                intro W hW; change wpList _ _ _ _ _ _
                obtain ⟨hc0, hc1, hc2, hc3⟩ := HCA.out W hW
                go_wp2; exact pure_post rfl rfl rfl
              case o5 =>
                intro W hW; change wpList _ _ _ _ _ _
                obtain ⟨hd0, hd1, hd2, hd3⟩ := HCN.out W hW
                go_wp2; exact pure_post rfl rfl rfl
              case o6 => intro W hW; change wpList _ _ _ _ _ _; go_wp2; exact pure_post rfl rfl rfl
              case o7 =>
                intro W hW; rintro _ rfl; rintro _ rfl; rintro _ rfl; change wpList _ _ _ _ _ _
                go_wp2_with fail
                refine (ref_may pg0 nd1 HN.out a2 HI.out m HM.out W).mono ?_
                rintro e w2 ⟨rfl, hb2⟩
                have HB2 := kp hb2; clear hb2
                go_wp2
                exact made_post rfl rfl rfl HB2.out rfl
              case o8 => intro W hW; rintro _ rfl; rintro _ rfl; change wpList _ _ _ _ _ _; go_wp2; exact pure_post rfl rfl rfl
              case o9 => intro W hW; rintro _ rfl; change wpList _ _ _ _ _ _; go_wp2; exact pure_post rfl rfl rfl
              case o10 => intro W hW; rintro _ rfl; change wpList _ _ _ _ _ _; go_wp2; exact pure_post rfl rfl rfl
              case o11 => intro W hW; rintro _ rfl; change wpList _ _ _ _ _ _; go_wp2; exact pure_post rfl rfl rfl
              case o12 =>
                intro W hW; rintro _ rfl; rintro _ rfl; change wpList _ _ _ _ _ _
                obtain ⟨hd0, hd1, hd2, hd3⟩ := HCN.out W hW
                go_wp2; exact pure_post rfl rfl rfl
              case o13 => intro W hW; rintro _ rfl; rintro _ rfl; rintro _ rfl; change wpList _ _ _ _ _ _; go_wp2; exact pure_post rfl rfl rfl
              case o14 => intro W hW; rintro _ rfl; rintro _ rfl; change wpList _ _ _ _ _ _; go_wp2; exact pure_post rfl rfl rfl
              case o15 => intro W hW; rintro _ rfl; change wpList _ _ _ _ _ _; go_wp2; exact pure_post rfl rfl rfl
              case o16 => intro W hW; rintro _ rfl; change wpList _ _ _ _ _ _; go_wp2; exact pure_post rfl rfl rfl
              case o17 => intro W hW; rintro _ rfl; change wpList _ _ _ _ _ _; go_wp2; exact pure_post rfl rfl rfl
              case o18 =>
                intro W hW; rintro _ rfl; rintro _ rfl; change wpList _ _ _ _ _ _
                obtain ⟨hd0, hd1, hd2, hd3⟩ := HCN.out W hW
                go_wp2; exact pure_post rfl rfl rfl
              case o19 => intro W hW; rintro _ rfl; rintro _ rfl; change wpList _ _ _ _ _ _; go_wp2; exact pure_post rfl rfl rfl
              case o20 => intro W hW; rintro _ rfl; rintro _ rfl; rintro _ rfl; change wpList _ _ _ _ _ _; go_wp2; exact pure_post rfl rfl rfl
              case o21 => intro W hW; rintro _ rfl; rintro _ rfl; change wpList _ _ _ _ _ _; go_wp2; exact pure_post rfl rfl rfl
              case o22 => intro W hW; rintro _ rfl; change wpList _ _ _ _ _ _; go_wp2; exact pure_post rfl rfl rfl
              case o23 => intro W hW; rintro _ rfl; change wpList _ _ _ _ _ _; go_wp2; exact pure_post rfl rfl rfl
              case o24 => intro W hW; rintro _ rfl; change wpList _ _ _ _ _ _; go_wp2; exact pure_post rfl rfl rfl
              case o25 =>
                intro W hW; rintro _ rfl; rintro _ rfl; change wpList _ _ _ _ _ _
                obtain ⟨hd0, hd1, hd2, hd3⟩ := HCN.out W hW
                go_wp2; exact pure_post rfl rfl rfl
              case o26 => intro W hW; rintro _ rfl; rintro _ rfl; change wpList _ _ _ _ _ _; go_wp2; exact pure_post rfl rfl rfl
              case o27 => intro W hW; rintro _ rfl; rintro _ rfl; change wpList _ _ _ _ _ _; go_wp2; exact pure_post rfl rfl rfl
              case o28 => intro W hW; rintro _ rfl; change wpList _ _ _ _ _ _; go_wp2; exact pure_post rfl rfl rfl
              case o29 =>
                intro W hW; rintro _ rfl; rintro _ rfl; change wpList _ _ _ _ _ _
                obtain ⟨hd0, hd1, hd2, hd3⟩ := HCN.out W hW
                go_wp2; exact pure_post rfl rfl rfl
              case o30 => intro W hW; rintro _ rfl; rintro _ rfl; change wpList _ _ _ _ _ _; go_wp2; exact pure_post rfl rfl rfl
              case o31 => intro W hW; rintro _ rfl; rintro _ rfl; rintro _ rfl; change wpList _ _ _ _ _ _; go_wp2; exact pure_post rfl rfl rfl
              case o32 => intro W hW; rintro _ rfl; rintro _ rfl; rintro _ rfl; change wpList _ _ _ _ _ _; go_wp2; exact pure_post rfl rfl rfl
              case o33 => intro W hW; rintro _ rfl; rintro _ rfl; change wpList _ _ _ _ _ _; go_wp2; exact pure_post rfl rfl rfl
              case o34 => intro W hW; rintro _ rfl; change wpList _ _ _ _ _ _; go_wp2; exact pure_post rfl rfl rfl
            case hend =>
              intro W hW; rintro _ rfl; rintro _ rfl; rintro _ rfl; rintro _ rfl; rintro _ rfl; rintro _ rfl; rintro _ rfl; rintro _ rfl; rintro _ rfl; rintro _ rfl; rintro _ rfl; rintro _ rfl; rintro _ rfl; rintro _ rfl; rintro _ rfl; rintro _ rfl; rintro _ rfl; rintro _ rfl; rintro _ rfl; rintro _ rfl; rintro _ rfl; rintro _ rfl; rintro _ rfl; rintro _ rfl; rintro _ rfl; rintro _ rfl; rintro _ rfl; rintro _ rfl; rintro _ rfl; rintro _ rfl; rintro _ rfl; rintro _ rfl; rintro _ rfl; rintro _ rfl; rintro _ rfl
              simp only [given, put_lit, List.set]
              go_wp2
              go_ret
              exact ⟨rfl, HW5.out.trans (hW.mono hs5)⟩
end Go.Proofs.Ytkglcmbpajfofaa
