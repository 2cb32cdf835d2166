/- ProgFront, walked. -/
import Derived.Test.YtkglcmbpajfofaaProgLaw2
namespace Go.Proofs.Ytkglcmbpajfofaa
open Go.RowKit

theorem pg_zero : (Try.prog.info? 24).map (·.zero) = some (some (.agg [Value.int .i64 0, .int .i64 0, .int .i64 0, .slice none 0 0].toArray)) := by kernel_rfl
theorem pg_ones (p : Pg) : ∀ u ∈ pgC p, u.oneCell' = true := by
  intro u hu
  simp only [pgC, List.mem_cons, List.not_mem_nil, or_false] at hu
  rcases hu with h | h | h | h <;> subst h <;> rfl

set_option maxRecDepth 1000000 in
set_option maxHeartbeats 4000000 in
theorem walkProgFront (pg0 : Pg) (a1 : Int) (a2 : Int) (a3 : Int) (w : World) (w0 : pg0.Ok w w.heap.size) (w1 : (Lit.int .u8 a1).wf = true) (w2 : (Lit.int .u8 a2).wf = true) (w3 : (Lit.int .u8 a3).wf = true) :
    Calls Try.prog 8 #[pgA pg0, .int .u8 a1, .int .u8 a2, .int .u8 a3] w fun e w' => e = .returned (.bool true) ∧ Below w.heap.size w w' := by
  have HP := kp w0
  obtain ⟨hu1, hv1⟩ := u8_range _ w1
  obtain ⟨hu2, hv2⟩ := u8_range _ w2
  obtain ⟨hu3, hv3⟩ := u8_range _ w3
  clear w0 w1 w2 w3
  obtain ⟨r, hr⟩ : ∃ r, Q.small pg0 = r := ⟨_, rfl⟩
  have HR := kp hr
  clear hr
  rw [pgA_is]
  cases r
  · go_enter Try.func8, Try.ntmps8
    go_wp2_with (first
      | ((with_reducible refine wpList_box_agg rfl 24 (.tmp 0) rfl (pgC pg0) rfl ?_); intro g1 u1 hg1 hk1 hu1; have HK1 := kp hk1; have HU1 := kp hu1; have hz1 := hu1.size; clear hg1 hk1 hu1))
    refine (awake_any u1).mono ?_
    rintro e w1 ⟨rfl, hb1⟩
    have HW1 : Kept (Below w.heap.size w w1) := kp (HU1.out.trans (hb1.mono hz1))
    have hs1 := HW1.out.size
    have HP1 := kp (HP.out.below HW1.out)
    have HKa := kp (HK1.out.below hb1 HK1.out.lt)
    obtain ⟨hc0, hc1, hc2, hc3⟩ := pg_cells HKa.out
    clear hb1
    go_wp2_with fail
    refine (ref_small _ pg0 w1 HP1.out hs1 _ HR.out).mono ?_
    rintro e w2 ⟨rfl, hb2⟩
    have HW2 : Kept (Below w.heap.size w w2) := kp (HW1.out.trans (hb2.mono hs1))
    have hs2 := HW2.out.size
    have HP2 := kp (HP.out.below HW2.out)
    have HKb := kp (HKa.out.below hb2 HKa.out.lt)
    clear hb2 hc0 hc1 hc2 hc3
    obtain ⟨hc0, hc1, hc2, hc3⟩ := pg_cells HKb.out
    go_wp2_with fail
    refine (awake_any w2).mono ?_
    rintro e w3 ⟨rfl, hb3⟩
    have HW3 := kp (HW2.out.trans (hb3.mono hs2))
    clear hb3
    go_wp2
    go_ret
    exact ⟨rfl, HW3.out⟩
  · obtain ⟨a, b, c, hc⟩ : ∃ a b c, Q.check pg0 = (a, b, c) := ⟨_, _, _, rfl⟩
    have HC := kp hc
    by_cases hc0 : c = 0
    · subst hc0
      have hf := fine_of hc
      obtain ⟨hg1, hg2⟩ := hf.counts.g
      obtain ⟨hl1, hl2⟩ := hf.counts.l
      obtain ⟨hq1, hq2⟩ := hf.counts.s
      have HF := kp hf
      obtain ⟨gg, hgg⟩ : ∃ gg, pg0.g + a1 % 20 = gg := ⟨_, rfl⟩
      obtain ⟨ll, hll⟩ : ∃ ll, pg0.l + a2 % 20 = ll := ⟨_, rfl⟩
      obtain ⟨ss, hss⟩ : ∃ ss, pg0.s + a3 % 12 = ss := ⟨_, rfl⟩
      have HG : Kept (I64 gg) := kp (by unfold I64; omega)
      have HLl : Kept (I64 ll) := kp (by unfold I64; omega)
      have HSs : Kept (I64 ss) := kp (by unfold I64; omega)
      have HGe : Kept (pg0.g ≤ gg ∧ pg0.l ≤ ll ∧ pg0.s ≤ ss) := kp (by omega)
      clear hc hf
      by_cases h16 : 16 < gg
      · have HC2 : Kept (Q.check (more pg0 gg ll ss) = (-1, -1, 4)) := kp (more_long HF.out HGe.out.1 HGe.out.2.1 HGe.out.2.2 (.inl h16))
        have hb16 : decide (16 < gg) = true := decide_eq_true h16
        clear h16
        go_enter Try.func8, Try.ntmps8
        go_wp2_with (first
          | ((with_reducible refine wpList_box_agg rfl 24 (.tmp 0) rfl (pgC pg0) rfl ?_); intro g1 u1 hg1 hk1 hu1; have HK1 := kp hk1; have HU1 := kp hu1; have hz1 := hu1.size; clear hg1 hk1 hu1))
        refine (awake_any u1).mono ?_
        rintro e w1 ⟨rfl, hb1⟩
        have HW1 : Kept (Below w.heap.size w w1) := kp (HU1.out.trans (hb1.mono hz1))
        have hs1 := HW1.out.size
        have HP1 := kp (HP.out.below HW1.out)
        have HKa := kp (HK1.out.below hb1 HK1.out.lt)
        obtain ⟨hc0, hc1, hc2, hc3⟩ := pg_cells HKa.out
        clear hb1
        go_wp2_with fail
        refine (ref_small _ pg0 w1 HP1.out hs1 _ HR.out).mono ?_
        rintro e w2 ⟨rfl, hb2⟩
        have HW2 : Kept (Below w.heap.size w w2) := kp (HW1.out.trans (hb2.mono hs1))
        have hs2 := HW2.out.size
        have HP2 := kp (HP.out.below HW2.out)
        have HKb := kp (HKa.out.below hb2 HKa.out.lt)
        clear hb2 hc0 hc1 hc2 hc3
        obtain ⟨hc0, hc1, hc2, hc3⟩ := pg_cells HKb.out
        go_wp2_with fail
        refine (prog_check _ pg0 w2 HP2.out hs2 HR.out a b 0 HC.out).mono ?_
        rintro e w3 ⟨rfl, hb3⟩
        have HW3 : Kept (Below w.heap.size w w3) := kp (HW2.out.trans (hb3.mono hs2))
        have hs3 := HW3.out.size
        have HKc := kp (HKb.out.below hb3 HKb.out.lt)
        clear hb3 hc0 hc1 hc2 hc3
        obtain ⟨hc0, hc1, hc2, hc3⟩ := pg_cells HKc.out
        go_wp2_with (first
          | ((with_reducible show wpList _ _ _ (⟨some 12, _, _, _, _, _⟩ :: _) _ _); go_must (refine wpList_alloc_zero rfl 24 rfl _ pg_zero ?_); intro g5 w6 hg5 hk6 hw6; have HK6 := kp hk6; have HW6 := kp (HW3.out.trans (hw6.mono hs3)); have hs6 := HW6.out.size; clear hk6 hw6)
          | ((with_reducible show wpList _ _ _ (⟨none, _, _, _, _, _⟩ :: _) _ _); go_must (refine wpList_store_blk rfl 24 (.tmp 12) (.tmp 52) rfl g5 (pgC (more pg0 gg ll ss)) rfl rfl _ _ HK6.out pg_size rfl (pg_ones _) ?_); intro w7 hk7 hg7 hs7
             obtain ⟨hd0, hd1, hd2, hd3⟩ : w7.cell? ⟨g5, 0, none⟩ = some (.int .i64 gg) ∧ w7.cell? ⟨g5, 1, none⟩ = some (.int .i64 ll) ∧ w7.cell? ⟨g5, 2, none⟩ = some (.int .i64 ss) ∧ w7.cell? ⟨g5, 3, none⟩ = some (.slice pg0.A pg0.len pg0.cap) := pg_cells (p := more pg0 gg ll ss) hk7
             have HK7 := kp hk7
             have HW7 : Kept (Below w.heap.size w w7) := kp (HW6.out.grown hg7 hs6 (by intro k e; cases e; omega))
             have hs77 := HW7.out.size
             clear hk7 hg7 hc0 hc1 hc2 hc3)
          | (go_at_call 16; go_must (refine (prog_check w.heap.size (more pg0 gg ll ss) w7 (more_ok (HP.out.below HW7.out) HG.out HLl.out HSs.out) hs77 HR.out (-1) (-1) 4 HC2.out).mono ?_); rintro e w8 ⟨rfl, hb8⟩
             have HW8 := kp (HW7.out.trans (hb8.mono hs77))
             have HK8 := kp (HK7.out.below hb8 HK7.out.lt)
             obtain ⟨hf0, hf1, hf2, hf3⟩ : w8.cell? ⟨g5, 0, none⟩ = some (.int .i64 gg) ∧ w8.cell? ⟨g5, 1, none⟩ = some (.int .i64 ll) ∧ w8.cell? ⟨g5, 2, none⟩ = some (.int .i64 ss) ∧ w8.cell? ⟨g5, 3, none⟩ = some (.slice pg0.A pg0.len pg0.cap) := pg_cells (p := more pg0 gg ll ss) HK8.out
             clear hb8 hd0 hd1 hd2 hd3))
        go_ret
        exact ⟨rfl, HW8.out⟩
      by_cases h17 : 16 < ll
      · have HC2 : Kept (Q.check (more pg0 gg ll ss) = (-1, -1, 4)) := kp (more_long HF.out HGe.out.1 HGe.out.2.1 HGe.out.2.2 (.inr (.inl h17)))
        have hb16 : decide (16 < gg) = false := decide_eq_false h16
        have hb17 : decide (16 < ll) = true := decide_eq_true h17
        clear h16 h17
        go_enter Try.func8, Try.ntmps8
        go_wp2_with (first
          | ((with_reducible refine wpList_box_agg rfl 24 (.tmp 0) rfl (pgC pg0) rfl ?_); intro g1 u1 hg1 hk1 hu1; have HK1 := kp hk1; have HU1 := kp hu1; have hz1 := hu1.size; clear hg1 hk1 hu1))
        refine (awake_any u1).mono ?_
        rintro e w1 ⟨rfl, hb1⟩
        have HW1 : Kept (Below w.heap.size w w1) := kp (HU1.out.trans (hb1.mono hz1))
        have hs1 := HW1.out.size
        have HP1 := kp (HP.out.below HW1.out)
        have HKa := kp (HK1.out.below hb1 HK1.out.lt)
        obtain ⟨hc0, hc1, hc2, hc3⟩ := pg_cells HKa.out
        clear hb1
        go_wp2_with fail
        refine (ref_small _ pg0 w1 HP1.out hs1 _ HR.out).mono ?_
        rintro e w2 ⟨rfl, hb2⟩
        have HW2 : Kept (Below w.heap.size w w2) := kp (HW1.out.trans (hb2.mono hs1))
        have hs2 := HW2.out.size
        have HP2 := kp (HP.out.below HW2.out)
        have HKb := kp (HKa.out.below hb2 HKa.out.lt)
        clear hb2 hc0 hc1 hc2 hc3
        obtain ⟨hc0, hc1, hc2, hc3⟩ := pg_cells HKb.out
        go_wp2_with fail
        refine (prog_check _ pg0 w2 HP2.out hs2 HR.out a b 0 HC.out).mono ?_
        rintro e w3 ⟨rfl, hb3⟩
        have HW3 : Kept (Below w.heap.size w w3) := kp (HW2.out.trans (hb3.mono hs2))
        have hs3 := HW3.out.size
        have HKc := kp (HKb.out.below hb3 HKb.out.lt)
        clear hb3 hc0 hc1 hc2 hc3
        obtain ⟨hc0, hc1, hc2, hc3⟩ := pg_cells HKc.out
        go_wp2_with (first
          | ((with_reducible show wpList _ _ _ (⟨some 12, _, _, _, _, _⟩ :: _) _ _); go_must (refine wpList_alloc_zero rfl 24 rfl _ pg_zero ?_); intro g5 w6 hg5 hk6 hw6; have HK6 := kp hk6; have HW6 := kp (HW3.out.trans (hw6.mono hs3)); have hs6 := HW6.out.size; clear hk6 hw6)
          | ((with_reducible show wpList _ _ _ (⟨none, _, _, _, _, _⟩ :: _) _ _); go_must (refine wpList_store_blk rfl 24 (.tmp 12) (.tmp 52) rfl g5 (pgC (more pg0 gg ll ss)) rfl rfl _ _ HK6.out pg_size rfl (pg_ones _) ?_); intro w7 hk7 hg7 hs7
             obtain ⟨hd0, hd1, hd2, hd3⟩ : w7.cell? ⟨g5, 0, none⟩ = some (.int .i64 gg) ∧ w7.cell? ⟨g5, 1, none⟩ = some (.int .i64 ll) ∧ w7.cell? ⟨g5, 2, none⟩ = some (.int .i64 ss) ∧ w7.cell? ⟨g5, 3, none⟩ = some (.slice pg0.A pg0.len pg0.cap) := pg_cells (p := more pg0 gg ll ss) hk7
             have HK7 := kp hk7
             have HW7 : Kept (Below w.heap.size w w7) := kp (HW6.out.grown hg7 hs6 (by intro k e; cases e; omega))
             have hs77 := HW7.out.size
             clear hk7 hg7 hc0 hc1 hc2 hc3)
          | (go_at_call 16; go_must (refine (prog_check w.heap.size (more pg0 gg ll ss) w7 (more_ok (HP.out.below HW7.out) HG.out HLl.out HSs.out) hs77 HR.out (-1) (-1) 4 HC2.out).mono ?_); rintro e w8 ⟨rfl, hb8⟩
             have HW8 := kp (HW7.out.trans (hb8.mono hs77))
             have HK8 := kp (HK7.out.below hb8 HK7.out.lt)
             obtain ⟨hf0, hf1, hf2, hf3⟩ : w8.cell? ⟨g5, 0, none⟩ = some (.int .i64 gg) ∧ w8.cell? ⟨g5, 1, none⟩ = some (.int .i64 ll) ∧ w8.cell? ⟨g5, 2, none⟩ = some (.int .i64 ss) ∧ w8.cell? ⟨g5, 3, none⟩ = some (.slice pg0.A pg0.len pg0.cap) := pg_cells (p := more pg0 gg ll ss) HK8.out
             clear hb8 hd0 hd1 hd2 hd3))
        go_ret
        exact ⟨rfl, HW8.out⟩
      by_cases h18 : 8 < ss
      · have HC2 : Kept (Q.check (more pg0 gg ll ss) = (-1, -1, 4)) := kp (more_long HF.out HGe.out.1 HGe.out.2.1 HGe.out.2.2 (.inr (.inr h18)))
        have hb16 : decide (16 < gg) = false := decide_eq_false h16
        have hb17 : decide (16 < ll) = false := decide_eq_false h17
        have hb18 : decide (8 < ss) = true := decide_eq_true h18
        clear h16 h17 h18
        go_enter Try.func8, Try.ntmps8
        go_wp2_with (first
          | ((with_reducible refine wpList_box_agg rfl 24 (.tmp 0) rfl (pgC pg0) rfl ?_); intro g1 u1 hg1 hk1 hu1; have HK1 := kp hk1; have HU1 := kp hu1; have hz1 := hu1.size; clear hg1 hk1 hu1))
        refine (awake_any u1).mono ?_
        rintro e w1 ⟨rfl, hb1⟩
        have HW1 : Kept (Below w.heap.size w w1) := kp (HU1.out.trans (hb1.mono hz1))
        have hs1 := HW1.out.size
        have HP1 := kp (HP.out.below HW1.out)
        have HKa := kp (HK1.out.below hb1 HK1.out.lt)
        obtain ⟨hc0, hc1, hc2, hc3⟩ := pg_cells HKa.out
        clear hb1
        go_wp2_with fail
        refine (ref_small _ pg0 w1 HP1.out hs1 _ HR.out).mono ?_
        rintro e w2 ⟨rfl, hb2⟩
        have HW2 : Kept (Below w.heap.size w w2) := kp (HW1.out.trans (hb2.mono hs1))
        have hs2 := HW2.out.size
        have HP2 := kp (HP.out.below HW2.out)
        have HKb := kp (HKa.out.below hb2 HKa.out.lt)
        clear hb2 hc0 hc1 hc2 hc3
        obtain ⟨hc0, hc1, hc2, hc3⟩ := pg_cells HKb.out
        go_wp2_with fail
        refine (prog_check _ pg0 w2 HP2.out hs2 HR.out a b 0 HC.out).mono ?_
        rintro e w3 ⟨rfl, hb3⟩
        have HW3 : Kept (Below w.heap.size w w3) := kp (HW2.out.trans (hb3.mono hs2))
        have hs3 := HW3.out.size
        have HKc := kp (HKb.out.below hb3 HKb.out.lt)
        clear hb3 hc0 hc1 hc2 hc3
        obtain ⟨hc0, hc1, hc2, hc3⟩ := pg_cells HKc.out
        go_wp2_with (first
          | ((with_reducible show wpList _ _ _ (⟨some 12, _, _, _, _, _⟩ :: _) _ _); go_must (refine wpList_alloc_zero rfl 24 rfl _ pg_zero ?_); intro g5 w6 hg5 hk6 hw6; have HK6 := kp hk6; have HW6 := kp (HW3.out.trans (hw6.mono hs3)); have hs6 := HW6.out.size; clear hk6 hw6)
          | ((with_reducible show wpList _ _ _ (⟨none, _, _, _, _, _⟩ :: _) _ _); go_must (refine wpList_store_blk rfl 24 (.tmp 12) (.tmp 52) rfl g5 (pgC (more pg0 gg ll ss)) rfl rfl _ _ HK6.out pg_size rfl (pg_ones _) ?_); intro w7 hk7 hg7 hs7
             obtain ⟨hd0, hd1, hd2, hd3⟩ : w7.cell? ⟨g5, 0, none⟩ = some (.int .i64 gg) ∧ w7.cell? ⟨g5, 1, none⟩ = some (.int .i64 ll) ∧ w7.cell? ⟨g5, 2, none⟩ = some (.int .i64 ss) ∧ w7.cell? ⟨g5, 3, none⟩ = some (.slice pg0.A pg0.len pg0.cap) := pg_cells (p := more pg0 gg ll ss) hk7
             have HK7 := kp hk7
             have HW7 : Kept (Below w.heap.size w w7) := kp (HW6.out.grown hg7 hs6 (by intro k e; cases e; omega))
             have hs77 := HW7.out.size
             clear hk7 hg7 hc0 hc1 hc2 hc3)
          | (go_at_call 16; go_must (refine (prog_check w.heap.size (more pg0 gg ll ss) w7 (more_ok (HP.out.below HW7.out) HG.out HLl.out HSs.out) hs77 HR.out (-1) (-1) 4 HC2.out).mono ?_); rintro e w8 ⟨rfl, hb8⟩
             have HW8 := kp (HW7.out.trans (hb8.mono hs77))
             have HK8 := kp (HK7.out.below hb8 HK7.out.lt)
             obtain ⟨hf0, hf1, hf2, hf3⟩ : w8.cell? ⟨g5, 0, none⟩ = some (.int .i64 gg) ∧ w8.cell? ⟨g5, 1, none⟩ = some (.int .i64 ll) ∧ w8.cell? ⟨g5, 2, none⟩ = some (.int .i64 ss) ∧ w8.cell? ⟨g5, 3, none⟩ = some (.slice pg0.A pg0.len pg0.cap) := pg_cells (p := more pg0 gg ll ss) HK8.out
             clear hb8 hd0 hd1 hd2 hd3))
        go_ret
        exact ⟨rfl, HW8.out⟩
      · have HC2 : Kept (Q.check (more pg0 gg ll ss) = (0, 0, 0)) := kp (more_fine HF.out HGe.out.1 HGe.out.2.1 HGe.out.2.2 (by omega) (by omega) (by omega))
        have hb16 : decide (16 < gg) = false := decide_eq_false h16
        have hb17 : decide (16 < ll) = false := decide_eq_false h17
        have hb18 : decide (8 < ss) = false := decide_eq_false h18
        clear h16 h17 h18
        go_enter Try.func8, Try.ntmps8
        go_wp2_with (first
          | ((with_reducible refine wpList_box_agg rfl 24 (.tmp 0) rfl (pgC pg0) rfl ?_); intro g1 u1 hg1 hk1 hu1; have HK1 := kp hk1; have HU1 := kp hu1; have hz1 := hu1.size; clear hg1 hk1 hu1))
        refine (awake_any u1).mono ?_
        rintro e w1 ⟨rfl, hb1⟩
        have HW1 : Kept (Below w.heap.size w w1) := kp (HU1.out.trans (hb1.mono hz1))
        have hs1 := HW1.out.size
        have HP1 := kp (HP.out.below HW1.out)
        have HKa := kp (HK1.out.below hb1 HK1.out.lt)
        obtain ⟨hc0, hc1, hc2, hc3⟩ := pg_cells HKa.out
        clear hb1
        go_wp2_with fail
        refine (ref_small _ pg0 w1 HP1.out hs1 _ HR.out).mono ?_
        rintro e w2 ⟨rfl, hb2⟩
        have HW2 : Kept (Below w.heap.size w w2) := kp (HW1.out.trans (hb2.mono hs1))
        have hs2 := HW2.out.size
        have HP2 := kp (HP.out.below HW2.out)
        have HKb := kp (HKa.out.below hb2 HKa.out.lt)
        clear hb2 hc0 hc1 hc2 hc3
        obtain ⟨hc0, hc1, hc2, hc3⟩ := pg_cells HKb.out
        go_wp2_with fail
        refine (prog_check _ pg0 w2 HP2.out hs2 HR.out a b 0 HC.out).mono ?_
        rintro e w3 ⟨rfl, hb3⟩
        have HW3 : Kept (Below w.heap.size w w3) := kp (HW2.out.trans (hb3.mono hs2))
        have hs3 := HW3.out.size
        have HKc := kp (HKb.out.below hb3 HKb.out.lt)
        clear hb3 hc0 hc1 hc2 hc3
        obtain ⟨hc0, hc1, hc2, hc3⟩ := pg_cells HKc.out
        go_wp2_with (first
          | ((with_reducible show wpList _ _ _ (⟨some 12, _, _, _, _, _⟩ :: _) _ _); go_must (refine wpList_alloc_zero rfl 24 rfl _ pg_zero ?_); intro g5 w6 hg5 hk6 hw6; have HK6 := kp hk6; have HW6 := kp (HW3.out.trans (hw6.mono hs3)); have hs6 := HW6.out.size; clear hk6 hw6)
          | ((with_reducible show wpList _ _ _ (⟨none, _, _, _, _, _⟩ :: _) _ _); go_must (refine wpList_store_blk rfl 24 (.tmp 12) (.tmp 52) rfl g5 (pgC (more pg0 gg ll ss)) rfl rfl _ _ HK6.out pg_size rfl (pg_ones _) ?_); intro w7 hk7 hg7 hs7
             obtain ⟨hd0, hd1, hd2, hd3⟩ : w7.cell? ⟨g5, 0, none⟩ = some (.int .i64 gg) ∧ w7.cell? ⟨g5, 1, none⟩ = some (.int .i64 ll) ∧ w7.cell? ⟨g5, 2, none⟩ = some (.int .i64 ss) ∧ w7.cell? ⟨g5, 3, none⟩ = some (.slice pg0.A pg0.len pg0.cap) := pg_cells (p := more pg0 gg ll ss) hk7
             have HK7 := kp hk7
             have HW7 : Kept (Below w.heap.size w w7) := kp (HW6.out.grown hg7 hs6 (by intro k e; cases e; omega))
             have hs77 := HW7.out.size
             clear hk7 hg7 hc0 hc1 hc2 hc3)
          | (go_at_call 16; go_must (refine (prog_check w.heap.size (more pg0 gg ll ss) w7 (more_ok (HP.out.below HW7.out) HG.out HLl.out HSs.out) hs77 HR.out 0 0 0 HC2.out).mono ?_); rintro e w8 ⟨rfl, hb8⟩
             have HW8 := kp (HW7.out.trans (hb8.mono hs77))
             have HK8 := kp (HK7.out.below hb8 HK7.out.lt)
             obtain ⟨hf0, hf1, hf2, hf3⟩ : w8.cell? ⟨g5, 0, none⟩ = some (.int .i64 gg) ∧ w8.cell? ⟨g5, 1, none⟩ = some (.int .i64 ll) ∧ w8.cell? ⟨g5, 2, none⟩ = some (.int .i64 ss) ∧ w8.cell? ⟨g5, 3, none⟩ = some (.slice pg0.A pg0.len pg0.cap) := pg_cells (p := more pg0 gg ll ss) HK8.out
             clear hb8 hd0 hd1 hd2 hd3))
        go_ret
        exact ⟨rfl, HW8.out⟩
    · have hcz : ((c : Int) != 0) = true := by simp; omega
      clear hc hc0
      go_enter Try.func8, Try.ntmps8
      go_wp2_with (first
        | ((with_reducible refine wpList_box_agg rfl 24 (.tmp 0) rfl (pgC pg0) rfl ?_); intro g1 u1 hg1 hk1 hu1; have HK1 := kp hk1; have HU1 := kp hu1; have hz1 := hu1.size; clear hg1 hk1 hu1))
      refine (awake_any u1).mono ?_
      rintro e w1 ⟨rfl, hb1⟩
      have HW1 : Kept (Below w.heap.size w w1) := kp (HU1.out.trans (hb1.mono hz1))
      have hs1 := HW1.out.size
      have HP1 := kp (HP.out.below HW1.out)
      have HKa := kp (HK1.out.below hb1 HK1.out.lt)
      obtain ⟨hc0, hc1, hc2, hc3⟩ := pg_cells HKa.out
      clear hb1
      go_wp2_with fail
      refine (ref_small _ pg0 w1 HP1.out hs1 _ HR.out).mono ?_
      rintro e w2 ⟨rfl, hb2⟩
      have HW2 : Kept (Below w.heap.size w w2) := kp (HW1.out.trans (hb2.mono hs1))
      have hs2 := HW2.out.size
      have HP2 := kp (HP.out.below HW2.out)
      have HKb := kp (HKa.out.below hb2 HKa.out.lt)
      clear hb2 hc0 hc1 hc2 hc3
      obtain ⟨hc0, hc1, hc2, hc3⟩ := pg_cells HKb.out
      go_wp2_with fail
      refine (prog_check _ pg0 w2 HP2.out hs2 HR.out a b c HC.out).mono ?_
      rintro e w3 ⟨rfl, hb3⟩
      have HW3 : Kept (Below w.heap.size w w3) := kp (HW2.out.trans (hb3.mono hs2))
      have hs3 := HW3.out.size
      have HKc := kp (HKb.out.below hb3 HKb.out.lt)
      clear hb3 hc0 hc1 hc2 hc3
      obtain ⟨hc0, hc1, hc2, hc3⟩ := pg_cells HKc.out
      go_wp2
      go_ret
      exact ⟨rfl, HW3.out⟩
end Go.Proofs.Ytkglcmbpajfofaa
