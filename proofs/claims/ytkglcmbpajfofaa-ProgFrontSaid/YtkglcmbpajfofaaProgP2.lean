/- The program's comparing of programs, walked: sameNodes, Same. -/
import Derived.Test.YtkglcmbpajfofaaProgRef3
import Derived.Test.YtkglcmbpajfofaaProgRef5
import Derived.BigQuiet
namespace Go.Proofs.Ytkglcmbpajfofaa
open Go.RowKit

set_option maxRecDepth 100000 in
set_option maxHeartbeats 3200000 in
theorem prog_sameNodes (B : Nat) (f f2 : Fn) (w : World) (hf : f.Ok w B) (hf2 : f2.Ok w B) (hB : B ≤ w.heap.size) (r : Bool) (hr : r = true ↔ f.nodes = f2.nodes) :
    Calls Try.prog 28 #[fnV f, fnV f2] w fun e w' => e = .returned (.bool r) ∧ Below w.heap.size w w' := by
  have HOk := kp hf; have HOk2 := kp hf2; have HR := kp hr
  have hfc := hf.lc; have hfm := hf.cm; have hfc2 := hf2.lc; have hfm2 := hf2.cm
  have hfl := hf.nodes.1.len; have hfl2 := hf2.nodes.1.len
  have HFl := kp hfl; have HFl2 := kp hfl2
  unfold maxLen at hfm hfm2
  have hfm9 : f.cap ≤ 9223372036854775807 := by omega
  have hfm92 : f2.cap ≤ 9223372036854775807 := by omega
  clear hfm hfm2 hf hf2 hr hfl hfl2
  rw [show fnV f = .slice f.A f.len f.cap from rfl, show fnV f2 = .slice f2.A f2.len f2.cap from rfl]
  by_cases hll : f.len = f2.len
  · have z5 : ((f.len : Int) != (f2.len : Int)) = false := by simp; omega
    have HLL := kp hll
    clear hll
    go_enter Try.func28, Try.ntmps28
    go_wp2
    go_loopw [14] (fun v14 wr => ∃ j : Nat, j ≤ f.len ∧ v14 = .int .i64 j ∧ f.nodes.take j = f2.nodes.take j ∧ Below w.heap.size w wr) (fun v14 _ => f.len - (intOf v14).toNat)
    case atStart => exact ⟨0, by omega, rfl, rfl, Below.refl _ _⟩
    case round =>
      obtain ⟨j, hj, rfl, hpre, hbl⟩ := hrel
      have HPre := kp hpre; have HBL := kp hbl
      have hszr := hbl.size
      by_cases hlt : j < f.len
      · obtain ⟨bd, x, e3, hbb, hy, hxok, hn0, hn1, hn2, hn3⟩ := (HOk.out.keep fun _ hp => (hbl.mono hB).cell hp).nodes.get hlt
        obtain ⟨bd2, x2, e4, hbb2, hy2, hxok2, hm0, hm1, hm2, hm3⟩ := (HOk2.out.keep fun _ hp => (hbl.mono hB).cell hp).nodes.get (k := j) (by rw [← HLL.out]; exact hlt)
        rw [e3, e4]
        have HE3 := kp e3; have HE4 := kp e4
        have hj2 : j < f2.len := by rw [← HLL.out]; exact hlt
        have hbw : bd2.block < wr.heap.size := by omega
        have HX := kp hy; have HX2 := kp hy2
        have HM := kp (And.intro hm0 (And.intro hm1 (And.intro hm2 hm3)))
        clear hpre hbl e3 e4 hxok hxok2 hy hy2 hm0 hm1 hm2 hm3
        go_wp2_with (first
          | ((with_reducible show wpList _ _ _ (⟨some 6, _, _, _, _, _⟩ :: _) _ _); go_must (refine wpList_alloc_zero rfl 26 rfl (ndC ⟨0, 0, 0, 0⟩) nd_zero ?_); intro g5 w6 hg5 hk6 hw6; have HG5 := kp hg5; have HK6 := kp hk6; have HW6 := kp hw6; clear hg5 hk6 hw6)
          | ((with_reducible show wpList _ _ _ (⟨none, _, _, _, _, _⟩ :: _) _ _); go_must (refine wpList_store_blk rfl 26 (.tmp 6) (.tmp 18) rfl g5 (ndC x) rfl rfl _ _ HK6.out nd_size rfl (nd_ones x) ?_); intro w7 hk7 hg7 hs7
             obtain ⟨hx0, hx1, hx2, hx3⟩ := nd_cells hk7
             have HBq7 := kp (HW6.out.grown hg7 HW6.out.size (fun k hk => by cases hk; exact HG5.out))
             have HB7 := kp (HBL.out.trans (HBq7.out.mono hszr))
             clear hk7 hg7 hs7 hn0 hn1 hn2 hn3))
        have hm0 := (HBq7.out.cell (p := bd2.add (j * 4)) (by rw [add_block]; exact hbw)).trans HM.out.1
        have hm1 := (HBq7.out.cell (p := ⟨(bd2.add (j * 4)).block, (bd2.add (j * 4)).off + 1, none⟩) (by show (bd2.add (j * 4)).block < _; rw [add_block]; exact hbw)).trans HM.out.2.1
        have hm2 := (HBq7.out.cell (p := ⟨(bd2.add (j * 4)).block, (bd2.add (j * 4)).off + 2, none⟩) (by show (bd2.add (j * 4)).block < _; rw [add_block]; exact hbw)).trans HM.out.2.2.1
        have hm3 := (HBq7.out.cell (p := ⟨(bd2.add (j * 4)).block, (bd2.add (j * 4)).off + 3, none⟩) (by show (bd2.add (j * 4)).block < _; rw [add_block]; exact hbw)).trans HM.out.2.2.2
        have hcases : x = x2 ∨ ¬ x.kind = x2.kind ∨ (x.kind = x2.kind ∧ ¬ x.arg = x2.arg) ∨ (x.kind = x2.kind ∧ x.arg = x2.arg ∧ ¬ x.next = x2.next) ∨ (x.kind = x2.kind ∧ x.arg = x2.arg ∧ x.next = x2.next ∧ ¬ x.alt = x2.alt) := by
          rw [Nd.ext_iff']
          by_cases a1 : x.kind = x2.kind <;> by_cases a2 : x.arg = x2.arg <;> by_cases a3 : x.next = x2.next <;> by_cases a4 : x.alt = x2.alt <;> simp [a1, a2, a3, a4]
        rcases hcases with hxx | h1 | ⟨h1, h2⟩ | ⟨h1, h2, h3⟩ | ⟨h1, h2, h3, h4⟩
        · subst hxx
          have HN2 : Kept (f.nodes.take (j + 1) = f2.nodes.take (j + 1)) := kp <| by rw [List.take_add_one, List.take_add_one, HPre.out, HX.out, HX2.out]
          go_quiet (fail)
          go_wp2
          go_roundw
          case rel => exact ⟨j + 1, by omega, by go_num, HN2.out, below_drewN HB7.out _⟩
          case measure => simp [intOf]; omega
        · have HE := kp (Q.false_of HR.out (Q.nodes_ne HX.out HX2.out fun e => h1 (by rw [e])))
          go_quiet (fail)
          go_wp2
          go_ret
          exact ⟨ret_bool HE.out, below_drewN HB7.out _⟩
        · have HE := kp (Q.false_of HR.out (Q.nodes_ne HX.out HX2.out fun e => h2 (by rw [e])))
          go_quiet (fail)
          go_wp2
          go_ret
          exact ⟨ret_bool HE.out, below_drewN HB7.out _⟩
        · have HE := kp (Q.false_of HR.out (Q.nodes_ne HX.out HX2.out fun e => h3 (by rw [e])))
          go_quiet (fail)
          go_wp2
          go_ret
          exact ⟨ret_bool HE.out, below_drewN HB7.out _⟩
        · have HE := kp (Q.false_of HR.out (Q.nodes_ne HX.out HX2.out fun e => h4 (by rw [e])))
          go_quiet (fail)
          go_wp2
          go_ret
          exact ⟨ret_bool HE.out, below_drewN HB7.out _⟩
      · have HE : Kept (true = r) := kp <| Q.true_of HR.out (by
          rw [List.take_of_length_le (by rw [HFl.out]; omega), List.take_of_length_le (by rw [HFl2.out, ← HLL.out]; omega)] at hpre
          exact hpre)
        have hge : f.len ≤ j := by omega
        clear hlt hpre hbl
        go_wp2
        go_ret
        exact ⟨ret_bool HE.out, HBL.out⟩
  · have z5 : ((f.len : Int) != (f2.len : Int)) = true := by rw [bne_iff_ne]; omega
    have HE := kp (Q.false_of HR.out fun e => hll (by rw [← HFl.out, ← HFl2.out, e]))
    clear hll
    go_enter Try.func28, Try.ntmps28
    go_wp2
    go_ret
    exact ⟨ret_bool HE.out, Below.refl _ _⟩

set_option maxRecDepth 100000 in
set_option maxHeartbeats 3200000 in
theorem prog_same (B : Nat) (p q : Pg) (w : World) (hp : p.Ok w B) (hq : q.Ok w B) (hB : B ≤ w.heap.size) (_hs : Q.small p = true) (_hs2 : Q.small q = true) (r : Bool) (hr : r = true ↔ Q.Same p q) :
    Calls Try.prog 18 #[pgA p, pgA q] w fun e w' => e = .returned (.bool r) ∧ Below w.heap.size w w' := by
  have HP := kp hp; have HQ := kp hq; have HR := kp hr
  have hlen := hp.row.len; have hlen2 := hq.row.len
  have HLen := kp hlen; have HLen2 := kp hlen2
  have hlc := hp.lc; have hcm := hp.cm; have hlc2 := hq.lc; have hcm2 := hq.cm
  unfold maxLen at hcm hcm2
  have hcm9 : p.cap ≤ 9223372036854775807 := by omega
  have hcm92 : q.cap ≤ 9223372036854775807 := by omega
  clear hp hq hlen hlen2 hcm hcm2 hr
  rw [pgA_is, pgA_is]
  by_cases hg : p.g = q.g ∧ p.l = q.l ∧ p.s = q.s ∧ p.len = q.len
  · obtain ⟨h1, h2, h3, h4⟩ := hg
    have z1 : (p.g != q.g) = false := by simpa using h1
    have z2 : (p.l != q.l) = false := by simpa using h2
    have z3 : (p.s != q.s) = false := by simpa using h3
    have z4 : ((p.len : Int) != (q.len : Int)) = false := by simp; omega
    have HEq := kp (show p.g = q.g ∧ p.l = q.l ∧ p.s = q.s from ⟨h1, h2, h3⟩)
    have HLL := kp h4
    clear h1 h2 h3 h4
    go_enter Try.func18, Try.ntmps18
    go_wp2_with (first
      | ((with_reducible refine wpList_box_agg rfl 24 (.tmp 0) rfl (pgC p) rfl ?_); intro g1 w1 hg1 hk1 hw1; have HK1 := kp hk1; have HW1 := kp hw1; have hs1 := hw1.size; clear hg1 hk1 hw1)
      | ((with_reducible refine wpList_box_agg rfl 24 (.tmp 1) rfl (pgC q) rfl ?_); intro g2 w2 hg2 hk2 hw2; have HKp := kp (HK1.out.below hw2 HK1.out.lt); have HKq := kp hk2; obtain ⟨hc0, hc1, hc2, hc3⟩ := pg_cells HKp.out; obtain ⟨hd0, hd1, hd2, hd3⟩ := pg_cells hk2; have HW2 := kp (HW1.out.trans (hw2.mono hs1)); have hs2 := HW2.out.size; clear hg2 hk2 hw2))
    have HP2 := kp (HP.out.below (HW2.out.mono hB))
    have HQ2 := kp (HQ.out.below (HW2.out.mono hB))
    have hB2 : B ≤ w2.heap.size := by omega
    clear hc0 hc1 hc2 hc3 hd0 hd1 hd2 hd3
    go_loopw [38] (fun v38 wr => ∃ i : Nat, i ≤ p.len ∧ v38 = .int .i64 i ∧ (p.fns.take i).map (·.nodes) = (q.fns.take i).map (·.nodes) ∧ Below w2.heap.size w2 wr) (fun v38 _ => p.len - (intOf v38).toNat)
    case atStart => exact ⟨0, by omega, rfl, rfl, Below.refl _ _⟩
    case round =>
      obtain ⟨i, hi, rfl, hpre, hbl⟩ := hrel
      have HPre := kp hpre; have HBL := kp hbl
      have hszr := hbl.size
      have HPr := kp (HP2.out.below (hbl.mono hB2))
      have HQr := kp (HQ2.out.below (hbl.mono hB2))
      obtain ⟨hd0, hd1, hd2, hd3⟩ := pg_cells (HKq.out.below hbl HKq.out.lt)
      clear hpre hbl
      by_cases hlt : i < p.len
      · obtain ⟨ad, f, e1, hab, hx, hok, hcf⟩ := HPr.out.fn hlt
        obtain ⟨ad2, f2, e2, hab2, hx2, hok2, hcf2⟩ := HQr.out.fn (k := i) (by rw [← HLL.out]; exact hlt)
        rw [e1]
        rw [e2] at hd3
        have HE1 := kp e1; have HE2 := kp e2
        have HOk := kp hok; have HOk2 := kp hok2; have HX := kp hx; have HX2 := kp hx2
        have hi2 : i < q.len := by rw [← HLL.out]; exact hlt
        obtain ⟨m, hm⟩ : ∃ m : Bool, m = true ↔ f.nodes = f2.nodes := by
          by_cases e : f.nodes = f2.nodes
          · exact ⟨true, by simp [e]⟩
          · exact ⟨false, by simp [e]⟩
        have HM := kp hm
        clear e1 e2 hok hok2 hx hx2 hm
        cases m
        · have HE := kp (Q.false_of HR.out (Q.not_same HX.out HX2.out fun e => by have := HM.out.2 e; cases this))
          go_wp2_with (go_at_call 28; go_must (refine (prog_sameNodes B f f2 wr HOk.out HOk2.out (by omega) _ HM.out).mono ?_); rintro e9 w9 ⟨rfl, hw9⟩; have HW9 := kp (HBL.out.trans (hw9.mono hszr)); clear hw9)
          go_ret
          exact ⟨ret_bool HE.out, HW2.out.trans (HW9.out.mono hs2)⟩
        · have HN : Kept ((p.fns.take (i + 1)).map (·.nodes) = (q.fns.take (i + 1)).map (·.nodes)) := kp <| by
            rw [List.take_add_one, List.take_add_one, HX.out, HX2.out, List.map_append, List.map_append, HPre.out]
            simp [HM.out.1 rfl]
          go_wp2_with (go_at_call 28; go_must (refine (prog_sameNodes B f f2 wr HOk.out HOk2.out (by omega) _ HM.out).mono ?_); rintro e9 w9 ⟨rfl, hw9⟩; have HW9 := kp (HBL.out.trans (hw9.mono hszr)); clear hw9)
          go_roundw
          case rel => exact ⟨i + 1, by omega, by go_num, HN.out, HW9.out⟩
          case measure => simp [intOf]; omega
      · have HE : Kept (true = r) := kp <| Q.true_of HR.out ⟨HEq.out.1, HEq.out.2.1, HEq.out.2.2, by
          have h1 := HPre.out
          rw [List.take_of_length_le (by rw [HLen.out]; omega), List.take_of_length_le (by rw [HLen2.out, ← HLL.out]; omega)] at h1
          exact h1⟩
        have hge : p.len ≤ i := by omega
        clear hlt
        go_wp2
        go_ret
        exact ⟨ret_bool HE.out, HW2.out.trans (HBL.out.mono hs2)⟩
  · have HE : Kept (false = r) := kp <| Q.false_of HR.out fun hs => hg ⟨hs.1, hs.2.1, hs.2.2.1, by rw [← HLen.out, ← HLen2.out]; exact hs.len⟩
    have hcases : ¬ p.g = q.g ∨ (p.g = q.g ∧ ¬ p.l = q.l) ∨ (p.g = q.g ∧ p.l = q.l ∧ ¬ p.s = q.s) ∨ (p.g = q.g ∧ p.l = q.l ∧ p.s = q.s ∧ ¬ p.len = q.len) := by
      by_cases a1 : p.g = q.g <;> by_cases a2 : p.l = q.l <;> by_cases a3 : p.s = q.s <;> simp_all
    clear hg
    rcases hcases with h1 | ⟨h1, h2⟩ | ⟨h1, h2, h3⟩ | ⟨h1, h2, h3, h4⟩
    · have z1 : (p.g != q.g) = true := by simpa using h1
      clear h1
      go_enter Try.func18, Try.ntmps18
      go_wp2_with (first
        | ((with_reducible refine wpList_box_agg rfl 24 (.tmp 0) rfl (pgC p) rfl ?_); intro g1 w1 hg1 hk1 hw1; have HK1 := kp hk1; have HW1 := kp hw1; have hs1 := hw1.size; clear hg1 hk1 hw1)
        | ((with_reducible refine wpList_box_agg rfl 24 (.tmp 1) rfl (pgC q) rfl ?_); intro g2 w2 hg2 hk2 hw2; obtain ⟨hc0, hc1, hc2, hc3⟩ := pg_cells (HK1.out.below hw2 HK1.out.lt); obtain ⟨hd0, hd1, hd2, hd3⟩ := pg_cells hk2; have HW2 := kp (HW1.out.trans (hw2.mono hs1)); clear hg2 hk2 hw2))
      go_ret
      exact ⟨ret_bool HE.out, HW2.out⟩
    · have z1 : (p.g != q.g) = false := by simpa using h1
      have z2 : (p.l != q.l) = true := by simpa using h2
      clear h1 h2
      go_enter Try.func18, Try.ntmps18
      go_wp2_with (first
        | ((with_reducible refine wpList_box_agg rfl 24 (.tmp 0) rfl (pgC p) rfl ?_); intro g1 w1 hg1 hk1 hw1; have HK1 := kp hk1; have HW1 := kp hw1; have hs1 := hw1.size; clear hg1 hk1 hw1)
        | ((with_reducible refine wpList_box_agg rfl 24 (.tmp 1) rfl (pgC q) rfl ?_); intro g2 w2 hg2 hk2 hw2; obtain ⟨hc0, hc1, hc2, hc3⟩ := pg_cells (HK1.out.below hw2 HK1.out.lt); obtain ⟨hd0, hd1, hd2, hd3⟩ := pg_cells hk2; have HW2 := kp (HW1.out.trans (hw2.mono hs1)); clear hg2 hk2 hw2))
      go_ret
      exact ⟨ret_bool HE.out, HW2.out⟩
    · have z1 : (p.g != q.g) = false := by simpa using h1
      have z2 : (p.l != q.l) = false := by simpa using h2
      have z3 : (p.s != q.s) = true := by simpa using h3
      clear h1 h2 h3
      go_enter Try.func18, Try.ntmps18
      go_wp2_with (first
        | ((with_reducible refine wpList_box_agg rfl 24 (.tmp 0) rfl (pgC p) rfl ?_); intro g1 w1 hg1 hk1 hw1; have HK1 := kp hk1; have HW1 := kp hw1; have hs1 := hw1.size; clear hg1 hk1 hw1)
        | ((with_reducible refine wpList_box_agg rfl 24 (.tmp 1) rfl (pgC q) rfl ?_); intro g2 w2 hg2 hk2 hw2; obtain ⟨hc0, hc1, hc2, hc3⟩ := pg_cells (HK1.out.below hw2 HK1.out.lt); obtain ⟨hd0, hd1, hd2, hd3⟩ := pg_cells hk2; have HW2 := kp (HW1.out.trans (hw2.mono hs1)); clear hg2 hk2 hw2))
      go_ret
      exact ⟨ret_bool HE.out, HW2.out⟩
    · have z1 : (p.g != q.g) = false := by simpa using h1
      have z2 : (p.l != q.l) = false := by simpa using h2
      have z3 : (p.s != q.s) = false := by simpa using h3
      have z4 : ((p.len : Int) != (q.len : Int)) = true := by rw [bne_iff_ne]; omega
      clear h1 h2 h3 h4
      go_enter Try.func18, Try.ntmps18
      go_wp2_with (first
        | ((with_reducible refine wpList_box_agg rfl 24 (.tmp 0) rfl (pgC p) rfl ?_); intro g1 w1 hg1 hk1 hw1; have HK1 := kp hk1; have HW1 := kp hw1; have hs1 := hw1.size; clear hg1 hk1 hw1)
        | ((with_reducible refine wpList_box_agg rfl 24 (.tmp 1) rfl (pgC q) rfl ?_); intro g2 w2 hg2 hk2 hw2; obtain ⟨hc0, hc1, hc2, hc3⟩ := pg_cells (HK1.out.below hw2 HK1.out.lt); obtain ⟨hd0, hd1, hd2, hd3⟩ := pg_cells hk2; have HW2 := kp (HW1.out.trans (hw2.mono hs1)); clear hg2 hk2 hw2))
      go_ret
      exact ⟨ret_bool HE.out, HW2.out⟩
end Go.Proofs.Ytkglcmbpajfofaa
