/- The document's own comparing of programs, walked: Same. -/
import Derived.Test.YtiojobajcnifpaaDoorProgRef1
import Derived.Laws.StructEq
namespace Go.Proofs.YtiojobajcnifpaaDoor
open Go.RowKit

theorem Nd.ext_iff' (x y : Nd) : x = y ↔ x.kind = y.kind ∧ x.arg = y.arg ∧ x.next = y.next ∧ x.alt = y.alt := by
  constructor
  · rintro rfl; exact ⟨rfl, rfl, rfl, rfl⟩
  · obtain ⟨a, b, c, d⟩ := x
    obtain ⟨a', b', c', d'⟩ := y
    rintro ⟨h1, h2, h3, h4⟩
    simp only at h1 h2 h3 h4
    subst h1; subst h2; subst h3; subst h4; rfl

set_option maxRecDepth 100000 in
set_option maxHeartbeats 1600000 in
theorem ref_same (B : Nat) (p q : Pg) (w : World) (hp : p.Ok w B) (hq : q.Ok w B) (hB : B ≤ w.heap.size) (r : Bool) (hr : r = true ↔ Q.Same p q) :
    Calls Tryd.prog 11 #[pgA p, pgA q] w fun e w' => e = .returned (.bool r) ∧ Below w.heap.size w w' := by
  have HP := kp hp; have HQ := kp hq; have HR := kp hr
  have hlen := hp.row.len; have hlen2 := hq.row.len
  have HLen := kp hlen; have HLen2 := kp hlen2
  have hlc := hp.lc; have hcm := hp.cm; have hlc2 := hq.lc; have hcm2 := hq.cm
  unfold maxLen at hcm hcm2
  have hcm9 : p.cap ≤ 9223372036854775807 := by omega
  have hcm92 : q.cap ≤ 9223372036854775807 := by omega
  clear hp hq hlen hlen2 hcm hcm2 hr
  rw [pgA_is, pgA_is]
  by_cases hg : p.g = q.g ∧ p.l = q.l ∧ p.s = q.s ∧ p.len = q.len
  · obtain ⟨h1, h2, h3, h4⟩ := hg
    have z1 : (p.g != q.g) = false := by simpa using h1
    have z2 : (p.l != q.l) = false := by simpa using h2
    have z3 : (p.s != q.s) = false := by simpa using h3
    have z4 : ((p.len : Int) != (q.len : Int)) = false := by simp; omega
    have HEq := kp (show p.g = q.g ∧ p.l = q.l ∧ p.s = q.s from ⟨h1, h2, h3⟩)
    clear h1 h2 h3
    go_enter Tryd.func11, Tryd.ntmps11
    go_wp2_with (first
      | ((with_reducible refine wpList_box_agg rfl 25 (.tmp 0) rfl (pgC p) rfl ?_); intro g1 w1 hg1 hk1 hw1; have HK1 := kp hk1; have HW1 := kp hw1; have hs1 := hw1.size; clear hg1 hk1 hw1)
      | ((with_reducible refine wpList_box_agg rfl 25 (.tmp 1) rfl (pgC q) rfl ?_); intro g2 w2 hg2 hk2 hw2; obtain ⟨hc0, hc1, hc2, hc3⟩ := pg_cells (HK1.out.below hw2 HK1.out.lt); obtain ⟨hd0, hd1, hd2, hd3⟩ := pg_cells hk2; have HW2 := kp (HW1.out.trans (hw2.mono hs1)); have hs2 := HW2.out.size; clear hg2 hk2 hw2))
    have HP2 := kp (HP.out.below (HW2.out.mono hB))
    have HQ2 := kp (HQ.out.below (HW2.out.mono hB))
    go_loopw [5] (fun v5 wr => ∃ i d : Nat, i ≤ p.len ∧ v5 = .int .i64 i ∧ wr = w2.drewN d ∧ (p.fns.take i).map (·.nodes) = (q.fns.take i).map (·.nodes)) (fun v5 _ => p.len - (intOf v5).toNat)
    case atStart => exact ⟨0, 0, by omega, rfl, rfl, rfl⟩
    case round =>
      obtain ⟨i, d, hi, rfl, rfl, hpre⟩ := hrel
      have HPre := kp hpre
      clear hpre
      by_cases hlt : i < p.len
      · obtain ⟨ad, f, e1, hab, hx, hok, hcf⟩ := HP2.out.fn hlt
        obtain ⟨ad2, f2, e2, hab2, hx2, hok2, hcf2⟩ := HQ2.out.fn (k := i) (by omega)
        rw [e1] at hc3 ⊢
        rw [e2] at hd3 ⊢
        have hfc := hok.lc; have hfm := hok.cm; have hfc2 := hok2.lc; have hfm2 := hok2.cm
        unfold maxLen at hfm hfm2
        have hfm9 : f.cap ≤ 9223372036854775807 := by omega
        have hfm92 : f2.cap ≤ 9223372036854775807 := by omega
        have HOk := kp hok; have HOk2 := kp hok2; have HX := kp hx; have HX2 := kp hx2
        clear hfm hfm2 hok hok2 hx hx2
        by_cases hfl : f.len = f2.len
        · have z5 : ((f.len : Int) != (f2.len : Int)) = false := by simp; omega
          have hi2 : i < q.len := by omega
          go_wp2
          go_quiet (fail)
          go_wp2
          go_loopw [6] (fun v6 wr => ∃ j e : Nat, j ≤ f.len ∧ v6 = .int .i64 j ∧ wr = w2.drewN e ∧ f.nodes.take j = f2.nodes.take j) (fun v6 _ => f.len - (intOf v6).toNat)
          case atStart => exact ⟨0, _, by omega, rfl, by rw [World.drewN_drewN], rfl⟩
          case round =>
            obtain ⟨j, e, hj, rfl, rfl, hpre2⟩ := hrel
            have HPre2 := kp hpre2
            clear hpre2
            by_cases hlt2 : j < f.len
            · obtain ⟨bd, x, e3, hbb, hy, hxok, hn0, hn1, hn2, hn3⟩ := HOk.out.nodes.get hlt2
              obtain ⟨bd2, x2, e4, hbb2, hy2, hxok2, hm0, hm1, hm2, hm3⟩ := HOk2.out.nodes.get (k := j) (by omega)
              rw [e3] at hcf
              rw [e4] at hcf2
              have hj2 : j < f2.len := by omega
              have hcases : x = x2 ∨ ¬ x.kind = x2.kind ∨ (x.kind = x2.kind ∧ ¬ x.arg = x2.arg) ∨ (x.kind = x2.kind ∧ x.arg = x2.arg ∧ ¬ x.next = x2.next) ∨ (x.kind = x2.kind ∧ x.arg = x2.arg ∧ x.next = x2.next ∧ ¬ x.alt = x2.alt) := by
                rw [Nd.ext_iff']
                by_cases a1 : x.kind = x2.kind <;> by_cases a2 : x.arg = x2.arg <;> by_cases a3 : x.next = x2.next <;> by_cases a4 : x.alt = x2.alt <;> simp [a1, a2, a3, a4]
              rcases hcases with hxx | h1 | ⟨h1, h2⟩ | ⟨h1, h2, h3⟩ | ⟨h1, h2, h3, h4⟩
              · subst hxx
                have HN2 : Kept (f.nodes.take (j + 1) = f2.nodes.take (j + 1)) := kp <| by rw [List.take_add_one, List.take_add_one, HPre2.out, hy, hy2]
                clear hy hy2 hxok hxok2
                go_wp2
                go_quiet (fail)
                go_wp2
                go_roundw
                case rel => exact ⟨j + 1, _, by omega, by go_num, rfl, HN2.out⟩
                case measure => simp [intOf]; omega
              · have HE := kp (Q.false_of HR.out (Q.not_same HX.out HX2.out (Q.nodes_ne hy hy2 fun e => h1 (by rw [e]))))
                clear hy hy2 hxok hxok2
                go_wp2
                go_quiet (fail)
                go_wp2
                go_ret
                exact ⟨ret_bool HE.out, below_drewN (below_drewN HW2.out _) _⟩
              · have HE := kp (Q.false_of HR.out (Q.not_same HX.out HX2.out (Q.nodes_ne hy hy2 fun e => h2 (by rw [e]))))
                clear hy hy2 hxok hxok2
                go_wp2
                go_quiet (fail)
                go_wp2
                go_ret
                exact ⟨ret_bool HE.out, below_drewN (below_drewN HW2.out _) _⟩
              · have HE := kp (Q.false_of HR.out (Q.not_same HX.out HX2.out (Q.nodes_ne hy hy2 fun e => h3 (by rw [e]))))
                clear hy hy2 hxok hxok2
                go_wp2
                go_quiet (fail)
                go_wp2
                go_ret
                exact ⟨ret_bool HE.out, below_drewN (below_drewN HW2.out _) _⟩
              · have HE := kp (Q.false_of HR.out (Q.not_same HX.out HX2.out (Q.nodes_ne hy hy2 fun e => h4 (by rw [e]))))
                clear hy hy2 hxok hxok2
                go_wp2
                go_quiet (fail)
                go_wp2
                go_ret
                exact ⟨ret_bool HE.out, below_drewN (below_drewN HW2.out _) _⟩
            · have hnn : f.nodes = f2.nodes := by
                have h1 := HPre2.out
                rw [List.take_of_length_le (by rw [HOk.out.nodes.1.len]; omega), List.take_of_length_le (by rw [HOk2.out.nodes.1.len]; omega)] at h1
                exact h1
              have HN : Kept ((p.fns.take (i + 1)).map (·.nodes) = (q.fns.take (i + 1)).map (·.nodes)) := kp <| by
                rw [List.take_add_one, List.take_add_one, HX.out, HX2.out, List.map_append, List.map_append, HPre.out]
                simp [hnn]
              have hge : f.len ≤ j := by omega
              clear hnn hlt2
              go_wp2
              go_roundw
              case rel => exact ⟨i + 1, e, by omega, by go_num, rfl, HN.out⟩
              case measure => simp [intOf]; omega
        · have z5 : ((f.len : Int) != (f2.len : Int)) = true := by rw [bne_iff_ne]; omega
          have HE := kp (Q.false_of HR.out (Q.not_same HX.out HX2.out fun e => hfl (by rw [← HOk.out.nodes.1.len, ← HOk2.out.nodes.1.len, e])))
          have hi2 : i < q.len := by omega
          clear hfl
          go_wp2
          go_quiet (fail)
          go_wp2
          go_ret
          exact ⟨ret_bool HE.out, below_drewN (below_drewN HW2.out _) _⟩
      · have HE : Kept (true = r) := kp <| Q.true_of HR.out ⟨HEq.out.1, HEq.out.2.1, HEq.out.2.2, by
          have h1 := HPre.out
          rw [List.take_of_length_le (by rw [HLen.out]; omega), List.take_of_length_le (by rw [HLen2.out]; omega)] at h1
          exact h1⟩
        have hge : p.len ≤ i := by omega
        clear hlt
        go_wp2
        go_ret
        exact ⟨ret_bool HE.out, below_drewN HW2.out _⟩
  · have HE : Kept (false = r) := kp <| Q.false_of HR.out fun hs => hg ⟨hs.1, hs.2.1, hs.2.2.1, by rw [← HLen.out, ← HLen2.out]; exact hs.len⟩
    have hcases : ¬ p.g = q.g ∨ (p.g = q.g ∧ ¬ p.l = q.l) ∨ (p.g = q.g ∧ p.l = q.l ∧ ¬ p.s = q.s) ∨ (p.g = q.g ∧ p.l = q.l ∧ p.s = q.s ∧ ¬ p.len = q.len) := by
      by_cases a1 : p.g = q.g <;> by_cases a2 : p.l = q.l <;> by_cases a3 : p.s = q.s <;> simp_all
    clear hg
    rcases hcases with h1 | ⟨h1, h2⟩ | ⟨h1, h2, h3⟩ | ⟨h1, h2, h3, h4⟩
    · have z1 : (p.g != q.g) = true := by simpa using h1
      clear h1
      go_enter Tryd.func11, Tryd.ntmps11
      go_wp2_with (first
        | ((with_reducible refine wpList_box_agg rfl 25 (.tmp 0) rfl (pgC p) rfl ?_); intro g1 w1 hg1 hk1 hw1; have HK1 := kp hk1; have HW1 := kp hw1; have hs1 := hw1.size; clear hg1 hk1 hw1)
        | ((with_reducible refine wpList_box_agg rfl 25 (.tmp 1) rfl (pgC q) rfl ?_); intro g2 w2 hg2 hk2 hw2; obtain ⟨hc0, hc1, hc2, hc3⟩ := pg_cells (HK1.out.below hw2 HK1.out.lt); obtain ⟨hd0, hd1, hd2, hd3⟩ := pg_cells hk2; have HW2 := kp (HW1.out.trans (hw2.mono hs1)); clear hg2 hk2 hw2))
      go_ret
      exact ⟨ret_bool HE.out, HW2.out⟩
    · have z1 : (p.g != q.g) = false := by simpa using h1
      have z2 : (p.l != q.l) = true := by simpa using h2
      clear h1 h2
      go_enter Tryd.func11, Tryd.ntmps11
      go_wp2_with (first
        | ((with_reducible refine wpList_box_agg rfl 25 (.tmp 0) rfl (pgC p) rfl ?_); intro g1 w1 hg1 hk1 hw1; have HK1 := kp hk1; have HW1 := kp hw1; have hs1 := hw1.size; clear hg1 hk1 hw1)
        | ((with_reducible refine wpList_box_agg rfl 25 (.tmp 1) rfl (pgC q) rfl ?_); intro g2 w2 hg2 hk2 hw2; obtain ⟨hc0, hc1, hc2, hc3⟩ := pg_cells (HK1.out.below hw2 HK1.out.lt); obtain ⟨hd0, hd1, hd2, hd3⟩ := pg_cells hk2; have HW2 := kp (HW1.out.trans (hw2.mono hs1)); clear hg2 hk2 hw2))
      go_ret
      exact ⟨ret_bool HE.out, HW2.out⟩
    · have z1 : (p.g != q.g) = false := by simpa using h1
      have z2 : (p.l != q.l) = false := by simpa using h2
      have z3 : (p.s != q.s) = true := by simpa using h3
      clear h1 h2 h3
      go_enter Tryd.func11, Tryd.ntmps11
      go_wp2_with (first
        | ((with_reducible refine wpList_box_agg rfl 25 (.tmp 0) rfl (pgC p) rfl ?_); intro g1 w1 hg1 hk1 hw1; have HK1 := kp hk1; have HW1 := kp hw1; have hs1 := hw1.size; clear hg1 hk1 hw1)
        | ((with_reducible refine wpList_box_agg rfl 25 (.tmp 1) rfl (pgC q) rfl ?_); intro g2 w2 hg2 hk2 hw2; obtain ⟨hc0, hc1, hc2, hc3⟩ := pg_cells (HK1.out.below hw2 HK1.out.lt); obtain ⟨hd0, hd1, hd2, hd3⟩ := pg_cells hk2; have HW2 := kp (HW1.out.trans (hw2.mono hs1)); clear hg2 hk2 hw2))
      go_ret
      exact ⟨ret_bool HE.out, HW2.out⟩
    · have z1 : (p.g != q.g) = false := by simpa using h1
      have z2 : (p.l != q.l) = false := by simpa using h2
      have z3 : (p.s != q.s) = false := by simpa using h3
      have z4 : ((p.len : Int) != (q.len : Int)) = true := by rw [bne_iff_ne]; omega
      clear h1 h2 h3 h4
      go_enter Tryd.func11, Tryd.ntmps11
      go_wp2_with (first
        | ((with_reducible refine wpList_box_agg rfl 25 (.tmp 0) rfl (pgC p) rfl ?_); intro g1 w1 hg1 hk1 hw1; have HK1 := kp hk1; have HW1 := kp hw1; have hs1 := hw1.size; clear hg1 hk1 hw1)
        | ((with_reducible refine wpList_box_agg rfl 25 (.tmp 1) rfl (pgC q) rfl ?_); intro g2 w2 hg2 hk2 hw2; obtain ⟨hc0, hc1, hc2, hc3⟩ := pg_cells (HK1.out.below hw2 HK1.out.lt); obtain ⟨hd0, hd1, hd2, hd3⟩ := pg_cells hk2; have HW2 := kp (HW1.out.trans (hw2.mono hs1)); clear hg2 hk2 hw2))
      go_ret
      exact ⟨ret_bool HE.out, HW2.out⟩
end Go.Proofs.YtiojobajcnifpaaDoor
