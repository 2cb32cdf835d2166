/- ProgRef5, RelMath, Tail, in one text. -/
import Derived.Test.YtkblgafackmckaaPk5
import Derived.Test.YtkblgafackmckaaPk6
import Derived.Test.YtkblgafackmckaaPk4
/- The document's own checking of programs, walked: Check. -/
namespace Go.Proofs.Ytkblgafackmckaa
open Go.RowKit

theorem ret3 {a b c a' b' c' : Int} (h1 : a = a') (h2 : b = b') (h3 : c = c') : Ending.returned (.tuple #[.int .i64 a, .int .i64 b, .int .i64 c]) = Ending.returned (.tuple #[.int .i64 a', .int .i64 b', .int .i64 c']) := by rw [h1, h2, h3]
theorem check_is {p : Pg} {a b a' b' : Int} {c c' : Nat} (h : Q.check p = (a, b, c)) (h' : Q.check p = (a', b', c')) : Ending.returned (.tuple #[.int .i64 a', .int .i64 b', .int .i64 (c' : Int)]) = Ending.returned (.tuple #[.int .i64 a, .int .i64 b, .int .i64 (c : Int)]) := by
  rw [h] at h'
  injection h' with h1 h2
  injection h2 with h2 h3
  rw [h1, h2, h3]

theorem nd_zero : (Try.prog.info? 47).map (·.zero) = some (some (.agg (ndC ⟨0, 0, 0, 0⟩).toArray)) := by kernel_rfl
theorem nd_size : (Try.prog.info? 47).map (·.size) = some 4 := by kernel_rfl
theorem nd_ones (x : Nd) : ∀ u ∈ ndC x, u.oneCell' = true := by
  intro u hu
  simp only [ndC, List.mem_cons, List.not_mem_nil, or_false] at hu
  rcases hu with h | h | h | h <;> subst h <;> rfl
/-- Nodes that may be call functions that there are. -/
theorem may_call {g l s f : Int} {x : Nd} {nodes : Int} (h : Q.may g l s f x nodes = true) (h7 : x.kind = 7) : 0 ≤ x.arg ∧ x.arg < f := by
  unfold Q.may at h
  rw [Bool.and_eq_true] at h
  have h0 := List.all_eq_true.1 h.2 0 (by simp)
  have h1 : Q.row x.kind = [102, 110, 45] := by rw [h7]; rfl
  rw [h1] at h0
  simpa [Q.fields, Q.size] using h0
theorem calls_fit {p : Pg} (h : ∀ j, j < p.fns.length → ¬ Q.badFn p j) : Q.CallsFit p := by
  intro fn hfn nd hnd h7
  obtain ⟨j, hj, e⟩ := List.getElem_of_mem hfn
  have hx : p.fns[j]? = some fn := by rw [List.getElem?_eq_getElem hj, e]
  obtain ⟨_, _, h3⟩ := Q.fine_fn hx (h j hj)
  obtain ⟨i, hi, e2⟩ := List.getElem_of_mem hnd
  have hy : fn.nodes[i]? = some nd := by rw [List.getElem?_eq_getElem hi, e2]
  exact may_call (h3 i nd hy) h7

set_option maxRecDepth 1000000 in
set_option maxHeartbeats 8000000 in
theorem ref_check (B : Nat) (p : Pg) (w : World) (hp : p.Ok w B) (hB : B ≤ w.heap.size) (a b : Int) (c : Nat) (hc : Q.check p = (a, b, c)) :
    Calls Try.prog 12 #[pgA p] w fun e w' => e = .returned (.tuple #[.int .i64 a, .int .i64 b, .int .i64 (c : Int)]) ∧ Below w.heap.size w w' := by
  have HP := kp hp; have HC := kp hc
  have hlen := hp.row.len
  have HLen := kp hlen
  have hlc := hp.lc; have hcm := hp.cm
  obtain ⟨hg1, hg2⟩ := hp.g; obtain ⟨hl1, hl2⟩ := hp.l; obtain ⟨hs1, hs2⟩ := hp.s
  unfold maxLen at hcm
  have hcm9 : p.cap ≤ 9223372036854775807 := by omega
  clear hp hcm hc
  rw [pgA_is]
  by_cases hneg : p.g < 0 ∨ p.l < 0 ∨ p.s < 0 ∨ p.len = 0
  · have HE := kp (check_is (a' := -1) (b' := -1) (c' := 1) HC.out (by unfold Q.check; rw [if_pos (by rw [hlen]; exact hneg)]))
    have hcases : p.g < 0 ∨ (0 ≤ p.g ∧ p.l < 0) ∨ (0 ≤ p.g ∧ 0 ≤ p.l ∧ p.s < 0) ∨ (0 ≤ p.g ∧ 0 ≤ p.l ∧ 0 ≤ p.s ∧ p.len = 0) := by omega
    clear hneg hlen
    rcases hcases with h1 | ⟨h1, h2⟩ | ⟨h1, h2, h3⟩ | ⟨h1, h2, h3, h4⟩
    all_goals go_enter Try.func12, Try.ntmps12
    all_goals go_wp2_with ((with_reducible refine wpList_box_agg rfl 24 (.tmp 0) rfl (pgC p) rfl ?_); intro g1 w1 hg1 hk1 hw1; have HK1 := kp hk1; obtain ⟨hc0, hc1, hc2, hc3⟩ := pg_cells hk1; have HW1 := kp hw1; have hs1' := hw1.size; clear hg1 hk1 hw1)
    all_goals go_ret3
    all_goals exact ⟨HE.out, HW1.out⟩
  · have hlen2 := hlen
    by_cases hbig : 16 < p.g ∨ 16 < p.l ∨ 8 < p.s ∨ 16 < p.len
    · have HE := kp (check_is (a' := -1) (b' := -1) (c' := 4) HC.out (by unfold Q.check; rw [if_neg (by rw [hlen]; exact hneg), if_pos (by rw [hlen]; exact hbig)]))
      have n1 : 0 ≤ p.g := by omega
      have n2 : 0 ≤ p.l := by omega
      have n3 : 0 ≤ p.s := by omega
      have n4 : 0 < p.len := by omega
      have n5 : ((p.len : Int) == 0) = false := by simp; omega
      have hcases : 16 < p.g ∨ (p.g ≤ 16 ∧ 16 < p.l) ∨ (p.g ≤ 16 ∧ p.l ≤ 16 ∧ 8 < p.s) ∨ (p.g ≤ 16 ∧ p.l ≤ 16 ∧ p.s ≤ 8 ∧ 16 < p.len) := by omega
      clear hneg hbig hlen hlen2
      rcases hcases with h1 | ⟨h1, h2⟩ | ⟨h1, h2, h3⟩ | ⟨h1, h2, h3, h4⟩
      all_goals go_enter Try.func12, Try.ntmps12
      all_goals go_wp2_with ((with_reducible refine wpList_box_agg rfl 24 (.tmp 0) rfl (pgC p) rfl ?_); intro g1 w1 hg1 hk1 hw1; have HK1 := kp hk1; obtain ⟨hc0, hc1, hc2, hc3⟩ := pg_cells hk1; have HW1 := kp hw1; have hs1' := hw1.size; clear hg1 hk1 hw1)
      all_goals go_ret3
      all_goals exact ⟨HE.out, HW1.out⟩
    · have HCo : Kept (Q.Counts p) := kp ⟨by omega, by omega, by omega, by rw [hlen]; omega⟩
      have n1 : 0 ≤ p.g := by omega
      have n2 : 0 ≤ p.l := by omega
      have n3 : 0 ≤ p.s := by omega
      have n4 : 0 < p.len := by omega
      have n5 : ((p.len : Int) == 0) = false := by simp; omega
      have m1 : p.g ≤ 16 := by omega
      have m2 : p.l ≤ 16 := by omega
      have m3 : p.s ≤ 8 := by omega
      have m4 : p.len ≤ 16 := by omega
      clear hneg hbig hlen hlen2
      go_enter Try.func12, Try.ntmps12
      go_wp2_with ((with_reducible refine wpList_box_agg rfl 24 (.tmp 0) rfl (pgC p) rfl ?_); intro g1 w1 hg1 hk1 hw1; have HK1 := kp hk1; obtain ⟨hc0, hc1, hc2, hc3⟩ := pg_cells hk1; have HW1 := kp hw1; have hs1' := hw1.size; clear hg1 hk1 hw1)
      have HP1 := kp (HP.out.below (HW1.out.mono hB))
      have hB1 : B ≤ w1.heap.size := by omega
      clear hc0 hc1 hc2 hc3
      go_loopw [6] (fun v6 wr => ∃ f : Nat, f ≤ p.len ∧ v6 = .int .i64 f ∧ (∀ j, j < f → ¬ Q.badFn p j) ∧ Below w1.heap.size w1 wr) (fun v6 _ => p.len - (intOf v6).toNat)
      case atStart => exact ⟨0, by omega, rfl, fun j hj => by omega, Below.refl _ _⟩
      case round =>
        obtain ⟨f, hf, rfl, hpre, hbl⟩ := hrel
        have HPre := kp hpre; have HBL := kp hbl
        have HKr := kp (HK1.out.below hbl HK1.out.lt)
        obtain ⟨hc0, hc1, hc2, hc3⟩ := pg_cells HKr.out
        have HPr := kp (HP1.out.below (hbl.mono hB1))
        have hszr := hbl.size
        clear hpre hbl
        by_cases hlt : f < p.len
        · obtain ⟨ad, fn, e1, hab, hx, hok, hcf⟩ := HPr.out.fn hlt
          rw [e1] at hc3 ⊢
          have HE1 := kp e1
          clear e1
          have hfc := hok.lc; have hfm := hok.cm
          unfold maxLen at hfm
          have hfm9 : fn.cap ≤ 9223372036854775807 := by omega
          have HX := kp hx
          have hfl := hok.nodes.1.len
          have HFl := kp hfl
          clear hx hfm
          by_cases hz0 : fn.len = 0
          · have HE := kp (check_is HC.out (Q.check_fn HCo.out HX.out (by rw [Q.fault_empty p fn (by rw [hfl]; exact hz0)]; decide) HPre.out))
            rw [Q.fault_empty p fn (by rw [hfl]; exact hz0)] at HE
            clear hok hfl
            go_wp2
            go_ret3
            exact ⟨HE.out, HW1.out.trans (HBL.out.mono hs1')⟩
          · have hzb : ((fn.len : Int) == 0) = false := by simp; omega
            by_cases h64 : 64 < fn.len
            · have HE := kp (check_is HC.out (Q.check_fn HCo.out HX.out (by rw [Q.fault_long p fn (by rw [hfl]; exact h64)]; decide) HPre.out))
              rw [Q.fault_long p fn (by rw [hfl]; exact h64)] at HE
              clear hok hfl
              go_wp2
              go_ret3
              exact ⟨HE.out, HW1.out.trans (HBL.out.mono hs1')⟩
            · have h64' : fn.len ≤ 64 := by omega
              have HFl64 : Kept (I64 (fn.len : Int)) := kp ⟨by omega, by omega⟩
              clear h64 hok hfl
              go_wp2
              go_loopw [7] (fun v7 wq => ∃ i : Nat, i ≤ fn.len ∧ v7 = .int .i64 i ∧ (∀ j, j < i → ¬ Q.badNode p fn j) ∧ Below w1.heap.size w1 wq) (fun v7 _ => fn.len - (intOf v7).toNat)
              case atStart => exact ⟨0, by omega, rfl, fun j hj => by omega, HBL.out⟩
              case round =>
                clear HBL HKr hc0 hc1 hc2 hc3 hcf HPr hszr
                obtain ⟨i, hi, rfl, hpre, hbl⟩ := hrel
                have HPreI := kp hpre; have HBL := kp hbl
                have HKr := kp (HK1.out.below hbl HK1.out.lt)
                obtain ⟨hc0, hc1, hc2, hc3⟩ := pg_cells HKr.out
                rw [HE1.out] at hc3
                have HPr := kp (HP1.out.below (hbl.mono hB1))
                have hszr := hbl.size
                clear hpre hbl
                obtain ⟨ad', fn', e1', _, hx', hok, hcf⟩ := HPr.out.fn hlt
                rw [HE1.out] at e1'
                cases e1'
                rw [HX.out] at hx'
                cases hx'
                by_cases hli : i < fn.len
                · obtain ⟨bd, x, e3, hbb, hy, hxok, hn0, hn1, hn2, hn3⟩ := hok.nodes.get hli
                  rw [e3] at hcf
                  have HXOk := kp hxok
                  obtain ⟨m, hm⟩ : ∃ m, Q.may p.g p.l p.s p.len x fn.len = m := ⟨_, rfl⟩
                  have HM := kp hm
                  have HBad : Kept (m = false ↔ Q.badNode p fn i) := kp <| by
                    rw [← hm]
                    unfold Q.badNode
                    rw [HFl.out]
                    constructor
                    · intro h; exact ⟨x, hy, h⟩
                    · rintro ⟨nd, h1, h2⟩
                      rw [hy] at h1
                      cases h1
                      exact h2
                  have HFc0 := kp (And.intro hc3 (And.intro hcf (And.intro hn0 (And.intro hn1 (And.intro hn2 hn3)))))
                  have hab' : ad.block < wr.heap.size := by omega
                  have hbb' : bd.block < wr.heap.size := by omega
                  have HFc : Kept (∀ W : World, Below wr.heap.size wr W → (W.cell? ⟨g1, 3, none⟩ = some (.slice (some ad) p.len p.cap) ∧ W.cell? (ad.add f) = some (.slice (some bd) fn.len fn.cap) ∧ W.cell? (bd.add (i * 4)) = some (.int .i64 x.kind) ∧ W.cell? ⟨(bd.add (i * 4)).block, (bd.add (i * 4)).off + 1, none⟩ = some (.int .i64 x.arg) ∧
                      W.cell? ⟨(bd.add (i * 4)).block, (bd.add (i * 4)).off + 2, none⟩ = some (.int .i64 x.next) ∧ W.cell? ⟨(bd.add (i * 4)).block, (bd.add (i * 4)).off + 3, none⟩ = some (.int .i64 x.alt))) := kp fun W hW =>
                    ⟨(hW.cell HKr.out.lt).trans hc3, (hW.cell (by rw [add_block]; exact hab')).trans hcf, (hW.cell (by rw [add_block]; exact hbb')).trans hn0, (hW.cell (by show (bd.add (i * 4)).block < _; rw [add_block]; exact hbb')).trans hn1,
                      (hW.cell (by show (bd.add (i * 4)).block < _; rw [add_block]; exact hbb')).trans hn2, (hW.cell (by show (bd.add (i * 4)).block < _; rw [add_block]; exact hbb')).trans hn3⟩
                  clear HFc0 hxok hm hn0 hn1 hn2 hn3 hok hy
                  go_wp2
                  apply region_list (.is _ :: .is _ :: .is _ :: .is _ :: .is _ :: .is _ :: .is _ :: .is _ :: .is _ :: .is _ :: .is _ :: .is _ :: .is _ :: .is _ :: .is _ :: .is _ :: .is _ :: [])
                    [[], [], [(1, 81)], [], [(2, 82), (3, 83)], [(4, 84)], [], [(5, 85), (6, 86)], [(7, 87)], [], [(9, 89)], [], [(10, 90), (11, 91)], [(12, 92)], [(13, 93)], [(0, 80), (8, 88), (14, 94)], [(15, 95)]]
                    [(0, 80), (1, 81), (2, 82), (3, 83), (4, 84), (5, 85), (6, 86), (7, 87), (8, 88), (9, 89), (10, 90), (11, 91), (12, 92), (13, 93), (14, 94), (15, 95), (16, 96)] (by kernel_rfl) (by kernel_rfl)
                  case hob =>
                    refine ⟨?o0, ?o1, ?o2, ?o3, ?o4, ?o5, ?o6, ?o7, ?o8, ?o9, ?o10, ?o11, ?o12, ?o13, ?o14, ?o15, ?o16, trivial⟩
                    case o0 =>
                      intro W hW; change wpList _ _ _ _ _ _
                      refine wpList_load_blk rfl 24 (.tmp 1) rfl g1 rfl _ (pgC p) _ (HKr.out.below hW HKr.out.lt) Try.underlying24 rfl pg_size ?_
                      go_wp2; exact pure_post rfl rfl rfl
                    case o1 => intro W hW; change wpList _ _ _ _ _ _; go_wp2; exact pure_post rfl rfl rfl
                    case o2 =>
                      intro W hW; rintro _ rfl; change wpList _ _ _ _ _ _
                      obtain ⟨hq3, hqf, hq0, hq1, hq2, hq4⟩ := HFc.out W hW
                      go_wp2; exact pure_post rfl rfl rfl
                    case o3 => intro W hW; change wpList _ _ _ _ _ _; go_wp2; exact pure_post rfl rfl rfl
                    case o4 => intro W hW; rintro _ rfl; rintro _ rfl; change wpList _ _ _ _ _ _; go_wp2; exact pure_post rfl rfl rfl
                    case o5 =>
                      intro W hW; rintro _ rfl; change wpList _ _ _ _ _ _
                      obtain ⟨hq3, hqf, hq0, hq1, hq2, hq4⟩ := HFc.out W hW
                      go_wp2; exact pure_post rfl rfl rfl
                    case o6 => intro W hW; change wpList _ _ _ _ _ _; go_wp2; exact pure_post rfl rfl rfl
                    case o7 => intro W hW; rintro _ rfl; rintro _ rfl; change wpList _ _ _ _ _ _; go_wp2; exact pure_post rfl rfl rfl
                    case o8 =>
                      intro W hW; rintro _ rfl; change wpList _ _ _ _ _ _
                      obtain ⟨hq3, hqf, hq0, hq1, hq2, hq4⟩ := HFc.out W hW
                      go_wp2; exact pure_post rfl rfl rfl
                    case o9 => intro W hW; change wpList _ _ _ _ _ _; go_wp2; exact pure_post rfl rfl rfl
                    case o10 =>
                      intro W hW; rintro _ rfl; change wpList _ _ _ _ _ _
                      obtain ⟨hq3, hqf, hq0, hq1, hq2, hq4⟩ := HFc.out W hW
                      go_wp2; exact pure_post rfl rfl rfl
                    case o11 => intro W hW; change wpList _ _ _ _ _ _; go_wp2; exact pure_post rfl rfl rfl
                    case o12 => intro W hW; rintro _ rfl; rintro _ rfl; change wpList _ _ _ _ _ _; go_wp2; exact pure_post rfl rfl rfl
                    case o13 =>
                      intro W hW; rintro _ rfl; change wpList _ _ _ _ _ _
                      obtain ⟨hq3, hqf, hq0, hq1, hq2, hq4⟩ := HFc.out W hW
                      go_wp2; exact pure_post rfl rfl rfl
                    case o14 => intro W hW; rintro _ rfl; change wpList _ _ _ _ _ _; go_wp2; exact pure_post rfl rfl rfl
                    case o15 =>
                      intro W hW; rintro _ rfl; rintro _ rfl; rintro _ rfl; change wpList _ _ _ _ _ _
                      go_wp2_with (go_at_call 29; go_must (refine (ref_may p x HXOk.out fn.len HFl64.out m HM.out _).mono ?_); rintro e2 w9 ⟨rfl, hw9⟩)
                      exact made_post rfl rfl rfl hw9 rfl
                    case o16 => intro W hW; rintro _ rfl; change wpList _ _ _ _ _ _; go_wp2; exact pure_post rfl rfl rfl
                  case hend =>
                    intro W hW; rintro _ rfl; rintro _ rfl; rintro _ rfl; rintro _ rfl; rintro _ rfl; rintro _ rfl; rintro _ rfl; rintro _ rfl; rintro _ rfl; rintro _ rfl; rintro _ rfl; rintro _ rfl; rintro _ rfl; rintro _ rfl; rintro _ rfl; rintro _ rfl; rintro _ rfl
                    simp only [given, put_lit, List.set]
                    have HBW := kp (HBL.out.trans (hW.mono hszr))
                    cases m
                    · have hfa := Q.fault_node p fn i (by rw [HFl.out]; omega) (by rw [HFl.out]; exact h64') (HBad.out.1 rfl) (by rw [HFl.out]; exact hli) HPreI.out
                      have HE := kp (check_is HC.out (Q.check_fn HCo.out HX.out (by rw [hfa]; show (3 : Nat) ≠ 0; decide) HPre.out))
                      rw [hfa] at HE
                      clear hfa hc0 hc1 hc2 hc3 hcf
                      go_wp2
                      go_ret3
                      exact ⟨HE.out, HW1.out.trans (HBW.out.mono hs1')⟩
                    · have HNot : Kept (¬ Q.badNode p fn i) := kp fun h => by have := HBad.out.2 h; cases this
                      have HNx : Kept (∀ j, j < i + 1 → ¬ Q.badNode p fn j) := kp fun j hj h => by
                        by_cases e : j = i
                        · subst e; exact HNot.out h
                        · exact HPreI.out j (by omega) h
                      clear hc0 hc1 hc2 hc3 hcf
                      go_wp2
                      go_roundw
                      case rel => exact ⟨i + 1, by omega, by go_num, HNx.out, HBW.out⟩
                      case measure => simp [intOf]; omega
                · have HGood : Kept (¬ Q.badFn p f) := kp fun h => by
                    obtain ⟨fn2, h1, h2⟩ := h
                    rw [HX.out] at h1
                    cases h1
                    exact h2 (by rw [Q.fault_none p fn (by rw [HFl.out]; exact hz0) (by rw [HFl.out]; exact h64') fun j hj => HPreI.out j (by rw [HFl.out] at hj; omega)])
                  have HNx : Kept (∀ j, j < f + 1 → ¬ Q.badFn p j) := kp fun j hj h => by
                    by_cases e : j = f
                    · subst e; exact HGood.out h
                    · exact HPre.out j (by omega) h
                  have hge : fn.len ≤ i := by omega
                  clear hli hok
                  go_wp2
                  go_roundw
                  case rel => exact ⟨f + 1, by omega, by go_num, HNx.out, HBL.out⟩
                  case measure => simp [intOf]; omega
        · have hfe : f = p.len := by omega
          have HFine : Kept (∀ j, j < p.fns.length → ¬ Q.badFn p j) := kp fun j hj => HPre.out j (by rw [HLen.out] at hj; omega)
          have HFit : Kept (Q.CallsFit p) := kp (calls_fit HFine.out)
          have hge : p.len ≤ f := by omega
          have hszw : w.heap.size ≤ wr.heap.size := by have := HW1.out.size; omega
          clear hlt hfe hc0 hc1 hc2 hc3
          go_wp2_with (first
            | ((with_reducible show wpList _ _ _ (⟨some 99, _, _, _, _, _⟩ :: _) _ _); go_must (refine wpList_load_blk rfl 24 (.tmp 1) rfl g1 rfl _ (pgC p) _ HKr.out Try.underlying24 rfl pg_size ?_))
            | (go_at_call 30; go_must (refine (ref_calls B p wr HPr.out (by omega) HFit.out (by omega)).mono ?_); rintro e3 w3 ⟨v, gs, M, rfl, hmat, hsq, hreach, hw3⟩; have HMat := kp hmat; have HSq := kp hsq; have HReach := kp hreach; have HW3 := kp hw3; clear hmat hsq hreach hw3))
          have HPre2 := HFine
          have HMat3 := HMat
          have HBw3 : Kept (Below w1.heap.size w1 w3) := kp (HBL.out.trans (HW3.out.mono hszr))
          have hsz3 := HBw3.out.size
          clear HPre HBL HKr HPr hszr HFit hge hszw
          go_loopw [9] (fun v9 wq => ∃ f : Nat, f ≤ p.len ∧ v9 = .int .i64 f ∧ (∀ j, j < f → ¬ Q.badRound p j) ∧ Below w3.heap.size w3 wq) (fun v9 _ => p.len - (intOf v9).toNat)
          case atStart => exact ⟨0, by omega, rfl, fun j hj => by omega, Below.refl _ _⟩
          case round =>
            obtain ⟨f, hf, rfl, hpre, hbl⟩ := hrel
            have HPre := kp hpre; have HBL := kp hbl
            clear hpre hbl
            by_cases hlt : f < p.len
            · obtain ⟨ad, fn, e1, hab0, hx, hok0, _⟩ := HP1.out.fn hlt
              rw [e1]
              have HE1 := kp e1
              clear e1
              have HX := kp hx
              obtain ⟨hf0, hf64, hmays⟩ := Q.fine_fn hx (HFine.out f (by rw [HLen.out]; exact hlt))
              have hfl := hok0.nodes.1.len
              have hfc := hok0.lc; have hfm := hok0.cm
              unfold maxLen at hfm
              have hfm9 : fn.cap ≤ 9223372036854775807 := by omega
              rw [hfl] at hf64
              have HMays := kp hmays
              have HFl := kp hfl
              clear hx hok0 hfm hf0 hmays hfl
              go_wp2
              go_loopw [10] (fun v10 wq => ∃ i : Nat, i ≤ fn.len ∧ v10 = .int .i64 i ∧ (∀ j, j < i → ¬ Q.roundAt p f j) ∧ Below w3.heap.size w3 wq) (fun v10 _ => fn.len - (intOf v10).toNat)
              case atStart => exact ⟨0, by omega, rfl, fun j hj => by omega, HBL.out⟩
              case round =>
                clear HBL
                obtain ⟨i, hi, rfl, hpre, hbl⟩ := hrel
                have HPreI := kp hpre; have HBL := kp hbl
                have HB1q := kp (HBw3.out.trans (hbl.mono hsz3))
                obtain ⟨hc0, hc1, hc2, hc3⟩ := pg_cells (HK1.out.below HB1q.out HK1.out.lt)
                rw [HE1.out] at hc3
                obtain ⟨ad', fn', e1', hab, hx', hok, hcf⟩ := (HP1.out.below (HB1q.out.mono hB1)).fn hlt
                rw [HE1.out] at e1'
                cases e1'
                rw [HX.out] at hx'
                cases hx'
                clear hpre hbl hc0 hc1 hc2
                by_cases hli : i < fn.len
                · obtain ⟨bd, x, e3, hbb, hy, hxok, hn0, hn1, hn2, hn3⟩ := hok.nodes.get hli
                  rw [e3] at hcf
                  have HY := kp hy
                  clear hok hy hxok
                  by_cases h7 : x.kind = 7
                  · have hz7 : (x.kind == 7) = true := by simpa using h7
                    obtain ⟨ha0, han⟩ := may_call (HMays.out i x HY.out) h7
                    obtain ⟨k, hk⟩ : ∃ k : Nat, x.arg = (k : Int) := ⟨x.arg.toNat, by omega⟩
                    have hkn : k < p.len := by omega
                    obtain ⟨mz, hmz0⟩ : ∃ mz, Q.mget M k f = mz := ⟨_, rfl⟩
                    have HMz := kp hmz0
                    have HRd : Kept (Q.roundAt p f i ↔ (k = f ∨ mz = 1)) := kp <| by
                      unfold Q.roundAt
                      constructor
                      · rintro ⟨fn2, nd, g1', g2', _, k2, g4, g5, g6⟩
                        rw [HX.out] at g1'
                        cases g1'
                        rw [HY.out] at g2'
                        cases g2'
                        have : k2 = k := by omega
                        subst this
                        rcases g6 with g6 | g6
                        · exact .inl g6
                        · rw [HLen.out] at g6
                          exact .inr (by rw [← HMz.out]; exact (HReach.out _ _ hkn hlt).2 g6)
                      · intro h
                        refine ⟨fn, x, HX.out, HY.out, h7, k, hk, by rw [HLen.out]; exact hkn, ?_⟩
                        rcases h with h | h
                        · exact .inl h
                        · right
                          rw [HLen.out]
                          exact (HReach.out _ _ hkn hlt).1 (by rw [HMz.out]; exact h)
                    have HKx := kp hk
                    clear h7 hmz0 ha0 han hk
                    by_cases hkf0 : k = f
                    · have hkf : ((k : Int) == (f : Int)) = true := by simp; omega
                      have HE := kp (check_is HC.out (Q.check_round HCo.out HFine.out (HRd.out.2 (.inl hkf0)) (by omega) (by rw [HLen.out]; exact hlt) HPre.out HPreI.out))
                      clear hkf0
                      go_wp2_with (first
                | ((with_reducible show wpList _ _ _ (⟨some 11, _, _, _, _, _⟩ :: _) _ _); go_must (refine wpList_alloc_zero rfl 47 rfl (ndC ⟨0, 0, 0, 0⟩) nd_zero ?_); intro g5 w6 hg5 hk6 hw6; have HG5 := kp hg5; have HK6 := kp hk6; have HW6 := kp hw6; clear hg5 hk6 hw6)
                | ((with_reducible show wpList _ _ _ (⟨none, _, _, _, _, _⟩ :: _) _ _); go_must (refine wpList_store_blk rfl 47 (.tmp 11) (.tmp 123) rfl g5 (ndC x) rfl rfl _ _ HK6.out nd_size rfl (nd_ones x) ?_); intro w7 hk7 hg7 hs7
                   obtain ⟨hx0, hx1, hx2, hx3⟩ := nd_cells hk7
                   have HBq7 := kp (HW6.out.grown hg7 HW6.out.size (fun k hk => by cases hk; exact HG5.out))
                   have HB37 := kp (HBL.out.trans (HBq7.out.mono HBL.out.size))
                   clear hk7 hg7 hs7 hn0 hn1 hn2 hn3
                   rw [HKx.out] at hx1))
                      go_ret3
                      exact ⟨HE.out, HW1.out.trans ((HBw3.out.trans (HB37.out.mono hsz3)).mono hs1')⟩
                    · have hkf : ((k : Int) == (f : Int)) = false := by simp; omega
                      by_cases hm1 : mz = 1
                      · have HE := kp (check_is HC.out (Q.check_round HCo.out HFine.out (HRd.out.2 (.inr hm1)) (by omega) (by rw [HLen.out]; exact hlt) HPre.out HPreI.out))
                        have hmb : ((mz : Int) == 1) = true := by simp; omega
                        clear hkf0 hm1
                        go_wp2_with (first
                | ((with_reducible show wpList _ _ _ (⟨some 11, _, _, _, _, _⟩ :: _) _ _); go_must (refine wpList_alloc_zero rfl 47 rfl (ndC ⟨0, 0, 0, 0⟩) nd_zero ?_); intro g5 w6 hg5 hk6 hw6; have HG5 := kp hg5; have HK6 := kp hk6; have HW6 := kp hw6; clear hg5 hk6 hw6)
                | ((with_reducible show wpList _ _ _ (⟨none, _, _, _, _, _⟩ :: _) _ _); go_must (refine wpList_store_blk rfl 47 (.tmp 11) (.tmp 123) rfl g5 (ndC x) rfl rfl _ _ HK6.out nd_size rfl (nd_ones x) ?_); intro w7 hk7 hg7 hs7
                   obtain ⟨hx0, hx1, hx2, hx3⟩ := nd_cells hk7
                   have HBq7 := kp (HW6.out.grown hg7 HW6.out.size (fun k hk => by cases hk; exact HG5.out))
                   have HB37 := kp (HBL.out.trans (HBq7.out.mono HBL.out.size))
                   clear hk7 hg7 hs7 hn0 hn1 hn2 hn3
                   rw [HKx.out] at hx1
                   obtain ⟨adm, gk, capm, rk, hvm, _, hgk, hrk, hrl, hck, hkk, _, _, hcp1, hcp2⟩ := (HMat.out.below HB37.out).get (a := k) (by rw [HSq.out.1]; exact hkn)
                   rw [HSq.out.1] at hvm hcp1
                   obtain ⟨z, hz⟩ : ∃ z, rk[f]? = some z := ⟨_, List.getElem?_eq_getElem (by omega)⟩
                   have hcz := hkk.cell f
                   rw [List.getElem?_map, hz, Option.map_some, natV_def] at hcz
                   have hmz : z = mz := by rw [← HMz.out]; unfold Q.mget; rw [getD_at hrk, getD_at hz]
                   rw [hmz] at hcz
                   have hcp9 : capm ≤ 9223372036854775807 := by unfold maxLen at hcp2; omega
                   subst hvm
                   clear hgk hrk hrl hkk hz hmz hcp2))
                        go_ret3
                        exact ⟨HE.out, HW1.out.trans ((HBw3.out.trans (HB37.out.mono hsz3)).mono hs1')⟩
                      · have hmb : ((mz : Int) == 1) = false := by simp; omega
                        have HNx : Kept (∀ j, j < i + 1 → ¬ Q.roundAt p f j) := kp fun j hj h => by
                          by_cases e : j = i
                          · subst e
                            rcases HRd.out.1 h with h | h
                            · exact hkf0 h
                            · exact hm1 h
                          · exact HPreI.out j (by omega) h
                        clear hkf0 hm1
                        go_wp2_with (first
                | ((with_reducible show wpList _ _ _ (⟨some 11, _, _, _, _, _⟩ :: _) _ _); go_must (refine wpList_alloc_zero rfl 47 rfl (ndC ⟨0, 0, 0, 0⟩) nd_zero ?_); intro g5 w6 hg5 hk6 hw6; have HG5 := kp hg5; have HK6 := kp hk6; have HW6 := kp hw6; clear hg5 hk6 hw6)
                | ((with_reducible show wpList _ _ _ (⟨none, _, _, _, _, _⟩ :: _) _ _); go_must (refine wpList_store_blk rfl 47 (.tmp 11) (.tmp 123) rfl g5 (ndC x) rfl rfl _ _ HK6.out nd_size rfl (nd_ones x) ?_); intro w7 hk7 hg7 hs7
                   obtain ⟨hx0, hx1, hx2, hx3⟩ := nd_cells hk7
                   have HBq7 := kp (HW6.out.grown hg7 HW6.out.size (fun k hk => by cases hk; exact HG5.out))
                   have HB37 := kp (HBL.out.trans (HBq7.out.mono HBL.out.size))
                   clear hk7 hg7 hs7 hn0 hn1 hn2 hn3
                   rw [HKx.out] at hx1
                   obtain ⟨adm, gk, capm, rk, hvm, _, hgk, hrk, hrl, hck, hkk, _, _, hcp1, hcp2⟩ := (HMat.out.below HB37.out).get (a := k) (by rw [HSq.out.1]; exact hkn)
                   rw [HSq.out.1] at hvm hcp1
                   obtain ⟨z, hz⟩ : ∃ z, rk[f]? = some z := ⟨_, List.getElem?_eq_getElem (by omega)⟩
                   have hcz := hkk.cell f
                   rw [List.getElem?_map, hz, Option.map_some, natV_def] at hcz
                   have hmz : z = mz := by rw [← HMz.out]; unfold Q.mget; rw [getD_at hrk, getD_at hz]
                   rw [hmz] at hcz
                   have hcp9 : capm ≤ 9223372036854775807 := by unfold maxLen at hcp2; omega
                   subst hvm
                   clear hgk hrk hrl hkk hz hmz hcp2))
                        go_roundw
                        case rel => exact ⟨i + 1, by omega, by go_num, HNx.out, HB37.out⟩
                        case measure => simp [intOf]; omega
                  · have hz7 : (x.kind == 7) = false := by simpa using h7
                    have HNx : Kept (∀ j, j < i + 1 → ¬ Q.roundAt p f j) := kp fun j hj h => by
                      by_cases e : j = i
                      · subst e
                        obtain ⟨fn2, nd, g1', g2', g3, _⟩ := h
                        rw [HX.out] at g1'
                        cases g1'
                        rw [HY.out] at g2'
                        cases g2'
                        exact h7 g3
                      · exact HPreI.out j (by omega) h
                    clear h7
                    go_wp2_with (first
                | ((with_reducible show wpList _ _ _ (⟨some 11, _, _, _, _, _⟩ :: _) _ _); go_must (refine wpList_alloc_zero rfl 47 rfl (ndC ⟨0, 0, 0, 0⟩) nd_zero ?_); intro g5 w6 hg5 hk6 hw6; have HG5 := kp hg5; have HK6 := kp hk6; have HW6 := kp hw6; clear hg5 hk6 hw6)
                | ((with_reducible show wpList _ _ _ (⟨none, _, _, _, _, _⟩ :: _) _ _); go_must (refine wpList_store_blk rfl 47 (.tmp 11) (.tmp 123) rfl g5 (ndC x) rfl rfl _ _ HK6.out nd_size rfl (nd_ones x) ?_); intro w7 hk7 hg7 hs7
                   obtain ⟨hx0, hx1, hx2, hx3⟩ := nd_cells hk7
                   have HBq7 := kp (HW6.out.grown hg7 HW6.out.size (fun k hk => by cases hk; exact HG5.out))
                   have HB37 := kp (HBL.out.trans (HBq7.out.mono HBL.out.size))
                   clear hk7 hg7 hs7 hn0 hn1 hn2 hn3))
                    go_roundw
                    case rel => exact ⟨i + 1, by omega, by go_num, HNx.out, HB37.out⟩
                    case measure => simp [intOf]; omega
                · have HNx : Kept (∀ j, j < f + 1 → ¬ Q.badRound p j) := kp fun j hj h => by
                    by_cases e : j = f
                    · subst e
                      obtain ⟨i2, h2⟩ := h
                      by_cases hlt2 : i2 < i
                      · exact HPreI.out i2 hlt2 h2
                      · obtain ⟨fn2, nd, g1', g2', _⟩ := h2
                        rw [HX.out] at g1'
                        cases g1'
                        have := (List.getElem?_eq_some_iff.1 g2').1
                        rw [HFl.out] at this
                        omega
                    · exact HPre.out j (by omega) h
                  have hge : fn.len ≤ i := by omega
                  clear hli hok
                  go_wp2
                  go_roundw
                  case rel => exact ⟨f + 1, by omega, by go_num, HNx.out, HBL.out⟩
                  case measure => simp [intOf]; omega
            · have HE := kp (check_is HC.out (Q.check_fine HCo.out HFine.out fun j hj => HPre.out j (by rw [HLen.out] at hj; omega)))
              have hge : p.len ≤ f := by omega
              clear hlt
              go_wp2
              go_ret3
              exact ⟨HE.out, HW1.out.trans ((HBw3.out.trans (HBL.out.mono hsz3)).mono hs1')⟩
end Go.Proofs.Ytkblgafackmckaa

/- Who comes to whom, by a table of as many rows as places: nothing here speaks of the program. -/
namespace Go.Proofs.Ytkblgafackmckaa.Q

/-- A table on its way: in round k, all ahead of (a, b) done. -/
structure Clo (R : Nat → Nat → Prop) (n k a b : Nat) (G : Nat → Nat → Prop) : Prop where
  sound : ∀ x y, x < n → y < n → G x y → Reach R n x y
  base : ∀ x y, x < n → y < n → Via R k x y → G x y
  done : ∀ x y, x < n → y < n → (x < a ∨ (x = a ∧ y < b)) → Via R k x k → Via R k k y → G x y
section
variable {R : Nat → Nat → Prop} {n k a b : Nat} {G G' : Nat → Nat → Prop}
theorem Clo.step (h : Clo R n k a b G) (hk : k < n) (ha : a < n) (hb : b < n) (hG : ∀ x y, x < n → y < n → (G' x y ↔ G x y ∨ (x = a ∧ y = b ∧ G a k ∧ G k b))) : Clo R n k a (b + 1) G' := by
  refine ⟨fun x y hx hy e => ?_, fun x y hx hy v => (hG x y hx hy).2 (.inl (h.base x y hx hy v)), fun x y hx hy hlt v1 v2 => ?_⟩
  · rcases (hG x y hx hy).1 e with e | ⟨rfl, rfl, g1, g2⟩
    · exact h.sound x y hx hy e
    · exact (h.sound x k hx hk g1).trans hk (h.sound k y hk hy g2)
  · by_cases e : x = a ∧ y = b
    · obtain ⟨rfl, rfl⟩ := e
      exact (hG x y hx hy).2 (.inr ⟨rfl, rfl, h.base x k hx hk v1, h.base k y hk hy v2⟩)
    · exact (hG x y hx hy).2 (.inl (h.done x y hx hy (by omega) v1 v2))
theorem Clo.line (h : Clo R n k a n G) : Clo R n k (a + 1) 0 G :=
  ⟨h.sound, h.base, fun x y hx hy _ v1 v2 => h.done x y hx hy (by omega) v1 v2⟩
theorem Clo.round (h : Clo R n k n 0 G) : Clo R n (k + 1) 0 0 G :=
  ⟨h.sound, fun x y hx hy v => by
    rcases v with v | ⟨v1, v2⟩
    · exact h.base x y hx hy v
    · exact h.done x y hx hy (by omega) v1 v2, fun x y _ _ hlt _ _ => by omega⟩
theorem Clo.end_ (h : Clo R n n 0 0 G) (x y : Nat) (hx : x < n) (hy : y < n) : G x y ↔ Reach R n x y :=
  ⟨h.sound x y hx hy, fun r => h.base x y hx hy (reach_via r)⟩
theorem Clo.start (h : ∀ x y, x < n → y < n → (G x y ↔ R x y)) : Clo R n 0 0 0 G :=
  ⟨fun x y hx hy e => .one ((h x y hx hy).1 e), fun x y hx hy v => (h x y hx hy).2 v, fun x y _ _ hlt _ _ => by omega⟩
end
/-- Entry (x, y) of a flat table of rows of 16. -/
def ent (L : List Bool) (x y : Nat) : Prop := L.getD (x * 16 + y) false = true
theorem ent_set {L : List Bool} (hL : L.length = 256) {a b : Nat} (ha : a < 16) (hb : b < 16) (v : Bool) (x y : Nat) (_hx : x < 16) (hy : y < 16) : ent (L.set (a * 16 + b) v) x y ↔ if x = a ∧ y = b then v = true else ent L x y := by
  unfold ent
  by_cases e : x = a ∧ y = b
  · obtain ⟨rfl, rfl⟩ := e
    rw [if_pos ⟨rfl, rfl⟩, List.getD_eq_getElem?_getD, List.getElem?_set_self (by omega)]
    simp
  · rw [if_neg e, List.getD_eq_getElem?_getD, List.getElem?_set_ne (by omega), ← List.getD_eq_getElem?_getD]
theorem ent_zero (x y : Nat) : ¬ ent (List.replicate 256 false) x y := by
  unfold ent
  rw [List.getD_eq_getElem?_getD, List.getElem?_replicate]
  split <;> simp
theorem ent_at {L : List Bool} (hL : L.length = 256) {x y : Nat} (hx : x < 16) (hy : y < 16) : ∃ v, L[x * 16 + y]? = some v ∧ (ent L x y ↔ v = true) := by
  have h : x * 16 + y < L.length := by omega
  refine ⟨L[x * 16 + y], List.getElem?_eq_getElem h, ?_⟩
  unfold ent
  rw [List.getD_eq_getElem?_getD, List.getElem?_eq_getElem h]
  rfl
/-- Steps that end among the first m need no more than these. -/
theorem reach_less {R : Nat → Nat → Prop} {n m : Nat} (hR : ∀ x y, R x y → y < m) {x y : Nat} (h : Reach R n x y) : Reach R m x y := by
  induction h with
  | one h => exact .one h
  | more h _ _ ih => exact .more h (hR _ _ h) ih
theorem reach_more {R : Nat → Nat → Prop} {n m : Nat} (hnm : m ≤ n) {x y : Nat} (h : Reach R m x y) : Reach R n x y := by
  induction h with
  | one h => exact .one h
  | more h hj _ ih => exact .more h (by omega) ih
theorem calls_lt {p : Pg} (h : CallsFit p) (x y : Nat) (hc : calls p x y) : y < p.len := by
  obtain ⟨f, hf, nd, hnd, h7, ha⟩ := hc
  have := h f (List.mem_of_getElem? hf) nd hnd h7
  omega
end Go.Proofs.Ytkblgafackmckaa.Q

/- A statement of several orders whose last operations wait for all that stand before them: those in front are proved in whatever order, the last ones as they stand. -/
namespace Go.Proofs.Ytkblgafackmckaa
open Go.RowKit

/-- Whom an operation waits for, also through others, as a set of bits. -/
def maskOf (acc : List Nat) (o : Oper) : Nat := (waits o).foldl (fun m j => m ||| (2 ^ j ||| acc.getD j 0)) 0
def masks (l : List Oper) : List Nat := l.foldl (fun acc o => acc ++ [maskOf acc o]) []

theorem masks_snoc (l : List Oper) (o : Oper) : masks (l ++ [o]) = masks l ++ [maskOf (masks l) o] := by simp [masks]
theorem masks_len (l : List Oper) : (masks l).length = l.length := by
  have h : ∀ (l : List Oper) (acc : List Nat), (l.foldl (fun acc o => acc ++ [maskOf acc o]) acc).length = acc.length + l.length := by
    intro l
    induction l with
    | nil => intro acc; rfl
    | cons o r ih => intro acc; rw [List.foldl_cons, ih]; simp; omega
  have := h l []
  simpa [masks] using this
theorem masks_at (l : List Oper) (i : Nat) (o : Oper) (h : l[i]? = some o) : (masks l).getD i 0 = maskOf (masks (l.take i)) o := by
  have hi := (List.getElem?_eq_some_iff.1 h).1
  have e : l = l.take i ++ [o] ++ l.drop (i + 1) := by
    have h1 : l.take (i + 1) = l.take i ++ [o] := by rw [List.take_add_one, h]; rfl
    rw [← h1, List.take_append_drop]
  have hpre : ∀ (r : List Oper) (a : List Oper), (masks (a ++ r)).take a.length = masks a := by
    intro r a
    have hx : ∀ (r : List Oper) (acc : List Nat), ∃ t, r.foldl (fun acc o => acc ++ [maskOf acc o]) acc = acc ++ t := by
      intro r
      induction r with
      | nil => intro acc; exact ⟨[], by simp⟩
      | cons x r ih =>
        intro acc
        obtain ⟨t, ht⟩ := ih (acc ++ [maskOf acc x])
        exact ⟨[maskOf acc x] ++ t, by rw [List.foldl_cons, ht, List.append_assoc]⟩
    obtain ⟨t, ht⟩ := hx r (masks a)
    have h3 : masks (a ++ r) = masks a ++ t := by unfold masks at ht ⊢; rw [List.foldl_append]; exact ht
    rw [h3, List.take_left' (masks_len a)]
  have hl : (l.take i).length = i := by rw [List.length_take]; omega
  have h2 := hpre (l.drop (i + 1)) (l.take i ++ [o])
  rw [← e, List.length_append, hl, masks_snoc] at h2
  have h3 : (masks l)[i]? = ((masks l).take (i + 1))[i]? := by rw [List.getElem?_take, if_pos (by omega)]
  rw [List.getD_eq_getElem?_getD, h3]
  show (((masks l).take (i + [o].length))[i]?).getD 0 = _
  rw [h2, List.getElem?_append_right (by rw [masks_len, hl]; exact Nat.le_refl _), masks_len, hl, Nat.sub_self]
  rfl

theorem fold_or (f : Nat → Nat) (j : Nat) : ∀ (l : List Nat) (m : Nat), (l.foldl (fun m k => m ||| f k) m).testBit j = true → m.testBit j = true ∨ ∃ k ∈ l, (f k).testBit j = true
  | [], m, h => .inl h
  | k :: l, m, h => by
    rcases fold_or f j l _ h with h | ⟨k', hk, h⟩
    · rw [Nat.testBit_or, Bool.or_eq_true] at h
      rcases h with h | h
      · exact .inl h
      · exact .inr ⟨k, List.mem_cons_self, h⟩
    · exact .inr ⟨k', List.mem_cons_of_mem _ hk, h⟩

/-- What is in the mask of an operation that may come up is listed. -/
theorem mask_listed {l : List Oper} {listed : Array Bool} (hback : ∀ i o, l[i]? = some o → ∀ e ∈ o.after, Region.binds .any e = true → e.on < i)
    (hshut : ∀ j oj, l[j]? = some oj → listed.getD j false = true → ∀ e ∈ oj.after, Region.binds .any e = true → listed.getD e.on false = true) :
    ∀ i o, l[i]? = some o → (∀ e ∈ o.after, Region.binds .any e = true → listed.getD e.on false = true) → ∀ j, ((masks l).getD i 0).testBit j = true → listed.getD j false = true := by
  intro i
  induction i using Nat.strongRecOn with
  | _ i ih =>
    intro o ho hw j hj
    rw [masks_at l i o ho] at hj
    rcases fold_or _ j _ _ hj with h | ⟨k, hk, h⟩
    · simp at h
    · obtain ⟨e, he, hb, hon⟩ := mem_waits.1 hk
      have hkl : listed.getD k false = true := by rw [← hon]; exact hw e he hb
      have hki : k < i := by rw [← hon]; exact hback i o ho e he hb
      rw [Nat.testBit_or, Bool.or_eq_true] at h
      rcases h with h | h
      · rw [Nat.testBit_two_pow] at h
        have : k = j := by simpa using h
        rw [← this]; exact hkl
      · have hil := (List.getElem?_eq_some_iff.1 ho).1
        have hk2 : l[k]? = some (l[k]'(by omega)) := List.getElem?_eq_getElem (by omega)
        have hkt : (l.take i)[k]? = some (l[k]'(by omega)) := by rw [List.getElem?_take, if_pos hki]; exact hk2
        have h' : ((masks l).getD k 0).testBit j = true := by
          rw [masks_at l k _ hk2]
          rw [masks_at (l.take i) k _ hkt, List.take_take, Nat.min_eq_left (by omega)] at h
          exact h
        exact ih k hki _ hk2 (hshut k _ hk2 hkl) j h'

/-- From the n-th on each operation waits for all before it. -/
def tailOk (l : List Oper) (n : Nat) : Bool := (List.range l.length).all fun i => decide (i < n) || (masks l).getD i 0 == 2 ^ i - 1

section
variable {P : Program} {Q : Exit → Act → World → Prop} {a0 : Act} {w : World} {R : List Fact} {D : List (List (Nat × Nat))} {every : List (Nat × Nat)} {l : List Oper} {n : Nat}

theorem forced (hback : ∀ i o, l[i]? = some o → ∀ e ∈ o.after, Region.binds .any e = true → e.on < i) (ht : tailOk l n = true) :
    ∀ (fuel m : Nat) (listed : Array Bool) (a : Act) (W : World), n ≤ m → l.length ≤ m + fuel → listed.size = l.length → (∀ j, j < m → listed.getD j false = true) → (∀ j, m ≤ j → j < l.length → listed.getD j true = false) →
      wpList P l.toArray Q (l.drop m) a W → wpAny P .any l.toArray Q fuel listed a W := by
  intro fuel
  induction fuel with
  | zero =>
    intro m listed a W hn hm hs h1 h2 h
    rw [List.drop_of_length_le (by omega)] at h
    refine ⟨?_, h⟩
    cases hr : Region.ready .any l.toArray listed with
    | nil => rfl
    | cons x xs =>
      have hx : x ∈ Region.ready .any l.toArray listed := by rw [hr]; exact List.mem_cons_self
      obtain ⟨hl, o, hi, _⟩ := mem_ready.1 hx
      have hlt : x < l.length := by
        have := (Array.getElem?_eq_some_iff.1 hi).1
        simpa using this
      have h3 := h1 x (by omega)
      have hxl : x < listed.size := by omega
      simp [hxl] at hl h3
      rw [hl] at h3; cases h3
  | succ fuel ih =>
    intro m listed a W hn hm hs h1 h2 h
    rcases Nat.lt_or_ge m l.length with hml | hml
    rotate_left
    · rw [List.drop_of_length_le hml] at h
      refine ⟨fun _ => h, fun i hi => ?_⟩
      exfalso
      obtain ⟨hl, o, hio, _⟩ := mem_ready.1 hi
      have hlt : i < l.length := by
        have := (Array.getElem?_eq_some_iff.1 hio).1
        simpa using this
      have h3 := h1 i (by omega)
      have hxl : i < listed.size := by omega
      simp [hxl] at hl h3
      rw [hl] at h3; cases h3
    have hmo : l[m]? = some l[m] := List.getElem?_eq_getElem hml
    have hmr : m ∈ Region.ready .any l.toArray listed := mem_ready.2 ⟨h2 m (Nat.le_refl _) hml, l[m], by simp, fun e he hb => h1 _ (hback m _ hmo e he hb)⟩
    refine ⟨fun hr => (by rw [hr] at hmr; cases hmr), fun i hi => ?_⟩
    obtain ⟨hil, o, hio, hall⟩ := mem_ready.1 hi
    have hio' : l[i]? = some o := by simpa using hio
    have hilt := (List.getElem?_eq_some_iff.1 hio').1
    have him : m ≤ i := by
      rcases Nat.lt_or_ge i m with hlt | hge
      · have h3 := h1 i hlt
        have hxl : i < listed.size := by omega
        simp [hxl] at hil h3
        rw [hil] at h3; cases h3
      · exact hge
    have hshut : ∀ j oj, l[j]? = some oj → listed.getD j false = true → ∀ e ∈ oj.after, Region.binds .any e = true → listed.getD e.on false = true := by
      intro j oj hj hlj e he hb
      have hjl := (List.getElem?_eq_some_iff.1 hj).1
      have hjm : j < m := by
        rcases Nat.lt_or_ge j m with hlt | hge
        · exact hlt
        · have h3 := h2 j hge hjl
          have hxl : j < listed.size := by omega
          simp [hxl] at h3 hlj
          rw [h3] at hlj; cases hlj
      exact h1 _ (Nat.lt_trans (hback j oj hj e he hb) hjm)
    have hie : i = m := by
      rcases Nat.lt_or_ge m i with hlt | hge
      · exfalso
        have ht1 := List.all_eq_true.1 ht i (List.mem_range.2 hilt)
        have ht2 : (masks l).getD i 0 = 2 ^ i - 1 := by
          simp only [Bool.or_eq_true, decide_eq_true_eq, beq_iff_eq] at ht1
          rcases ht1 with h | h
          · omega
          · exact h
        have h3 := mask_listed hback hshut i o hio' hall m (by rw [ht2, Nat.testBit_two_pow_sub_one]; simpa using hlt)
        have h4 := h2 m (Nat.le_refl _) hml
        have hxl : m < listed.size := by omega
        simp [hxl] at h3 h4
        rw [h4] at h3; cases h3
      · omega
    subst hie
    have hoo : o = l[i] := by rw [hmo] at hio'; cases hio'; rfl
    subst hoo
    rw [List.drop_eq_getElem_cons hml] at h
    have hK : ∀ a' W', wpList P l.toArray Q (l.drop (i + 1)) a' W' → wpAny P .any l.toArray Q fuel (listed.setIfInBounds i true) a' W' := fun a' W' h' =>
      ih (i + 1) _ a' W' (by omega) (by omega) (by simpa using hs) (fun j hj => by
        by_cases hji : j = i
        · subst hji
          have : j < listed.size := by omega
          simp [this]
        · exact getD_set_true (h1 j (by omega))) (fun j hj hjl => by rw [getD_set_ne true (by omega)]; exact h2 j (by omega) hjl) h'
    unfold wpOp
    rw [hio]
    simp only
    unfold wpList at h
    split
    · rename_i hw
      rw [if_pos hw] at h
      exact h.imp (Oper.wp_mono hK) id
    · rename_i hw
      rw [if_neg hw] at h
      exact hK _ _ h

theorem parts_tail {E : List (Nat × Nat)} (hok : ∀ i o, l.toArray[i]? = some o → OpOk l.toArray D E a0.tmps.size i o) (hev : ∀ p ∈ every, p.1 < n ∧ ∃ oj, l[p.1]? = some oj ∧ oj.dst = some p.2) (ht : tailOk l n = true) (hn : n ≤ l.length)
    (hob : ∀ i o, i < n → l.toArray[i]? = some o → ∀ W, Below w.heap.size w W → given R W (fun a1 => wpList P l.toArray (PartPost a0.defers W o (factAt R i)) [o] a1 W) (D.getD i []) a0)
    (hmem : ∀ i o d, i < n → l[i]? = some o → o.dst = some d → (i, d) ∈ every)
    (hend : ∀ W, Below w.heap.size w W → given R W (fun a => wpList P l.toArray Q (l.drop n) a W) every a0) :
    ∀ (fuel : Nat) (listed : Array Bool) (a : Act) (W : World), PInv l.toArray R a0 w listed a W → (∀ j, n ≤ j → j < l.length → listed.getD j true = false) → (listed.toList.take n).count false + (l.length - n) ≤ fuel → wpAny P .any l.toArray Q fuel listed a W := by
  have hback : ∀ i o, l[i]? = some o → ∀ e ∈ o.after, Region.binds .any e = true → e.on < i := fun i o hi => (hok i o (by simpa using hi)).back
  have switch : ∀ (fuel : Nat) (listed : Array Bool) (a : Act) (W : World), PInv l.toArray R a0 w listed a W → (∀ j, n ≤ j → j < l.length → listed.getD j true = false) → (∀ j, j < n → listed.getD j false = true) → l.length - n ≤ fuel → wpAny P .any l.toArray Q fuel listed a W := by
    intro fuel listed a W h h2 h1 hf
    have hs : listed.size = l.length := by have := h.size; simpa using this
    refine forced hback ht fuel n listed a W (Nat.le_refl _) (by omega) hs h1 h2 ?_
    have h3 := given_fill (a := a) every a0 (hend W h.ext) fun p hp => by
      obtain ⟨hpn, oj, hj, hd⟩ := hev p hp
      exact h.got p.1 oj p.2 (by simpa using hj) hd (h1 p.1 hpn)
    have e1 : fill a every a0 = a := by
      have e2 : (fill a every a0).tmps = a.tmps := by
        apply Array.ext_getElem?
        intro t
        rw [fill_at]
        by_cases hc : t ∈ every.map (·.2) ∧ t < a0.tmps.size
        · rw [if_pos hc, getD_of a t (by rw [h.tsz]; exact hc.2)]
        · rw [if_neg hc]
          by_cases hts : t < a0.tmps.size
          · refine (h.old t fun j oj hj hd => ?_).symm
            have hj' : l[j]? = some oj := by simpa using hj
            rcases Nat.lt_or_ge j n with hjn | hjn
            · exact absurd ⟨List.mem_map.2 ⟨(j, t), hmem j oj t hjn hj' hd, rfl⟩, hts⟩ hc
            · have hjl := (List.getElem?_eq_some_iff.1 hj').1
              have h4 := h2 j hjn hjl
              have hxl : j < listed.size := by omega
              simp [hxl] at h4 ⊢; exact h4
          · rw [Array.getElem?_eq_none (by omega), Array.getElem?_eq_none (by rw [h.tsz]; omega)]
      have e3 := (fill_def a every a0).trans h.defs.symm
      cases hf : fill a every a0
      cases a
      rw [hf] at e2 e3
      simp only at e2 e3
      rw [e2, e3]
    rw [e1] at h3
    exact h3
  intro fuel
  induction fuel with
  | zero =>
    intro listed a W h h2 hc
    refine switch 0 listed a W h h2 (fun j hj => ?_) (by omega)
    have hs : listed.size = l.length := by have := h.size; simpa using this
    have hn0 : false ∉ listed.toList.take n := List.count_eq_zero.1 (by omega)
    have hjl : j < listed.size := by omega
    cases hb : listed[j]
    · refine absurd ?_ hn0
      have : (listed.toList.take n)[j]? = some false := by rw [List.getElem?_take, if_pos hj]; simp [hjl, hb]
      exact List.mem_of_getElem? this
    · simp [hjl, hb]
  | succ fuel ih =>
    intro listed a W h h2 hc
    have hs : listed.size = l.length := by have := h.size; simpa using this
    by_cases hall : ∀ j, j < n → listed.getD j false = true
    · exact switch _ listed a W h h2 hall (by omega)
    · refine ⟨fun hr => ?_, fun i hi => ?_⟩
      · exact absurd (fun j hj => all_listed hok h.size hr j (by simp; omega)) hall
      · obtain ⟨hl, o, hio, hw⟩ := mem_ready.1 hi
        have hio' : l[i]? = some o := by simpa using hio
        have hil := (List.getElem?_eq_some_iff.1 hio').1
        have hin : i < n := by
          rcases Nat.lt_or_ge i n with hlt | hge
          · exact hlt
          · exfalso
            refine hall fun j hj => ?_
            have ht1 := List.all_eq_true.1 ht i (List.mem_range.2 hil)
            have ht2 : (masks l).getD i 0 = 2 ^ i - 1 := by
              simp only [Bool.or_eq_true, decide_eq_true_eq, beq_iff_eq] at ht1
              rcases ht1 with h | h
              · omega
              · exact h
            exact mask_listed hback (fun j oj hj => h.shut j oj (by simpa using hj)) i o hio' hw j (by rw [ht2, Nat.testBit_two_pow_sub_one]; simpa using (by omega : j < i))
        refine part_one hio (hok i o hio) (hob i o hin hio) h hi fun a' W' h' => ih _ _ _ h' (fun j hj hjl => by rw [getD_set_ne true (by omega)]; exact h2 j hj hjl) ?_
        have hixl : i < listed.size := by omega
        have := count_set (listed.toList.take n) i (by
          rw [List.getElem?_take, if_pos hin]
          simp [hixl] at hl ⊢; exact hl)
        rw [Array.toList_setIfInBounds, List.take_set]
        omega

/-- THE RULE, where the last operations wait for all before them. -/
theorem region_tail {id : Nat} (n : Nat) (R : List Fact) (D : List (List (Nat × Nat))) (every : List (Nat × Nat)) (hm : P.follows .mixedOrders = true) (hok : partsOk l.toArray D (every ++ ((List.range l.length).filterMap fun i => if n ≤ i then ((l[i]?).bind (·.dst)).map fun d => (i, d) else none)) a0.tmps.size = true)
    (ht : tailOk l n = true) (hn : decide (n ≤ l.length) = true) (hev : every.all (fun p => decide (p.1 < n)) = true)
    (hob : obs P l.toArray R D w a0 0 (l.take n)) (hend : ∀ W, Below w.heap.size w W → given R W (fun a => wpList P l.toArray Q (l.drop n) a W) every a0) : (Code.region id l.toArray true).wp P Q a0 w := by
  unfold partsOk at hok
  simp only [Bool.and_eq_true] at hok
  generalize hE : every ++ ((List.range l.length).filterMap fun i => if n ≤ i then ((l[i]?).bind (·.dst)).map fun d => (i, d) else none) = E at hok
  have hn' : n ≤ l.length := by simpa using hn
  have ok : ∀ i o, l.toArray[i]? = some o → OpOk l.toArray D E a0.tmps.size i o := fun i o hi => OpOk.of (by
    have := List.all_eq_true.1 hok.1 i (List.mem_range.2 (Array.getElem?_eq_some_iff.1 hi).1)
    rw [hi] at this
    exact this)
  have hmem : ∀ i o d, i < n → l[i]? = some o → o.dst = some d → (i, d) ∈ every := fun i o d hin hio hd => by
    have h1 := ((ok i o (by simpa using hio)).dst d hd).2.1
    rw [← hE, List.mem_append] at h1
    rcases h1 with h1 | h1
    · exact h1
    · exfalso
      obtain ⟨k, hk, hkk⟩ := List.mem_filterMap.1 h1
      split at hkk
      · obtain ⟨d', _, hdd⟩ := Option.map_eq_some_iff.1 hkk
        cases hdd; omega
      · cases hkk
  have hev' : ∀ p ∈ every, p.1 < n ∧ ∃ oj, l[p.1]? = some oj ∧ oj.dst = some p.2 := fun p hp => by
    have h1 := List.all_eq_true.1 hok.2 p (by rw [← hE]; exact List.mem_append_left _ hp)
    obtain ⟨oj, h6, h7⟩ := Option.bind_eq_some_iff.1 (beq_iff_eq.1 h1)
    have h2 := List.all_eq_true.1 hev p hp
    exact ⟨by simpa using h2, oj, by simpa using h6, h7⟩
  refine wp_region_any hm (parts_tail (every := every) (D := D) (R := R) (n := n) ok hev' ht hn' (fun i o hin hio W hW => ?_) hmem hend _ _ a0 _ ⟨by simp, ⟨rfl, rfl, rfl, Nat.le_refl _, fun _ _ => rfl⟩, rfl, rfl, fun j oj d hj _ hl => ?_, fun _ _ => rfl, fun j oj hj hl => ?_⟩ (fun j _ hjl => by simp [hjl]) ?_)
  · have h1 := obs_at (l.take n) 0 hob i o (by rw [List.getElem?_take, if_pos hin]; simpa using hio) W hW
    rw [Nat.zero_add] at h1
    exact h1
  · exfalso
    have hlt : j < l.length := by have := (Array.getElem?_eq_some_iff.1 hj).1; simpa using this
    simp [hlt] at hl
  · exfalso
    have hlt : j < l.length := by have := (Array.getElem?_eq_some_iff.1 hj).1; simpa using this
    simp [hlt] at hl
  · simp; omega
end

end Go.Proofs.Ytkblgafackmckaa
