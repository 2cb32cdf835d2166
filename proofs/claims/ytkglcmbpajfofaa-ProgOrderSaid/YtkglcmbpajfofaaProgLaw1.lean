/- What the statements of prog begin with, walked: awake. -/
import Derived.Test.YtkglcmbpajfofaaProgP
namespace Go.Proofs.Ytkglcmbpajfofaa
open Go.RowKit

/-- A program of one function of one node, as it is built. -/
def pgOne (g g2 : Nat) (x : Nd) : Pg := ⟨0, 0, 0, some ⟨g2, 0, none⟩, 1, 1, [⟨some ⟨g, 0, none⟩, 1, 1, [x]⟩]⟩
theorem pgOne_ok (x : Nd) (hx : x.Ok) (w : World) (g g2 : Nat) (h1 : Blk w g 26 (ndC x)) (h2 : Blk w g2 41 [.slice (some ⟨g, 0, none⟩) 1 1]) : (pgOne g g2 x).Ok w w.heap.size := by
  refine ⟨by unfold I64; simp [pgOne], by unfold I64; simp [pgOne], by unfold I64; simp [pgOne], ?_, ?_, Nat.le_refl _, by simp [pgOne, maxLen], fun h => by cases h⟩
  · exact Blk.row (f := fnV) (l := [⟨some ⟨g, 0, none⟩, 1, 1, [x]⟩]) h2 rfl (Nat.le_refl _)
  · intro f hf
    have hf1 : f = ⟨some ⟨g, 0, none⟩, 1, 1, [x]⟩ := by simpa [pgOne] using hf
    subst hf1
    refine ⟨⟨⟨rfl, fun _ => ⟨_, rfl, h1.lt, fun k y hy j hj => ?_⟩⟩, fun y hy => ?_⟩, Nat.le_refl _, by simp [maxLen], fun h => by cases h⟩
    · have hk : k = 0 := by
        have := (List.getElem?_eq_some_iff.1 hy).1
        simp at this; exact this
      subst hk
      have hyx : y = x := by simpa using hy.symm
      subst hyx
      rw [Nat.zero_mul, Nat.zero_add, add_start, h1.cell j]
      match j, hj with
      | 0, _ => rfl
      | 1, _ => rfl
      | 2, _ => rfl
      | 3, _ => rfl
    · rw [List.mem_singleton] at hy
      subst hy; exact hx
theorem pgOne_small (g g2 : Nat) (x : Nd) : Q.small (pgOne g g2 x) = true := by simp [Q.small, pgOne]
theorem pgOne_counts (g g2 : Nat) (x : Nd) : Q.Counts (pgOne g g2 x) := by constructor <;> simp [pgOne]
theorem pgOne_fine (g g2 : Nat) (x : Nd) (h : Q.may 0 0 0 1 x 1 = true) : ∀ j, j < (pgOne g g2 x).fns.length → ¬ Q.badFn (pgOne g g2 x) j := by
  rintro j hj ⟨fn, hfn, hb⟩
  have hj0 : j = 0 := by simpa [pgOne] using hj
  subst hj0
  have hf : fn = ⟨some ⟨g, 0, none⟩, 1, 1, [x]⟩ := by simpa [pgOne] using hfn.symm
  subst hf
  refine hb ?_
  rw [Q.fault_none _ _ (by simp) (by simp) ?_]
  rintro i hi ⟨nd, hnd, hm⟩
  have hi0 : i = 0 := by simpa using hi
  subst hi0
  have : nd = x := by simpa using hnd.symm
  subst this
  have hm' : Q.may 0 0 0 1 nd 1 = false := hm
  rw [h] at hm'
  cases hm'
theorem check_return (g g2 : Nat) : Q.check (pgOne g g2 ⟨9, 0, 0, 0⟩) = (0, 0, 0) := by
  refine Q.check_fine (pgOne_counts _ _ _) (pgOne_fine _ _ _ (by decide)) ?_
  rintro j hj ⟨i, fn, nd, hfn, hnd, h7, _⟩
  have hj0 : j = 0 := by simpa [pgOne] using hj
  subst hj0
  have hf : fn = ⟨some ⟨g, 0, none⟩, 1, 1, [⟨9, 0, 0, 0⟩]⟩ := by simpa [pgOne] using hfn.symm
  subst hf
  have hm := List.mem_of_getElem? hnd
  rw [List.mem_singleton] at hm
  subst hm
  cases h7
theorem check_self (g g2 : Nat) : Q.check (pgOne g g2 ⟨7, 0, 0, 0⟩) = (0, 0, 8) :=
  Q.check_round (pgOne_counts _ _ _) (pgOne_fine _ _ _ (by decide)) (f := 0) (i := 0) ⟨_, _, rfl, rfl, rfl, 0, rfl, by simp [pgOne], .inl rfl⟩ (by decide) (by simp [pgOne]) (fun j hj => by omega) (fun j hj => by omega)

/-- The world in which such a program was built. -/
def oneW (w : World) (x : Nd) : World := (w.alloc (.cells #[.int .i64 x.kind, .int .i64 x.arg, .int .i64 x.next, .int .i64 x.alt] 26)).alloc (.cells #[.slice (some ⟨w.heap.size, 0, none⟩) 1 1] 41)
theorem oneW_ok (w : World) (x : Nd) (hx : x.Ok) : (pgOne w.heap.size (w.heap.size + 1) x).Ok (oneW w x) (oneW w x).heap.size :=
  pgOne_ok x hx _ _ _ ((Blk.newA w 26 _ (ndC x) rfl).alloc _) (Blk.newAt rfl (by simp))
theorem oneW_below (w : World) (x : Nd) {B : Nat} {w0 : World} (h : Below B w0 w) (hB : B ≤ w.heap.size) : Below B w0 (oneW w x) := (h.alloc hB _).alloc (by simp; omega) _
theorem nd_ok (k : Int) (h : I64 k) : Nd.Ok ⟨k, 0, 0, 0⟩ := ⟨h, by unfold I64; simp, by unfold I64; simp, by unfold I64; simp⟩

set_option maxRecDepth 100000 in
set_option maxHeartbeats 800000 in
theorem awake_any (w : World) : Calls Try.prog 9 #[] w fun e w' => e = .returned (.bool true) ∧ Below w.heap.size w w' := by
  have hi9 : I64 9 := by unfold I64; omega
  have hi7 : I64 7 := by unfold I64; omega
  go_enter Try.func9, Try.ntmps9
  go_wp2_with fail
  refine (prog_check _ (pgOne w.heap.size (w.heap.size + 1) ⟨9, 0, 0, 0⟩) (oneW w ⟨9, 0, 0, 0⟩) (oneW_ok w _ (nd_ok 9 hi9)) (Nat.le_refl _) (pgOne_small _ _ _) 0 0 0 (check_return _ _)).mono ?_
  rintro e w1 ⟨rfl, hb1⟩
  have HB1 : Kept (Below w.heap.size w w1) := kp ((oneW_below w _ (Below.refl _ _) (Nat.le_refl _)).trans (hb1.mono (by simp [oneW]; omega)))
  have hs1 := HB1.out.size
  clear hb1
  go_wp2_with fail
  refine (prog_check _ (pgOne w1.heap.size (w1.heap.size + 1) ⟨7, 0, 0, 0⟩) (oneW w1 ⟨7, 0, 0, 0⟩) (oneW_ok w1 _ (nd_ok 7 hi7)) (Nat.le_refl _) (pgOne_small _ _ _) 0 0 8 (check_self _ _)).mono ?_
  rintro e w2 ⟨rfl, hb2⟩
  have HB2 : Kept (Below w.heap.size w w2) := kp ((oneW_below w1 _ HB1.out hs1).trans (hb2.mono (by simp [oneW]; omega)))
  clear hb2
  go_wp2
  go_ret
  exact ⟨rfl, HB2.out⟩
end Go.Proofs.Ytkglcmbpajfofaa
