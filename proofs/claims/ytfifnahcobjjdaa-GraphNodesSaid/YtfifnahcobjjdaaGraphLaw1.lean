/- What the statements of graph begin with, walked: awake. -/
import Derived.Test.YtfifnahcobjjdaaPk12
namespace Go.Proofs.Ytfifnahcobjjdaa
open Go.RowKit

def triN : List Nd := [⟨7, 2, 1, 0⟩, ⟨7, 1, 2, 0⟩, ⟨9, 0, 0, 0⟩]
/-- The document's example, as it is built. -/
def tri (g0 g1 g2 : Nat) : Pg := ⟨0, 0, 0, some ⟨g2, 0, none⟩, 3, 3, [⟨some ⟨g1, 0, none⟩, 3, 3, triN⟩, ⟨some ⟨g0, 0, none⟩, 1, 1, [⟨9, 0, 0, 0⟩]⟩, ⟨some ⟨g0, 0, none⟩, 1, 1, [⟨9, 0, 0, 0⟩]⟩]⟩
def triW (w : World) : World := ((w.alloc (.cells #[.int .i64 9, .int .i64 0, .int .i64 0, .int .i64 0] 39)).alloc (.cells #[.int .i64 7, .int .i64 2, .int .i64 1, .int .i64 0, .int .i64 7, .int .i64 1, .int .i64 2, .int .i64 0, .int .i64 9, .int .i64 0, .int .i64 0, .int .i64 0] 39)).alloc
  (.cells #[.slice (some ⟨w.heap.size + 1, 0, none⟩) 3 3, .slice (some ⟨w.heap.size, 0, none⟩) 1 1, .slice (some ⟨w.heap.size, 0, none⟩) 1 1] 34)
theorem nd_ok4 {x : Nd} (h : I64 x.kind ∧ I64 x.arg ∧ I64 x.next ∧ I64 x.alt) : x.Ok := ⟨h.1, h.2.1, h.2.2.1, h.2.2.2⟩
theorem nodes_blk {w : World} {g : Nat} {t : TypeId} {l : List Nd} (h : Blk w g t (l.flatMap ndC)) (hok : ∀ x ∈ l, x.Ok) : Nodes w w.heap.size (some ⟨g, 0, none⟩) l.length l := by
  refine ⟨⟨rfl, fun _ => ⟨_, rfl, h.lt, fun k y hy j hj => ?_⟩⟩, hok⟩
  have hadd : (⟨g, 0, none⟩ : Addr).add (k * 4 + j) = ⟨g, k * 4 + j, none⟩ := add_start _ _
  rw [hadd, h.cell]
  have key : ∀ (l : List Nd) (k : Nat) (y : Nd), l[k]? = some y → (l.flatMap ndC)[k * 4 + j]? = some (ndV y j) := by
    intro l
    induction l with
    | nil => intro k y h; simp at h
    | cons x r ih =>
      intro k y h
      rw [List.flatMap_cons]
      cases k with
      | zero =>
        simp at h
        subst h
        rw [Nat.zero_mul, Nat.zero_add, List.getElem?_append_left (by simp [ndC]; exact hj)]
        match j, hj with
        | 0, _ => rfl
        | 1, _ => rfl
        | 2, _ => rfl
        | 3, _ => rfl
      | succ k =>
        rw [List.getElem?_append_right (by simp [ndC]; omega), show (k + 1) * 4 + j - (ndC x).length = k * 4 + j by simp [ndC]; omega]
        exact ih k y (by simpa using h)
  exact key l k y hy
theorem tri_ok (w : World) (g0 g1 g2 : Nat) (h0 : Blk w g0 39 (ndC ⟨9, 0, 0, 0⟩)) (h1 : Blk w g1 39 (triN.flatMap ndC)) (h2 : Blk w g2 34 ((tri g0 g1 g2).fns.map fnV)) : (tri g0 g1 g2).Ok w w.heap.size := by
  have hret : ∀ x ∈ [(⟨9, 0, 0, 0⟩ : Nd)], x.Ok := by
    intro x hx
    rw [List.mem_singleton] at hx
    subst hx
    exact nd_ok4 (by unfold I64; simp)
  have htri : ∀ x ∈ triN, x.Ok := by
    intro x hx
    simp only [triN, List.mem_cons, List.not_mem_nil, or_false] at hx
    rcases hx with rfl | rfl | rfl <;> exact nd_ok4 (by unfold I64; simp)
  refine ⟨by unfold I64; simp [tri], by unfold I64; simp [tri], by unfold I64; simp [tri], ?_, ?_, Nat.le_refl _, by simp [tri, maxLen], fun h => by cases h⟩
  · exact Blk.row (f := fnV) (l := (tri g0 g1 g2).fns) h2 rfl (Nat.le_refl _)
  · have ha : (⟨some ⟨g1, 0, none⟩, 3, 3, triN⟩ : Fn).Ok w w.heap.size := ⟨nodes_blk h1 htri, Nat.le_refl _, by simp [maxLen], fun h => by cases h⟩
    have hb : (⟨some ⟨g0, 0, none⟩, 1, 1, [⟨9, 0, 0, 0⟩]⟩ : Fn).Ok w w.heap.size := ⟨nodes_blk (l := [⟨9, 0, 0, 0⟩]) h0 hret, Nat.le_refl _, by simp [maxLen], fun h => by cases h⟩
    intro f hf
    simp only [tri, List.mem_cons, List.not_mem_nil, or_false] at hf
    rcases hf with rfl | rfl | rfl
    · exact ha
    · exact hb
    · exact hb
theorem triW_ok (w : World) : (tri w.heap.size (w.heap.size + 1) (w.heap.size + 2)).Ok (triW w) (triW w).heap.size := by
  refine tri_ok _ _ _ _ ?_ ?_ ?_
  · exact ((Blk.newA w 39 _ (ndC ⟨9, 0, 0, 0⟩) rfl).alloc _).alloc _
  · exact (Blk.newAt (cs := triN.flatMap ndC) rfl (by simp)).alloc _
  · exact Blk.newAt rfl (by simp)
theorem triW_below (w : World) {B : Nat} {w0 : World} (h : Below B w0 w) (hB : B ≤ w.heap.size) : Below B w0 (triW w) := ((h.alloc hB _).alloc (by simp; omega) _).alloc (by simp; omega) _
theorem tri_fn {g0 g1 g2 f : Nat} {fn : Fn} (h : (tri g0 g1 g2).fns[f]? = some fn) : (f = 0 ∧ fn.nodes = triN) ∨ ((f = 1 ∨ f = 2) ∧ fn.nodes = [⟨9, 0, 0, 0⟩]) := by
  have hlt := (List.getElem?_eq_some_iff.1 h).1
  have h3 : f < 3 := hlt
  rcases (by omega : f = 0 ∨ f = 1 ∨ f = 2) with rfl | rfl | rfl
  · simp [tri] at h; subst h; exact .inl ⟨rfl, rfl⟩
  · simp [tri] at h; subst h; exact .inr ⟨.inl rfl, rfl⟩
  · simp [tri] at h; subst h; exact .inr ⟨.inr rfl, rfl⟩
theorem tri_calls (g0 g1 g2 x y : Nat) : Q.calls (tri g0 g1 g2) x y ↔ x = 0 ∧ (y = 2 ∨ y = 1) := by
  constructor
  · rintro ⟨fn, hf, nd, hnd, h7, ha⟩
    rcases tri_fn hf with ⟨rfl, e⟩ | ⟨_, e⟩
    · rw [e] at hnd
      simp only [triN, List.mem_cons, List.not_mem_nil, or_false] at hnd
      refine ⟨rfl, ?_⟩
      rcases hnd with rfl | rfl | rfl
      · simp at ha; omega
      · simp at ha; omega
      · simp at h7
    · rw [e, List.mem_singleton] at hnd
      subst hnd
      simp at h7
  · rintro ⟨rfl, rfl | rfl⟩
    · exact ⟨_, rfl, ⟨7, 2, 1, 0⟩, by simp [triN], rfl, rfl⟩
    · exact ⟨_, rfl, ⟨7, 1, 2, 0⟩, by simp [triN], rfl, rfl⟩
theorem tri_small (g0 g1 g2 : Nat) : Q.small (tri g0 g1 g2) = true := by simp [Q.small, tri, triN]
theorem tri_check (g0 g1 g2 : Nat) : Q.check (tri g0 g1 g2) = (0, 0, 0) := by
  refine Q.check_fine (by constructor <;> simp [tri]) ?_ ?_
  · rintro j _ ⟨fn, hfn, hb⟩
    refine hb ?_
    have hno : ∀ nodes : List Nd, fn.nodes = nodes → nodes.length ≠ 0 → nodes.length ≤ 64 → (∀ (i : Nat) (nd : Nd), nodes[i]? = some nd → Q.may 0 0 0 3 nd nodes.length = true) → (Q.fnFault (tri g0 g1 g2) fn).2 = 0 := by
      intro nodes e h1 h2 h3
      rw [Q.fault_none _ _ (by rw [e]; exact h1) (by rw [e]; exact h2)]
      rintro i _ ⟨nd, hnd, hm⟩
      rw [e] at hnd hm
      have h4 := h3 i nd hnd
      have hm' : Q.may 0 0 0 3 nd nodes.length = false := hm
      rw [h4] at hm'
      cases hm'
    rcases tri_fn hfn with ⟨_, e⟩ | ⟨_, e⟩
    · refine hno _ e (by simp [triN]) (by simp [triN]) fun i nd h => ?_
      have hm := List.mem_of_getElem? h
      simp only [triN, List.mem_cons, List.not_mem_nil, or_false] at hm
      rcases hm with rfl | rfl | rfl <;> decide
    · refine hno _ e (by simp) (by simp) fun i nd h => ?_
      have hm := List.mem_of_getElem? h
      rw [List.mem_singleton] at hm
      subst hm
      decide
  · rintro j _ ⟨i, fn, nd, hfn, hnd, h7, k, hk, hlt, hor⟩
    have hc : Q.calls (tri g0 g1 g2) j k := ⟨fn, hfn, nd, List.mem_of_getElem? hnd, h7, hk⟩
    obtain ⟨rfl, hk2⟩ := (tri_calls _ _ _ _ _).1 hc
    rcases hor with h | h
    · omega
    · have hno : ∀ y, ¬ Q.Reach (Q.calls (tri g0 g1 g2)) 3 k y := by
        intro y h
        cases h with
        | one h => have := (tri_calls _ _ _ _ _).1 h; omega
        | more h _ _ => have := (tri_calls _ _ _ _ _).1 h; omega
      exact hno _ h
theorem tri_ord (g0 g1 g2 : Nat) {l : List Nat} (h : IsOrd (tri g0 g1 g2) l) (hl : l.length = 3) : l = [1, 2, 0] := by
  refine ord_unique h ?_ hl
  have hc := tri_calls g0 g1 g2
  have n0 : ∀ out : List Nat, (1 ∉ out ∨ 2 ∉ out) → ¬ Free (tri g0 g1 g2) out 0 := by
    rintro out hor ⟨_, h2⟩
    rcases hor with h | h
    · exact h (h2 1 ((hc 0 1).2 ⟨rfl, .inr rfl⟩))
    · exact h (h2 2 ((hc 0 2).2 ⟨rfl, .inl rfl⟩))
  have fr : ∀ (out : List Nat) (f : Nat), f ∉ out → f ≠ 0 → Free (tri g0 g1 g2) out f := fun out f h1 h2 => ⟨h1, fun y hy => absurd ((hc f y).1 hy).1 h2⟩
  intro k f hk
  match k, hk with
  | 0, hk =>
    simp at hk; subst hk
    refine ⟨by simp [tri], fr _ _ (by simp) (by simp), fun g hg => ?_⟩
    have : g = 0 := by omega
    subst this
    exact n0 _ (.inl (by simp))
  | 1, hk =>
    simp at hk; subst hk
    refine ⟨by simp [tri], fr _ _ (by simp) (by simp), fun g hg => ?_⟩
    rcases (by omega : g = 0 ∨ g = 1) with rfl | rfl
    · exact n0 _ (.inr (by simp))
    · exact fun h => h.1 (by simp)
  | 2, hk =>
    simp at hk; subst hk
    refine ⟨by simp [tri], ⟨by simp, fun y hy => ?_⟩, fun g hg => by omega⟩
    rcases ((hc 0 y).1 hy).2 with rfl | rfl <;> simp
  | k + 3, hk => simp at hk

set_option maxRecDepth 100000 in
set_option maxHeartbeats 1600000 in
theorem awake_any (w : World) : Calls Try.prog 7 #[] w fun e w' => e = .returned (.bool true) ∧ Below w.heap.size w w' := by
  go_enter Try.func7, Try.ntmps7
  go_wp2_with fail
  refine (graph_order _ (tri w.heap.size (w.heap.size + 1) (w.heap.size + 2)) (triW w) (triW_ok w) (Nat.le_refl _) (tri_small _ _ _) 0 0 0 (tri_check _ _ _)).mono ?_
  rintro e w1 ⟨v, l, rfl, _, h0, hown, hb1⟩
  obtain ⟨ho, hl⟩ := h0 rfl
  have hl3 := tri_ord _ _ _ ho hl
  subst hl3
  obtain ⟨A, c, rfl, hc1, hc2, hr⟩ := hown.readsN (n := 3) rfl
  obtain ⟨ad, x0, rfl, _, e0, hc0⟩ := hr.get (k := 0) (by omega)
  obtain ⟨_, x1, ea, _, e1, hcc1⟩ := hr.get (k := 1) (by omega); cases ea
  obtain ⟨_, x2, ea, _, e2, hcc2⟩ := hr.get (k := 2) (by omega); cases ea
  simp at e0 e1 e2
  subst e0; subst e1; subst e2
  rw [natV_def] at hc0 hcc1 hcc2
  have hd0 : w1.cell? ad = some (.int .i64 1) := by simpa [Addr.add] using hc0
  have hd1 : w1.cell? ⟨ad.block, ad.off + 1, none⟩ = some (.int .i64 2) := by simpa [Addr.add] using hcc1
  have hd2 : w1.cell? ⟨ad.block, ad.off + 2, none⟩ = some (.int .i64 0) := by simpa [Addr.add] using hcc2
  have HB1 : Kept (Below w.heap.size w w1) := kp ((triW_below w (Below.refl _ _) (Nat.le_refl _)).trans (hb1.mono (by simp [triW]; omega)))
  unfold maxLen at hc2
  clear hb1 hr hown hc0 hcc1 hcc2 ho hl h0
  go_wp2
  go_ret
  exact ⟨rfl, HB1.out⟩
end Go.Proofs.Ytfifnahcobjjdaa
