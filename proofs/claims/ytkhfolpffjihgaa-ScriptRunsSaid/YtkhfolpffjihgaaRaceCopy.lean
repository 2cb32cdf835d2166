/- A program whose Writes are Reads: it may be just if the other may; it has no race. In memory: functions that a call made. -/
import Derived.Test.YtkhfolpffjihgaaPk27
import Derived.Test.YtkhfolpffjihgaaPk10
import Derived.Test.YtkhfolpffjihgaaPk15
namespace Go.Proofs.Ytkhfolpffjihgaa
open Go.RowKit
def rdN (x : Nd) : Nd := if x.kind = 2 then ⟨1, x.arg, x.next, x.alt⟩ else x
theorem rdN_yes {x : Nd} (h : x.kind = 2) : rdN x = ⟨1, x.arg, x.next, x.alt⟩ := if_pos h
theorem rdN_no {x : Nd} (h : ¬ x.kind = 2) : rdN x = x := if_neg h
theorem rdN_call {x : Nd} (h : x.kind = 7) : rdN x = x := rdN_no (by omega)
theorem may_rd (g l s f : Int) (x : Nd) (n : Int) : Q.may g l s f (rdN x) n = Q.may g l s f x n := by
  by_cases h2 : x.kind = 2
  · rw [rdN_yes h2]
    unfold Q.may
    have e : Q.row (1 : Int) = Q.row x.kind := by rw [h2]; rfl
    rw [show (⟨1, x.arg, x.next, x.alt⟩ : Nd).kind = 1 from rfl, e]; rfl
  · rw [rdN_no h2]
structure CopyOf (p q : Pg) : Prop where
  g : q.g = p.g
  l : q.l = p.l
  s : q.s = p.s
  len : q.len = p.len
  fns : q.fns.map (·.nodes) = p.fns.map fun x => x.nodes.map rdN
section
variable {p q : Pg}
theorem CopyOf.length (h : CopyOf p q) : q.fns.length = p.fns.length := by
  have e := congrArg List.length h.fns
  rwa [List.length_map, List.length_map] at e
theorem CopyOf.fn (h : CopyOf p q) {j : Nat} {fn : Fn} (hf : p.fns[j]? = some fn) : ∃ fn', q.fns[j]? = some fn' ∧ fn'.nodes = fn.nodes.map rdN := by
  have e := congrArg (fun l => l[j]?) h.fns
  simp only [List.getElem?_map, hf, Option.map_some] at e
  cases hq : q.fns[j]? with
  | none => rw [hq] at e; cases e
  | some fn' => rw [hq] at e; exact ⟨fn', rfl, Option.some.inj e⟩
theorem CopyOf.fault (h : CopyOf p q) {fn fn' : Fn} (hn : fn'.nodes = fn.nodes.map rdN) : Q.fnFault q fn' = Q.fnFault p fn := by
  have hb : Q.badNode q fn' = Q.badNode p fn := by
    funext i
    unfold Q.badNode
    rw [hn, h.g, h.l, h.s, h.len, List.length_map]
    apply propext
    constructor
    · rintro ⟨nd, h1, h2⟩
      rw [List.getElem?_map] at h1
      cases hx : fn.nodes[i]? with
      | none => rw [hx] at h1; cases h1
      | some x =>
        rw [hx] at h1
        cases h1
        rw [may_rd] at h2
        exact ⟨x, rfl, h2⟩
    · rintro ⟨nd, h1, h2⟩
      exact ⟨rdN nd, by rw [List.getElem?_map, h1]; rfl, by rw [may_rd]; exact h2⟩
  unfold Q.fnFault
  rw [hb, hn, List.length_map]
theorem CopyOf.badFn (h : CopyOf p q) {j : Nat} (hb : Q.badFn p j) : Q.badFn q j := by
  obtain ⟨fn, hf, h2⟩ := hb
  obtain ⟨fn', hf', hn⟩ := h.fn hf
  exact ⟨fn', hf', by rw [h.fault hn]; exact h2⟩
theorem CopyOf.calls (h : CopyOf p q) {x y : Nat} (hc : Q.calls p x y) : Q.calls q x y := by
  obtain ⟨fn, hf, nd, hm, h7, ha⟩ := hc
  obtain ⟨fn', hf', hn⟩ := h.fn hf
  refine ⟨fn', hf', nd, ?_, h7, ha⟩
  rw [hn]
  exact List.mem_map.2 ⟨nd, hm, rdN_call h7⟩
theorem CopyOf.reach (h : CopyOf p q) {n x y : Nat} (hr : Q.Reach (Q.calls p) n x y) : Q.Reach (Q.calls q) n x y := by
  induction hr with
  | one h1 => exact .one (h.calls h1)
  | more h1 h2 _ ih => exact .more (h.calls h1) h2 ih
theorem CopyOf.badRound (h : CopyOf p q) {j : Nat} (hb : Q.badRound p j) : Q.badRound q j := by
  obtain ⟨i, fn, nd, hf, hx, h7, k, ha, hk, hr⟩ := hb
  obtain ⟨fn', hf', hn⟩ := h.fn hf
  refine ⟨i, fn', nd, hf', by rw [hn, List.getElem?_map, hx]; exact congrArg some (rdN_call h7), h7, k, ha, by rw [h.length]; exact hk, ?_⟩
  rcases hr with hr | hr
  · exact .inl hr
  · exact .inr (by rw [h.length]; exact h.reach hr)
end
def fnR (x : Fn) (_ : Nat) : Value := fnV x
theorem fnR_one (x : Fn) (j : Nat) : (fnR x j).oneCell' = true := rfl
theorem ndV_one (x : Nd) (j : Nat) : (ndV x j).oneCell' = true := by unfold ndV; split <;> rfl
theorem recs_fns {w : World} {B n : Nat} {A : Option Addr} {l : List Fn} (h : Recs 1 fnR w B A n l) : Row fnV w B A n l :=
  ⟨h.len, fun h0 => by
    obtain ⟨ad, e, hb, hc⟩ := h.cells h0
    refine ⟨ad, e, hb, fun k hk => ?_⟩
    have hx : l[k]? = some (l[k]'(by rw [h.len]; exact hk)) := List.getElem?_eq_getElem _
    have := hc k _ hx 0 (by omega)
    rw [Nat.mul_one, Nat.add_zero] at this
    rw [this, hx]; rfl⟩
structure FnsOwn (w : World) (B : Nat) (l : List Fn) : Prop where
  own : ∀ x ∈ l, OwnR 4 ndV w B 75 (fnV x) x.nodes
  ok : ∀ x ∈ l, ∀ y ∈ x.nodes, y.Ok
section
variable {w w' : World} {B : Nat} {l : List Fn}
theorem FnsOwn.nil (w : World) (B : Nat) : FnsOwn w B [] := ⟨(fun _ h => by cases h), (fun _ h => by cases h)⟩
theorem FnsOwn.below (h : FnsOwn w B l) (hb : Below w.heap.size w w') : FnsOwn w' B l := ⟨fun x hx => (h.own x hx).below hb (Nat.le_refl _), h.ok⟩
theorem FnsOwn.snoc (h : FnsOwn w B l) {x : Fn} (ho : OwnR 4 ndV w B 75 (fnV x) x.nodes) (hok : ∀ y ∈ x.nodes, y.Ok) : FnsOwn w B (l ++ [x]) :=
  ⟨fun y hy => by
    rcases List.mem_append.1 hy with h1 | h1
    · exact h.own y h1
    · rw [List.mem_singleton.1 h1]; exact ho, fun y hy => by
    rcases List.mem_append.1 hy with h1 | h1
    · exact h.ok y h1
    · rw [List.mem_singleton.1 h1]; exact hok⟩
theorem FnsOwn.fn (h : FnsOwn w B l) : ∀ x ∈ l, x.Ok w w.heap.size := fun x hx => by
  have ho := h.own x hx
  have h1 := ho.len_is
  refine ⟨⟨ho.recs, h.ok x hx⟩, h1.2.1, h1.2.2, fun hn => ?_⟩
  rcases ho.2 with ⟨h2, _⟩ | ⟨g, cap, cur, h2, _⟩
  · unfold fnV at h2; injection h2
  · unfold fnV at h2
    rw [hn] at h2
    injection h2 with h3
    cases h3
end
end Go.Proofs.Ytkhfolpffjihgaa
