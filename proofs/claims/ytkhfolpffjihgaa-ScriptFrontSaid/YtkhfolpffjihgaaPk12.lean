/- Owns, SemMath2, Slice, in one text. -/
import Derived.Test.YtkhfolpffjihgaaPk2
import Derived.Test.YtkhfolpffjihgaaPk1
import Derived.Test.YtkhfolpffjihgaaPk11
import Derived.Test.YtkhfolpffjihgaaPk5
import Derived.Laws.Slices
namespace Go.Proofs.Ytkhfolpffjihgaa
open Go.RowKit
def cellsR {α : Type} (sz : Nat) (f : α → Nat → Value) (l : List α) : List Value := l.flatMap fun x => (List.range sz).map (f x)
theorem lP {α : Type} (sz : Nat) (f : α → Nat → Value) : ∀ l : List α, (cellsR sz f l).length = l.length * sz
  | [] => by simp [cellsR]
  | x :: l => by
    have ih := lP sz f l
    unfold cellsR at ih ⊢
    rw [List.flatMap_cons, List.length_append, ih, List.length_map, List.length_range, List.length_cons, Nat.add_mul]; omega
theorem xJ {α : Type} (sz : Nat) (f : α → Nat → Value) (l l' : List α) : cellsR sz f (l ++ l') = cellsR sz f l ++ cellsR sz f l' := by unfold cellsR; rw [List.flatMap_append]
theorem lB {α : Type} (sz : Nat) (f : α → Nat → Value) : ∀ (l : List α) (k j : Nat) (x : α), l[k]? = some x → j < sz → (cellsR sz f l)[k * sz + j]? = some (f x j)
  | [], k, j, x, h, _ => by simp at h
  | y :: l, 0, j, x, h, hj => by
    have e : y = x := by simpa using h
    subst e
    unfold cellsR
    rw [List.flatMap_cons, Nat.zero_mul, Nat.zero_add, List.getElem?_append_left (by simpa using hj), List.getElem?_map, List.getElem?_range hj]; rfl
  | y :: l, k + 1, j, x, h, hj => by
    have ih := lB sz f l k j x (by simpa using h) hj
    unfold cellsR at ih ⊢
    rw [List.flatMap_cons, List.getElem?_append_right (by simp [Nat.add_mul]; omega), List.length_map, List.length_range, show (k + 1) * sz + j - sz = k * sz + j by rw [Nat.add_mul]; omega]
    exact ih
def OwnR {α : Type} (sz : Nat) (f : α → Nat → Value) (w : World) (B : Nat) (e : TypeId) (v : Value) (l : List α) : Prop := w.ownsRow B e sz v l.length (cellsR sz f l)
section
variable {α : Type} {sz : Nat} {f : α → Nat → Value} {w w' : World} {B : Nat} {e : TypeId} {v : Value} {l : List α}
theorem OwnR.nil (sz : Nat) (f : α → Nat → Value) (w : World) (B : Nat) (e : TypeId) : OwnR sz f w B e (.slice none 0 0) [] := World.ownsRow_nil w B e sz
theorem OwnR.block (h : OwnR sz f w B e v l) : ∀ k, v.ownBlock = some k → B ≤ k ∧ k < w.heap.size := World.ownsRow.lt h
theorem OwnR.far {row : Option Nat} (h : OwnR sz f w B e v l) (hg : w.grownBy w' row) (hne : v.ownBlock = none ∨ v.ownBlock ≠ row) : OwnR sz f w' B e v l := World.ownsRow.kept h hg hne
theorem OwnR.below {C : Nat} (h : OwnR sz f w B e v l) (hb : Below C w w') (hC : w.heap.size ≤ C) : OwnR sz f w' B e v l := by
  refine h.far (row := none) ⟨hb.os, hb.tape, hb.output, hb.size, fun i hi _ => hb.block i (by omega)⟩ ?_
  cases hv : v.ownBlock with
  | none => exact .inl rfl
  | some k => exact .inr (by simp)
theorem OwnR.form (h : OwnR sz f w B e v l) : ∃ A cap, v = .slice A l.length cap ∧ l.length ≤ cap ∧ cap ≤ maxLen ∧ Recs sz f w w.heap.size A l.length l := by
  rcases h.2 with ⟨hv, h0⟩ | ⟨g, cap, cur, hv, hB, hg, hn, hm, hs, ht⟩
  · refine ⟨none, 0, by rw [h0]; exact hv, by omega, by simp [maxLen], ⟨rfl, fun hn => by omega⟩⟩
  · refine ⟨_, cap, hv, hn, hm, ⟨rfl, fun _ => ⟨_, rfl, ?_, fun k x hx j hj => ?_⟩⟩⟩
    · exact (World.ownsRow.lt h g (by rw [hv]; rfl)).2
    · exact World.ownsRow.cells h (g := g) (by rw [hv]; rfl) _ _ (lB sz f l k j x hx hj)
end
theorem lF {P : Program} {ops : Array Oper} {rest : List Oper} {o : Oper} {a : Act} {Q : Exit → Act → World → Prop} (hgd : o.guard = none) (s x : Operand) (t : TypeId)
    (ho : o.op = .call { callee := .builtin .append, args := #[s, x], argTypes := #[t, t] })
    (B : Nat) (e : TypeId) (sz : Nat) (z : Value) (bytes : Nat) (ht : P.underlying t = some (.slice e)) (hi : (P.info? e).map (fun i => (i.zero, i.size, i.bytes)) = some (some z, sz, bytes)) (hzs : z.cells.size = sz) (hsz : 0 < sz)
    {α : Type} (f : α → Nat → Value) (hone : ∀ x j, (f x j).oneCell' = true)
    (w : World) (v : Value) (l : List α) (u : α) (hs : a.eval s = v) (hown : OwnR sz f w B e v l) (ad : Addr) (c : Nat) (hx : a.eval x = .slice (some ad) 1 c) (had : ad = ⟨w.heap.size, 0, none⟩)
    (cs : Array Value) (hcs : cs = ((List.range sz).map (f u)).toArray) (h63 : l.length + 1 ≤ maxLen) (hbytes : (l.length + 1) * bytes ≤ 140737488355328) (hB : B ≤ w.heap.size)
    (h : ∀ v' w', OwnR sz f w' B e v' (l ++ [u]) → Grew w w' v v' → wpList P ops Q rest (a.put o.dst v') w') : wpList P ops Q (o :: rest) a (w.alloc (.cells cs e)) := by
  subst had
  subst hcs
  obtain ⟨i, hi0, hzz⟩ := Option.map_eq_some_iff.1 hi
  simp only [Prod.mk.injEq] at hzz
  obtain ⟨hz, hsize, hby⟩ := hzz
  have hnb := Blk.new w e ((List.range sz).map (f u))
  refine wpList_append_lies _ hgd s x t ho B e i z sz bytes ht hi0 hz hsize hby hzs hsz v l.length (cellsR sz f l) hs (World.ownsRow.alloc hown _) _ 1 c ((List.range sz).map (f u)) hx (by simp)
    (fun j y hy => by
      have hadd : (⟨w.heap.size, 0, none⟩ : Addr).add j = ⟨w.heap.size, j, none⟩ := by unfold Addr.add; split <;> simp_all
      rw [hadd, hnb.cell j]; exact hy)
    (fun y hy => by
      obtain ⟨j, _, rfl⟩ := List.mem_map.1 hy
      exact hone u j)
    (by omega) h63 hbytes (by simp; omega) _ rfl ?_
  intro g cap w' h2 h3 h4 h5
  refine h _ w' ?_ ⟨grown_alloc _ _ _ h3, ?_⟩
  rotate_left
  · rcases h4 with h4 | h4
    · exact .inl h4.symm
    · refine .inr fun k hk => ?_
      have : g = k := by simpa [Value.ownBlock] using hk
      subst this
      rw [h4]; simp
  unfold OwnR
  rw [List.length_append, List.length_singleton, xJ]
  have e1 : cellsR sz f [u] = (List.range sz).map (f u) := by simp [cellsR]
  rw [e1]
  exact h2
end Go.Proofs.Ytkhfolpffjihgaa
namespace Go.Proofs.Ytkhfolpffjihgaa.M
theorem act_th {c : Cf} {t : Nat} {n : Nd} {way : Bool} {u : Nat} (hu : u < c.ths.length) (hne : u ≠ t) : (act c t n way).ths[u]? = c.ths[u]? := by
  have h1 : ∀ x : Th, (c.ths.set t x)[u]? = c.ths[u]? := fun x => List.getElem?_set_ne (fun e => hne e.symm)
  unfold act
  repeat' split
  all_goals first
    | exact h1 _
    | (rw [List.getElem?_append_left (by rw [List.length_set]; exact hu)]; exact h1 _)
theorem act_len {c : Cf} {t : Nat} {n : Nd} {way : Bool} : (act c t n way).ths.length = if n.kind = 5 then c.ths.length + 1 else c.ths.length := by
  unfold act
  by_cases k9 : n.kind = 9
  · rw [if_pos k9, if_neg (show ¬ n.kind = 5 by omega)]; simp
  rw [if_neg k9]
  by_cases k3 : n.kind = 3
  · rw [if_pos k3, if_neg (show ¬ n.kind = 5 by omega)]; simp
  rw [if_neg k3]
  by_cases k4 : n.kind = 4
  · rw [if_pos k4, if_neg (show ¬ n.kind = 5 by omega)]; simp
  rw [if_neg k4]
  by_cases k5 : n.kind = 5
  · rw [if_pos k5, if_pos k5]; simp
  rw [if_neg k5, if_neg k5]
  split
  · simp
  · split <;> simp
theorem step_len (p : Pg) (c : Cf) (t : Int) (way : Bool) : c.ths.length ≤ (step p c t way).ths.length := by
  unfold step
  split
  · rw [act_len]; split <;> omega
  · exact Nat.le_refl _
theorem enabled_split {p : Pg} {c : Cf} {t : Int} (h : enabled p c t = true) : 0 ≤ t ∧ enabledN p c t.toNat = true := by
  unfold enabled at h
  rw [Bool.and_eq_true, decide_eq_true_eq] at h
  exact h
theorem step_th {p : Pg} {c : Cf} {t : Int} {way : Bool} {u : Nat} (hu : u < c.ths.length) (hne : (u : Int) ≠ t) : (step p c t way).ths[u]? = c.ths[u]? := by
  unfold step
  split
  · rename_i h
    have := (enabled_split h).1
    exact act_th hu (by omega)
  · rfl
theorem step_same {p : Pg} {c : Cf} {t : Int} {way : Bool} (h : enabled p c t = false) : step p c t way = c := by
  unfold step; rw [h]; rfl
theorem lives_nat (c : Cf) (u : Nat) : lives c (u : Int) = livesN c u := by simp [lives]
end Go.Proofs.Ytkhfolpffjihgaa.M
namespace Go.Proofs.Ytkhfolpffjihgaa
open Go.RowKit
def InBlock (A A2 : Option Addr) : Prop := ∀ ad, A2 = some ad → ∃ a0, A = some a0 ∧ ad.block = a0.block
theorem zR {P : Program} {ops : Array Oper} {rest : List Oper} {o : Oper} {a : Act} {w : World} {Q : Exit → Act → World → Prop} (hgd : o.guard = none) (ty : TypeId) (x lo hi : Operand) (ho : o.op = .slice ty x (some lo) (some hi) none)
    (e : TypeId) (hu : P.underlying ty = some (.slice e)) (hsz : (P.info? e).map (·.size) = some 1) (A : Option Addr) (n c : Nat) (hx : a.eval x = .slice A n c) (k k2 : IntKind) (l m : Nat) (hl : a.eval lo = .int k (l : Int)) (hh : a.eval hi = .int k2 (m : Int)) (hlm : l ≤ m) (hmn : m ≤ n) (hnc : n ≤ c)
    (h : ∀ A2, InBlock A A2 → (∀ {α : Type} (f : α → Value) (w2 : World) (B : Nat) (xs : List α), Row f w2 B A n xs → Row f w2 B A2 (m - l) ((xs.take m).drop l)) → wpList P ops Q rest (a.put o.dst (.slice A2 (m - l) (c - l))) w) : wpList P ops Q (o :: rest) a w := by
  refine wpList_plain hgd fun K hK => ?_
  have hel : P.elem ty = e := by simp [Program.elem, hu]
  have h1 := run_slice_lh (P := P) w ty A n c (by rw [hel]; exact hu) k k2 (l : Int) (m : Int) (by omega) (by omega) (by omega)
  have h2 := run_sliceAt_slice (P := P) w ty (.slice A n c) (some (.int k (l : Int))) (some (.int k2 (m : Int))) none (by rw [hel]; exact hu)
  rw [h1] at h2
  cases hq : P.info? e with
  | none => simp [hq] at hsz
  | some ie =>
    have hs : ie.size = 1 := by simpa [hq] using hsz
    have hso : (sizeOf e).run P w = .ok 1 w := by simp [sizeOf, typeInfo, hq, hs]
    have hk := hK _ _ (h (if c = l then A else A.map (·.add l)) (by
      intro ad had
      split at had
      · exact ⟨ad, had, rfl⟩
      · cases A with
        | none => cases had
        | some a0 => cases had; exact ⟨a0, rfl, j8 a0 l⟩) (by
      intro α f w2 B xs hr
      have hr2 := hr.take hmn
      split
      · rename_i hcl
        exact Row.none_ (List.drop_of_length_le (by rw [hr2.len]; omega)) (by omega)
      · cases A with
        | none =>
          have hn0 : n = 0 := by
            rcases Nat.eq_zero_or_pos n with h0 | h0
            · exact h0
            · obtain ⟨_, h, _⟩ := hr.cells h0; cases h
          exact Row.none_ (List.drop_of_length_le (by rw [hr2.len]; omega)) (by omega)
        | some a0 => exact hr2.cutAt hlm))
    unfold Oper.wp execOp
    simp only [ho, hx, hl, hh, Option.map_some, Option.map_none, h2, Sem.run_bind, Sem.run_pure, hel, hso, sliced, Result.andThen_ok, Int.toNat_natCast, Nat.mul_one]
    exact hk
end Go.Proofs.Ytkhfolpffjihgaa
