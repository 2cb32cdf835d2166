/- Whom functions come to by calls, as the document makes it, walked: Calls. -/
import Derived.Test.YtfifnahcobjjdaaDoorProgRef1
import Derived.Test.YtfifnahcobjjdaaDoorMat
namespace Go.Proofs.YtfifnahcobjjdaaDoor
open Go.RowKit

theorem slice_info : (Tryd.prog.info? 31).map (fun i => (i.zero, i.size, i.bytes)) = some (some (.slice none 0 0), 1, 24) := by kernel_rfl
theorem getD_at {α : Type} {l : List α} {k : Nat} {x d : α} (h : l[k]? = some x) : l.getD k d = x := by rw [List.getD_eq_getElem?_getD, h]; rfl
theorem callsTo_snoc (l : List Nd) (i : Nat) (x : Nd) (h : l[i]? = some x) (y : Nat) : Q.callsTo (l.take (i + 1)) y ↔ Q.callsTo (l.take i) y ∨ (x.kind = 7 ∧ x.arg = (y : Int)) := by
  unfold Q.callsTo
  rw [List.take_add_one, h]
  constructor
  · rintro ⟨nd, hnd, h1⟩
    rcases List.mem_append.1 hnd with hm | hm
    · exact .inl ⟨nd, hm, h1⟩
    · rw [Option.toList_some, List.mem_singleton] at hm
      subst hm
      exact .inr h1
  · rintro (⟨nd, hnd, h1⟩ | h1)
    · exact ⟨nd, List.mem_append.2 (.inl hnd), h1⟩
    · exact ⟨x, List.mem_append.2 (.inr (by simp)), h1⟩
theorem mget_snoc (M : List (List Nat)) (r : List Nat) (x y : Nat) : Q.mget (M ++ [r]) x y = if x < M.length then Q.mget M x y else if x = M.length then r.getD y 0 else 0 := by
  unfold Q.mget
  by_cases h1 : x < M.length
  · rw [if_pos h1, List.getD_eq_getElem?_getD (l := M ++ [r]), List.getElem?_append_left h1, ← List.getD_eq_getElem?_getD]
  · rw [if_neg h1]
    by_cases h2 : x = M.length
    · rw [if_pos h2, List.getD_eq_getElem?_getD (l := M ++ [r]), List.getElem?_append_right (by omega), h2, Nat.sub_self]
      rfl
    · rw [if_neg h2, List.getD_eq_getElem?_getD (l := M ++ [r]), List.getElem?_eq_none (by simp; omega)]
      rfl
theorem set_one (r : List Nat) (k y : Nat) (hk : k < r.length) : (r.set k 1).getD y 0 = 1 ↔ r.getD y 0 = 1 ∨ k = y := by
  by_cases h : k = y
  · subst h
    rw [List.getD_eq_getElem?_getD, List.getElem?_set_self hk]
    simp
  · rw [List.getD_eq_getElem?_getD, List.getElem?_set_ne h, ← List.getD_eq_getElem?_getD]
    simp [h]
end Go.Proofs.YtfifnahcobjjdaaDoor
