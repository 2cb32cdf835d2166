/- Whom functions come to by calls, as the document makes it, walked: Calls. -/
import Derived.Test.YtlgaefenhfmjfaaDoorPu1
import Derived.Test.YtlgaefenhfmjfaaDoorPu2
namespace Go.Proofs.YtlgaefenhfmjfaaDoor
open Go.RowKit
theorem zL (l : List Nd) (i : Nat) (x : Nd) (h : l[i]? = some x) (y : Nat) : Q.callsTo (l.take (i + 1)) y ↔ Q.callsTo (l.take i) y ∨ (x.kind = 7 ∧ x.arg = (y : Int)):=by
  unfold Q.callsTo
  rw [List.take_add_one,h]
  constructor
  · rintro ⟨nd,hnd,h1⟩
    rcases List.mem_append.1 hnd with hm | hm
    · exact .inl ⟨nd,hm,h1⟩
    · rw [Option.toList_some,List.mem_singleton] at hm
      subst hm
      exact .inr h1
  · rintro (⟨nd,hnd,h1⟩ | h1)
    · exact ⟨nd,List.mem_append.2 (.inl hnd),h1⟩
    · exact ⟨x,List.mem_append.2 (.inr (by simp)),h1⟩
end Go.Proofs.YtlgaefenhfmjfaaDoor
