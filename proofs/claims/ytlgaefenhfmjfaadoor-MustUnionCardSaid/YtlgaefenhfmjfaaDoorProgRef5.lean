/- The document's own checking of programs, walked: Check. -/
import Derived.Test.YtlgaefenhfmjfaaDoorProgRef2
import Derived.Test.YtlgaefenhfmjfaaDoorProgRef4
import Derived.Test.YtlgaefenhfmjfaaDoorPu2
namespace Go.Proofs.YtlgaefenhfmjfaaDoor
open Go.RowKit
theorem qZ {p : Pg} {a b a' b' : Int} {c c' : Nat} (h : Q.check p = (a,b,c)) (h' : Q.check p = (a',b',c')) : Ending.returned (.tuple #[.int .i64 a',.int .i64 b',.int .i64 (c' : Int)]) = Ending.returned (.tuple #[.int .i64 a,.int .i64 b,.int .i64 (c : Int)]):=by
  rw [h] at h'
  injection h' with h1 h2
  injection h2 with h2 h3
  rw [h1,h2,h3]
theorem jZ : (Tryd.prog.info? 63).map (·.zero) = some (some (.agg (ndC ⟨0,0,0,0⟩).toArray)):=by kernel_rfl
theorem jE : (Tryd.prog.info? 63).map (·.size) = some 4:=by kernel_rfl
theorem l0 (x : Nd) : ∀ u ∈ ndC x,u.oneCell' = true:=by
  intro u hu
  simp only [ndC,List.mem_cons,List.not_mem_nil,or_false] at hu
  rcases hu with h | h | h | h <;> subst h <;> rfl
theorem vA {g l s f : Int} {x : Nd} {nodes : Int} (h : Q.may g l s f x nodes = true) (h7 : x.kind = 7) : 0 ≤ x.arg ∧ x.arg < f:=by
  unfold Q.may at h
  rw [Bool.and_eq_true] at h
  have h0:=List.all_eq_true.1 h.2 0 (by simp)
  have h1 : Q.row x.kind = [102,110,45]:=by rw [h7];rfl
  rw [h1] at h0
  simpa [Q.fields,Q.size] using h0
theorem zA {p : Pg} (h : ∀ j,j < p.fns.length → ¬ Q.badFn p j) : Q.CallsFit p:=by
  intro fn hfn nd hnd h7
  obtain ⟨j,hj,e⟩:=List.getElem_of_mem hfn
  have hx : p.fns[j]? = some fn:=by rw [List.getElem?_eq_getElem hj,e]
  obtain ⟨_,_,h3⟩:=Q.fine_fn hx (h j hj)
  obtain ⟨i,hi,e2⟩:=List.getElem_of_mem hnd
  have hy : fn.nodes[i]? = some nd:=by rw [List.getElem?_eq_getElem hi,e2]
  exact vA (h3 i nd hy) h7
end Go.Proofs.YtlgaefenhfmjfaaDoor
