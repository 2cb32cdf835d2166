/- Strings: a part, two joined. -/
import Derived.Test.YtoagmmelklkoaaaDoorSlice
import Derived.Laws.Strings2
import Derived.Laws.Concat
namespace Go.Proofs.YtoagmmelklkoaaaDoor
open Go.RowKit

/-- s[i:j] of a string. -/
theorem wpList_slice_str {P : Program} {ops : Array Oper} {rest : List Oper} {o : Oper} {a : Act} {w : World} {Q : Exit → Act → World → Prop} (hgd : o.guard = none) (ty : TypeId) (x lo hi : Operand) (ho : o.op = .slice ty x (some lo) (some hi) none)
    (hu : P.underlying ty = some .string) (s : ByteArray) (hx : a.eval x = .string s) (k k' : IntKind) (i j : Nat) (hl : a.eval lo = .int k (i : Int)) (hh : a.eval hi = .int k' (j : Int)) (hij : i ≤ j) (hj : j ≤ s.size)
    (t : ByteArray) (ht : s.extract i j = t) (h : wpList P ops Q rest (a.put o.dst (.string t)) w) : wpList P ops Q (o :: rest) a w := by
  refine wpList_plain hgd fun K hK => ?_
  subst ht
  have h1 := run_slice_string (P := P) w ty s k k' (i : Int) (j : Int) hu (by omega) (by omega) (by omega)
  have h2 := run_sliceAt_string (P := P) w ty (.string s) (some (.int k (i : Int))) (some (.int k' (j : Int))) none hu
  rw [h1] at h2
  unfold Oper.wp execOp
  simp only [ho, hx, hl, hh, Option.map_some, Option.map_none, h2, Sem.run_bind, Sem.run_pure, Result.andThen_ok, Int.toNat_natCast]
  exact hK _ _ h
theorem size_part (s : ByteArray) (i j : Nat) (h : i ≤ j) (hj : j ≤ s.size) : (s.extract i j).size = j - i := by simp; omega
end Go.Proofs.YtoagmmelklkoaaaDoor
