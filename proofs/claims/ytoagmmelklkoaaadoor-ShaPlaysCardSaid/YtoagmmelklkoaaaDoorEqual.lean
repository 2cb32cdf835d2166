/- Arrays of integers compared: one with itself. -/
import Derived.Test.YtoagmmelklkoaaaDoorArr
import Derived.Laws.StructEq
namespace Go.Proofs.YtoagmmelklkoaaaDoor
open Go.RowKit

theorem forIn_same {P : Program} {w : World} {β : Type} (body : Nat → β → Sem (ForInStep β)) (s : β) : ∀ (l : List Nat), (∀ i ∈ l, (body i s).run P w = .ok (.yield s) w) → (forIn l s body).run P w = .ok s w
  | [], _ => by simp
  | i :: r, h => by
    rw [List.forIn_cons, Sem.run_bind, h i (by simp)]
    simp only [Result.andThen_ok]
    exact forIn_same body s r fun j hj => h j (by simp [hj])

theorem run_equal_arr {P : Program} (w : World) (d : Nat) (t e : TypeId) (n : Nat) (k k2 : IntKind) (ht : P.underlying t = some (.array n e)) (he : P.underlying e = some (.int k2)) (hsz : (P.info? e).map (·.size) = some 1) (vs : List Int) (hl : vs.length = n) :
    (Op.equalIn (d + 2) t (.agg (vs.map (Value.int k)).toArray) (.agg (vs.map (Value.int k)).toArray)).run P w = .ok true w := by
  have hagg : (isAgg e).run P w = .ok false w := by
    unfold isAgg
    rw [Sem.run_bind, run_underlying he w]; rfl
  cases hq : P.info? e with
  | none => simp [hq] at hsz
  | some ie =>
    have hs : ie.size = 1 := by simpa [hq] using hsz
    have hso : (sizeOf e).run P w = .ok 1 w := by simp [sizeOf, typeInfo, hq, hs]
    unfold Op.equalIn
    simp only [Sem.run_bind, run_underlying ht w, Result.andThen_ok, hso, Std.Legacy.Range.forIn_eq_forIn_range']
    rw [forIn_same]
    · rfl
    · intro i hi
      have hin : i < vs.length := by
        simp [Std.Legacy.Range.size] at hi
        omega
      simp [part, hagg, hin, run_equalIn_int w d e k k2 _ _ he]
/-- The comparison of such an array with itself. -/
theorem wpList_eql_arr {P : Program} {ops : Array Oper} {rest : List Oper} {o : Oper} {a : Act} {w : World} {Q : Exit → Act → World → Prop} (hgd : o.guard = none) (t u : TypeId) (x y : Operand) (ho : o.op = .binOp .eql t x y u)
    (n : Nat) (e : TypeId) (k k2 : IntKind) (ht : P.underlying t = some (.array n e)) (he : P.underlying e = some (.int k2)) (hsz : (P.info? e).map (·.size) = some 1) (hm : P.eqGuardType P.depth t = false)
    (vs : List Int) (hl : vs.length = n) (hx : a.eval x = .agg (vs.map (Value.int k)).toArray) (hy : a.eval y = .agg (vs.map (Value.int k)).toArray) (h : wpList P ops Q rest (a.put o.dst (.bool true)) w) : wpList P ops Q (o :: rest) a w := by
  refine wpList_plain hgd fun K hK => ?_
  unfold Oper.wp execOp
  simp only [ho, hx, hy, Sem.run_bind, run_eqGuard_agg w .eql t x y _ _ hm, run_eql_struct w t _ _, run_equal_arr w 9998 t e n k k2 ht he hsz vs hl, Result.andThen_ok, Sem.run_pure]
  exact hK _ _ h
/-- The same, where they are asked to be unlike. -/
theorem wpList_neq_arr {P : Program} {ops : Array Oper} {rest : List Oper} {o : Oper} {a : Act} {w : World} {Q : Exit → Act → World → Prop} (hgd : o.guard = none) (t u : TypeId) (x y : Operand) (ho : o.op = .binOp .neq t x y u)
    (n : Nat) (e : TypeId) (k k2 : IntKind) (ht : P.underlying t = some (.array n e)) (he : P.underlying e = some (.int k2)) (hsz : (P.info? e).map (·.size) = some 1) (hm : P.eqGuardType P.depth t = false)
    (vs : List Int) (hl : vs.length = n) (hx : a.eval x = .agg (vs.map (Value.int k)).toArray) (hy : a.eval y = .agg (vs.map (Value.int k)).toArray) (h : wpList P ops Q rest (a.put o.dst (.bool false)) w) : wpList P ops Q (o :: rest) a w := by
  refine wpList_plain hgd fun K hK => ?_
  unfold Oper.wp execOp
  simp only [ho, hx, hy, Sem.run_bind, run_eqGuard_agg w .neq t x y _ _ hm, run_neq_struct w t _ _, run_equal_arr w 9998 t e n k k2 ht he hsz vs hl, Result.andThen_ok, Sem.run_pure]
  exact hK _ _ h
/-- The comparison of such an array with itself, under a guard. -/
theorem wpList_eql_arr_want {P : Program} {ops : Array Oper} {rest : List Oper} {o : Oper} {a : Act} {w : World} {Q : Exit → Act → World → Prop} (hgd : Region.wanted o (yielded ops a.tmps) = true) (t u : TypeId) (x y : Operand) (ho : o.op = .binOp .eql t x y u)
    (n : Nat) (e : TypeId) (k k2 : IntKind) (ht : P.underlying t = some (.array n e)) (he : P.underlying e = some (.int k2)) (hsz : (P.info? e).map (·.size) = some 1) (hm : P.eqGuardType P.depth t = false)
    (vs : List Int) (hl : vs.length = n) (hx : a.eval x = .agg (vs.map (Value.int k)).toArray) (hy : a.eval y = .agg (vs.map (Value.int k)).toArray) (h : wpList P ops Q rest (a.put o.dst (.bool true)) w) : wpList P ops Q (o :: rest) a w := by
  refine BigFrame.wpList_want hgd fun K hK => ?_
  unfold Oper.wp execOp
  simp only [ho, hx, hy, Sem.run_bind, run_eqGuard_agg w .eql t x y _ _ hm, run_eql_struct w t _ _, run_equal_arr w 9998 t e n k k2 ht he hsz vs hl, Result.andThen_ok, Sem.run_pure]
  exact hK _ _ h
end Go.Proofs.YtoagmmelklkoaaaDoor
