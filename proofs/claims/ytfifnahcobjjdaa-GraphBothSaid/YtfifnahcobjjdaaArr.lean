/- Arrays and structs of many cells, made whole: no cell of them is looked at. -/
import Derived.Test.YtfifnahcobjjdaaMem
namespace Go.Proofs.Ytfifnahcobjjdaa
open Go.RowKit

/-- A new variable of many cells, all zero. -/
theorem wpList_alloc_zero {P : Program} {ops : Array Oper} {rest : List Oper} {o : Oper} {a : Act} {w : World} {Q : Exit → Act → World → Prop} (hgd : o.guard = none) (ty : TypeId) (ho : o.op = .alloc ty)
    (cs : List Value) (hz : (P.info? ty).map (·.zero) = some (some (.agg cs.toArray)))
    (h : ∀ g w', w.heap.size ≤ g → Blk w' g ty cs → Below w.heap.size w w' → wpList P ops Q rest (a.put o.dst (.pointer (some ⟨g, 0, none⟩))) w') : wpList P ops Q (o :: rest) a w := by
  refine wpList_plain hgd fun K hK => ?_
  cases hq : P.info? ty with
  | none => simp [hq] at hz
  | some i =>
    have hz' : i.zero = some (.agg cs.toArray) := by simpa [hq] using hz
    unfold Oper.wp
    simp [execOp, ho, Instr.alloc, zeroValue, typeInfo, hq, hz', newVar, newRow, Value.cells, Result.andThen]
    exact hK _ _ (h _ _ (Nat.le_refl _) (Blk.newAt rfl rfl) ((Below.refl _ _).alloc (Nat.le_refl _) _))
/-- A zero array as a value. -/
theorem wpList_build_zero {P : Program} {ops : Array Oper} {rest : List Oper} {o : Oper} {a : Act} {w : World} {Q : Exit → Act → World → Prop} (hgd : o.guard = none) (ty : TypeId) (ho : o.op = .build ty #[])
    (cs : List Value) (n : Nat) (e : TypeId) (hu : P.underlying ty = some (.array n e)) (he : ((P.info? e).map (·.size)).isSome = true) (hz : (P.info? ty).map (·.zero) = some (some (.agg cs.toArray)))
    (h : wpList P ops Q rest (a.put o.dst (.agg cs.toArray)) w) : wpList P ops Q (o :: rest) a w := by
  refine wpList_plain hgd fun K hK => ?_
  cases hq : P.info? ty with
  | none => simp [hq] at hz
  | some i =>
    have hz' : i.zero = some (.agg cs.toArray) := by simpa [hq] using hz
    cases hqe : P.info? e with
    | none => simp [hqe] at he
    | some ie =>
      unfold Oper.wp
      simp [execOp, ho, Instr.build, zeroValue, typeInfo, sizeOf, hq, hqe, hz', run_underlying hu, Instr.fill, Value.cells, Result.andThen]
      exact hK _ _ h
/-- A value of many cells in a variable of its own. -/
theorem wpList_box_agg {P : Program} {ops : Array Oper} {rest : List Oper} {o : Oper} {a : Act} {w : World} {Q : Exit → Act → World → Prop} (hgd : o.guard = none) (ty : TypeId) (x : Operand) (ho : o.op = .box ty x)
    (cs : List Value) (hx : a.eval x = .agg cs.toArray)
    (h : ∀ g w', w.heap.size ≤ g → Blk w' g ty cs → Below w.heap.size w w' → wpList P ops Q rest (a.put o.dst (.pointer (some ⟨g, 0, none⟩))) w') : wpList P ops Q (o :: rest) a w := by
  refine wpList_plain hgd fun K hK => ?_
  unfold Oper.wp
  simp [execOp, ho, hx, Instr.box, newVar, newRow, Value.cells, Result.andThen]
  exact hK _ _ (h _ _ (Nat.le_refl _) (Blk.newAt rfl rfl) ((Below.refl _ _).alloc (Nat.le_refl _) _))
/-- An element of an array that is a value. -/
theorem wpList_index_agg {P : Program} {ops : Array Oper} {rest : List Oper} {o : Oper} {a : Act} {w : World} {Q : Exit → Act → World → Prop} (hgd : o.guard = none) (ty : TypeId) (x ix : Operand) (ho : o.op = .index ty x ix)
    (n : Nat) (e : TypeId) (hu : P.underlying ty = some (.array n e)) (d : TypeDesc) (hd : P.underlying e = some d) (hna : (match d with | .struct _ | .array _ _ => false | _ => true) = true) (hsz : (P.info? e).map (·.size) = some 1)
    (cs : List Value) (hx : a.eval x = .agg cs.toArray) (i : Nat) (hi : a.eval ix = .int .i64 (i : Int)) (hin : i < n) (v : Value) (hv : cs[i]? = some v)
    (h : wpList P ops Q rest (a.put o.dst v) w) : wpList P ops Q (o :: rest) a w := by
  refine wpList_plain hgd fun K hK => ?_
  have hagg : (isAgg e).run P w = .ok false w := by
    unfold isAgg
    rw [Sem.run_bind, run_underlying hd w]
    cases d <;> simp_all
  cases hq : P.info? e with
  | none => simp [hq] at hsz
  | some ie =>
    have hs : ie.size = 1 := by simpa [hq] using hsz
    unfold Oper.wp
    simp [execOp, ho, Instr.index, hx, hi, asIntOf, run_underlying hu, hin, sizeOf, typeInfo, hq, hs, part, hagg, hv, Result.andThen]
    exact hK _ _ h
end Go.Proofs.Ytfifnahcobjjdaa
