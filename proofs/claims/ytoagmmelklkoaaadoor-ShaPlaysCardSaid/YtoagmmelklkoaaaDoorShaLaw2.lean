/- The digest of one slice, as the statements ask it. -/
import Derived.Test.YtoagmmelklkoaaaDoorShaLaw1
import Derived.Test.YtoagmmelklkoaaaDoorEqual
namespace Go.Proofs.YtoagmmelklkoaaaDoor
open Go.RowKit

theorem of_lit (A : Option Addr) (n c B : Nat) (bs : List Nat) (W : World) (hr : Row byteV W B A n bs) (hB : B ≤ W.heap.size) (hb : ∀ x ∈ bs, x < 256) (hnc : n ≤ c) (hk : Row wordV W 1 (some ⟨0, 0, none⟩) 64 H.K) (hm : bs.length ≤ 900000000) (dig : List Nat) (hd : H.digest bs = dig) :
    Calls Tryd.prog 8 #[.slice (some ⟨W.heap.size, 0, none⟩) 1 1] (W.alloc (.cells #[.slice A n c] 22)) fun e w' => e = .returned (.agg (dig.map byteV).toArray) ∧ Below W.heap.size W w' := by
  have hal : Below W.heap.size W (W.alloc (.cells #[.slice A n c] 22)) := (Below.refl _ _).alloc (Nat.le_refl _) _
  have hk1 := keys_size hk
  have hok : Part.Ok ⟨A, n, c, bs⟩ (W.alloc (.cells #[.slice A n c] 22)) (W.alloc (.cells #[.slice A n c] 22)).heap.size :=
    ⟨(hr.below (hal.mono hB)).more (by simp; omega), hb, hnc⟩
  refine (of_any _ 1 1 _ [⟨A, n, c, bs⟩] _ (Row.madeF partV W [⟨A, n, c, bs⟩] _ rfl 22 (0, 0) _ 1 rfl rfl) (Nat.le_refl _) (only_ok hok) (hk.below (hal.mono hk1)) (by omega) (by simpa [joined] using hm) dig (by simpa [joined] using hd)).mono ?_
  rintro e w' ⟨he, hw⟩
  exact ⟨he, hal.trans (hw.mono hal.size)⟩
theorem dig_ints (dig : List Nat) : (Value.agg (dig.map byteV).toArray) = .agg ((dig.map fun n : Nat => (n : Int)).map (Value.int .u8)).toArray := by rw [List.map_map]; rfl
theorem eq32 : Tryd.prog.eqGuardType Tryd.prog.depth 24 = false := by kernel_rfl

/-- Two digests that are one are told to be so. -/
theorem wpList_eql_dig {ops : Array Oper} {rest : List Oper} {o : Oper} {a : Act} {w : World} {Q : Exit → Act → World → Prop} (hgd : o.guard = none) (x y : Operand) (u : TypeId) (ho : o.op = .binOp .eql 24 x y u) (dig : List Nat) (hl : dig.length = 32)
    (hx : a.eval x = .agg (dig.map byteV).toArray) (hy : a.eval y = .agg (dig.map byteV).toArray) (h : wpList Tryd.prog ops Q rest (a.put o.dst (.bool true)) w) : wpList Tryd.prog ops Q (o :: rest) a w :=
  wpList_eql_arr hgd 24 u x y ho 32 5 .u8 .u8 Tryd.underlying24 Tryd.underlying5 size1b eq32 (dig.map fun n : Nat => (n : Int)) (by rw [List.length_map]; exact hl) (hx.trans (dig_ints dig)) (hy.trans (dig_ints dig)) h
theorem wpList_neq_dig {ops : Array Oper} {rest : List Oper} {o : Oper} {a : Act} {w : World} {Q : Exit → Act → World → Prop} (hgd : o.guard = none) (x y : Operand) (u : TypeId) (ho : o.op = .binOp .neq 24 x y u) (dig : List Nat) (hl : dig.length = 32)
    (hx : a.eval x = .agg (dig.map byteV).toArray) (hy : a.eval y = .agg (dig.map byteV).toArray) (h : wpList Tryd.prog ops Q rest (a.put o.dst (.bool false)) w) : wpList Tryd.prog ops Q (o :: rest) a w :=
  wpList_neq_arr hgd 24 u x y ho 32 5 .u8 .u8 Tryd.underlying24 Tryd.underlying5 size1b eq32 (dig.map fun n : Nat => (n : Int)) (by rw [List.length_map]; exact hl) (hx.trans (dig_ints dig)) (hy.trans (dig_ints dig)) h
theorem wpList_eql_dig_want {ops : Array Oper} {rest : List Oper} {o : Oper} {a : Act} {w : World} {Q : Exit → Act → World → Prop} (hgd : Region.wanted o (yielded ops a.tmps) = true) (x y : Operand) (u : TypeId) (ho : o.op = .binOp .eql 24 x y u) (dig : List Nat) (hl : dig.length = 32)
    (hx : a.eval x = .agg (dig.map byteV).toArray) (hy : a.eval y = .agg (dig.map byteV).toArray) (h : wpList Tryd.prog ops Q rest (a.put o.dst (.bool true)) w) : wpList Tryd.prog ops Q (o :: rest) a w :=
  wpList_eql_arr_want hgd 24 u x y ho 32 5 .u8 .u8 Tryd.underlying24 Tryd.underlying5 size1b eq32 (dig.map fun n : Nat => (n : Int)) (by rw [List.length_map]; exact hl) (hx.trans (dig_ints dig)) (hy.trans (dig_ints dig)) h
end Go.Proofs.YtoagmmelklkoaaaDoor
