/- What all layers' walks share: how numbers lie in cells, what the types' rows say. -/
import Derived.Test.YtfifnahcobjjdaaDoorRows
import Derived.Test.YtfifnahcobjjdaaDoorBase
namespace Go.Proofs.YtfifnahcobjjdaaDoor
open Go.RowKit

/-- A word as a cell holds it. -/
def wordV (n : Nat) : Value := .int .u32 (n : Int)
theorem wordV_def (n : Nat) : wordV n = .int .u32 (n : Int) := rfl
/-- An id, and any number, as a cell holds it. -/
def natV (n : Nat) : Value := .int .i64 (n : Int)
theorem natV_def (n : Nat) : natV n = .int .i64 (n : Int) := rfl
def intV (n : Int) : Value := .int .i64 n
theorem intV_def (n : Int) : intV n = .int .i64 n := rfl
theorem one_byteV (b : Nat) : (byteV b).oneCell' = true := rfl
theorem one_wordV (b : Nat) : (wordV b).oneCell' = true := rfl
theorem one_natV (n : Nat) : (natV n).oneCell' = true := rfl
theorem one_intV (n : Int) : (intV n).oneCell' = true := rfl
theorem ret_bool {a b : Bool} (h : a = b) : Ending.returned (.bool a) = Ending.returned (.bool b) := by rw [h]

theorem below_drewN {B : Nat} {a w : World} (h : Below B a w) (n : Nat) : Below B a (w.drewN n) := ⟨h.os, h.tape, h.output, h.size, h.block⟩

theorem nat_u32 {x : Int} (h : (Lit.int .u32 x).wf = true) : ∃ n : Nat, x = (n : Int) ∧ n < 4294967296 := by
  have := u32_range x h
  exact ⟨x.toNat, by omega, by omega⟩
theorem int_i64 {x : Int} (h : (Lit.int .i64 x).wf = true) : -9223372036854775808 ≤ x ∧ x ≤ 9223372036854775807 := by
  simp [Lit.wf, IntKind.min, IntKind.max, IntKind.bits, IntKind.signed] at h; omega
/-- A slice of ints that came in reads as a list. -/
theorem IsRow.ints {w : World} {a : Option Addr} {len cap : Nat} {zs : List Int} (h : IsRow .i64 w a len cap zs) :
    ∃ l : List Int, Row intV w w.heap.size a len l ∧ (∀ x ∈ l, -9223372036854775808 ≤ x ∧ x ≤ 9223372036854775807) ∧ len ≤ maxLen ∧ len ≤ cap ∧ cap ≤ maxLen := by
  rcases h with ⟨rfl, rfl, rfl, rfl⟩ | ⟨x, rfl, hl, hm, hz, hc, hw⟩
  · exact ⟨[], ⟨rfl, fun h => by omega⟩, by simp, by simp [maxLen], by omega, by simp [maxLen]⟩
  · refine ⟨zs.take len, ⟨by simp; omega, fun h0 => ⟨x, rfl, ?_, fun k hk => ?_⟩⟩, ?_, by omega, hl, hm⟩
    · have := cell_block (hc 0 (by omega))
      rwa [add_block] at this
    · rw [hc k (by omega)]
      have hk2 : k < zs.length := by omega
      rw [List.getElem?_take, if_pos hk, List.getElem?_eq_getElem hk2, List.getD_eq_getElem?_getD, List.getElem?_eq_getElem hk2]
      rfl
    · intro y hy
      exact int_i64 (hw y (List.mem_of_mem_take hy))

theorem byte_info : (Tryd.prog.info? 5).map (fun i => (i.zero, i.size, i.bytes)) = some (some (.int .u8 0), 1, 1) := by kernel_rfl

theorem word_info : (Tryd.prog.info? 25).map (fun i => (i.zero, i.size, i.bytes)) = some (some (.int .u32 0), 1, 4) := by kernel_rfl

theorem int_info : (Tryd.prog.info? 3).map (fun i => (i.zero, i.size, i.bytes)) = some (some (.int .i64 0), 1, 8) := by kernel_rfl

theorem size1b : (Tryd.prog.info? 5).map (·.size) = some 1 := by kernel_rfl

theorem size1w : (Tryd.prog.info? 25).map (·.size) = some 1 := by kernel_rfl

theorem size1i : (Tryd.prog.info? 3).map (·.size) = some 1 := by kernel_rfl
end Go.Proofs.YtfifnahcobjjdaaDoor
