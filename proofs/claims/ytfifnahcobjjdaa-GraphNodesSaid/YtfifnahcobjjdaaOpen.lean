/- Arguments, opened: what the walks are told of them. -/
import Derived.Test.YtfifnahcobjjdaaBase
import Derived.Deep.Grids
import Derived.Deep.Matrix
namespace Go.Proofs.Ytfifnahcobjjdaa
open Go.ChangeShapes Go.WideShapes Go.RowKit Go.Deep

def boolV (b : Bool) : Value := .bool b
theorem boolV_def (b : Bool) : boolV b = .bool b := rfl

/-- A row out of an index function. -/
theorem row_of_fn {α : Type} {f : α → Value} {w : World} {a : Addr} {n : Nat} (g : Nat → α) (hc : ∀ i, i < n → w.cell? (a.add i) = some (f (g i))) : Row f w w.heap.size (some a) n ((List.range n).map g) :=
  ⟨by simp, fun h0 => ⟨a, rfl, by have := cell_block (hc 0 h0); rwa [add_block] at this, fun k hk => by rw [hc k hk, List.getElem?_map, List.getElem?_range hk]; rfl⟩⟩

section
variable {H : Type} {enc : TypeId × Value → H} {P : Program} {w : World} {base : Nat} {held : Bool}
/-- []bool. -/
theorem slice_bools {t e : TypeId} {a : Option Addr} {len cap : Nat} {d : DataW H} {ps : List MemPlace} (ht : P.underlying t = some (.slice e)) (he : P.underlying e = some .bool) (hc : P.cellsOf e = 1)
    (h : DataW.Trod enc P w base (fun _ => true) held t (.slice a len cap) d ps) : ∃ l : List Bool, Row boolV w w.heap.size a len l ∧ len ≤ cap ∧ cap ≤ maxLen := by
  obtain ⟨fuel, hf⟩ := h
  rcases open_bools ht he hc hf with ⟨hcs, _⟩ | ⟨x, l, c, B, hcs, _, hl, hm, _, hcell⟩
  · simp [Value.cells] at hcs
    obtain ⟨rfl, rfl, rfl⟩ := hcs
    exact ⟨[], Row.none_ rfl rfl, by omega, by simp [maxLen]⟩
  · simp [Value.cells] at hcs
    obtain ⟨rfl, rfl, rfl⟩ := hcs
    exact ⟨_, row_of_fn B fun i hi => hcell i (by omega), hl, hm⟩
/-- [][]uint8: each part, and what it reads as. -/
theorem slice_rows8 {t e q : TypeId} {a : Option Addr} {len cap : Nat} {d : DataW H} {ps : List MemPlace} (ht : P.underlying t = some (.slice e)) (he : P.underlying e = some (.slice q)) (hq : P.underlying q = some (.int .u8)) (ce : P.cellsOf e = 1) (cq : P.cellsOf q = 1)
    (h : DataW.Trod enc P w base (fun _ => true) held t (.slice a len cap) d ps) :
    ∃ l : List (Option Addr × Nat × Nat × List Nat), Row (fun p => .slice p.1 p.2.1 p.2.2.1) w w.heap.size a len l ∧ (∀ p ∈ l, Row byteV w w.heap.size p.1 p.2.1 p.2.2.2 ∧ (∀ x ∈ p.2.2.2, x < 256) ∧ p.2.1 ≤ p.2.2.1 ∧ p.2.2.1 ≤ maxLen) ∧ len ≤ cap ∧ cap ≤ maxLen := by
  obtain ⟨fuel, hf⟩ := h
  rcases open_int_rows ht he hq ce cq hf with ⟨hcs, _⟩ | ⟨x, l, c, A, L, C, Z, hcs, _, hl, hm, _, hr⟩
  · simp [Value.cells] at hcs
    obtain ⟨rfl, rfl, rfl⟩ := hcs
    exact ⟨[], Row.none_ rfl rfl, by simp, by omega, by simp [maxLen]⟩
  · simp [Value.cells] at hcs
    obtain ⟨rfl, rfl, rfl⟩ := hcs
    refine ⟨_, row_of_fn (fun i => (A i, L i, C i, ((Z i).take (L i)).map Int.toNat)) fun i hi => (hr i (by omega)).1, ?_, hl, hm⟩
    intro p hp
    obtain ⟨i, hi, rfl⟩ := List.mem_map.1 hp
    have hi' := List.mem_range.1 hi
    obtain ⟨_, h1, h2, h3, h4, h5, h6⟩ := hr i (by omega)
    have hrow : IsRow .u8 w (A i) (L i) (C i) (Z i) := by
      cases hA : A i with
      | none =>
        have h0 := h5 hA
        have hz : Z i = [] := List.eq_nil_of_length_eq_zero (by omega)
        exact .inl ⟨rfl, by omega, h0, hz⟩
      | some a' => exact .inr ⟨a', rfl, h1, h2, h3, fun k hk => (h6 a' hA).2 k (by omega), h4⟩
    obtain ⟨bs, g1, g2, _, g4, g5⟩ := hrow.bytes
    have e1 : bs = ((Z i).take (L i)).map Int.toNat := by
      rcases Nat.eq_zero_or_pos (L i) with h0 | h0
      · have := g1.len; rw [h0] at this; rw [List.eq_nil_of_length_eq_zero this, h0]; simp
      · obtain ⟨ad, ea, _, hcs⟩ := g1.cells h0
        apply List.ext_getElem?
        intro k
        by_cases hk : k < L i
        · have c1 := hcs k hk
          have c2 := (h6 ad ea).2 k (by omega)
          rw [c2] at c1
          have hkl : k < bs.length := by rw [g1.len]; exact hk
          rw [List.getElem?_eq_getElem hkl] at c1 ⊢
          rw [List.getElem?_map, List.getElem?_take, if_pos hk, List.getElem?_eq_getElem (by omega)]
          simp only [Option.map_some, Option.some.injEq] at c1 ⊢
          have hz : (Z i).getD k 0 = (Z i)[k]'(by omega) := by rw [List.getD_eq_getElem?_getD, List.getElem?_eq_getElem (by omega)]; rfl
          rw [hz, byteV_def] at c1
          injection c1 with _ c3
          omega
        · rw [List.getElem?_eq_none (by rw [g1.len]; omega), List.getElem?_eq_none (by simp; omega)]
    rw [e1] at g1 g2
    exact ⟨g1, g2, g4, g5⟩
end
end Go.Proofs.Ytfifnahcobjjdaa
