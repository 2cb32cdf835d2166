/- A slice of picks that comes in as an argument. -/
import Derived.Test.YtkhfolpffjihgaaPk3
import Derived.Test.YtkhfolpffjihgaaPk26
namespace Go.Proofs.Ytkhfolpffjihgaa
open Go.ChangeShapes Go.WideShapes Go.RowKit Go.Deep
section
variable {H : Type} {enc : TypeId × Value → H} {P : Program} {w : World} {base : Nat} {held : Bool}
theorem cell_boolP {t : TypeId} {v : Value} {fuel : Nat} {y : DataW H × List MemPlace} (ht : P.underlying t = some .bool) (h : DataW.trod enc P w base (fun _ => true) held fuel t [v] = some y) : ∃ b : Bool, v = .bool b := by
  obtain ⟨b, hn, _⟩ := DataW.trod_bool ht h
  simp at hn
  exact ⟨b, hn⟩
theorem yL {t e : TypeId} {f0 f1 : Field} {a : Option Addr} {len cap : Nat} {d : DataW H} {ps : List MemPlace} (ht : P.underlying t = some (.slice e)) (he : P.underlying e = some (.struct #[f0, f1]))
    (hone : oneCellFields P #[f0, f1] = true) (hC : P.cellsOf e = 2) (h0 : P.underlying f0.type = some (.int .i64)) (h1 : P.underlying f1.type = some .bool)
    (h : DataW.Trod enc P w base (fun _ => true) held t (.slice a len cap) d ps) : ∃ l : List (Int × Bool), Picks w w.heap.size a len l ∧ len ≤ cap ∧ cap ≤ maxLen := by
  obtain ⟨hl, hm, hnil, hsome, hall⟩ := open_recs (a := a) (len := len) (cap := cap) ht he hone hC h
  rcases Nat.eq_zero_or_pos len with h00 | h00
  · exact ⟨[], ⟨⟨h00.symm ▸ rfl, fun h => absurd (show 0 < len from h) (by omega)⟩, by simp⟩, hl, hm⟩
  · obtain ⟨ad, rfl⟩ := hsome h00
    obtain ⟨V, hV⟩ := hall ad rfl
    have each : ∀ i, i < len → ∃ x : Int × Bool, I64 x.1 ∧ ∀ j, j < 2 → w.cell? (ad.add (i * 2 + j)) = some (pkV x j) := by
      intro i hi
      obtain ⟨c0, _, _, g0⟩ := hV i hi 0 f0 rfl
      obtain ⟨c1, _, _, g1⟩ := hV i hi 1 f1 rfl
      obtain ⟨n0, e0, w0⟩ := x6 h0 g0
      obtain ⟨b1, e1⟩ := cell_boolP h1 g1
      refine ⟨⟨n0, b1⟩, qO w0, fun j hj => ?_⟩
      match j, hj with
      | 0, _ => rw [show pkV _ 0 = Value.int .i64 n0 from rfl, ← e0]; exact c0
      | 1, _ => rw [show pkV _ 1 = Value.bool b1 from rfl, ← e1]; exact c1
    obtain ⟨X, hX⟩ := choose_lt each
    refine ⟨(List.range len).map X, ⟨⟨by simp, fun _ => ⟨ad, rfl, ?_, fun k x hx j hj => ?_⟩⟩, fun x hx => ?_⟩, hl, hm⟩
    · have := xK ((hX 0 h00).2 0 (by omega))
      rwa [j8] at this
    · have hk : k < len := by have := (List.getElem?_eq_some_iff.1 hx).1; simpa using this
      rw [List.getElem?_map, List.getElem?_range hk] at hx
      cases hx
      exact (hX k hk).2 j hj
    · obtain ⟨i, hi, rfl⟩ := List.mem_map.1 hx
      exact (hX i (List.mem_range.1 hi)).1
end
end Go.Proofs.Ytkhfolpffjihgaa
