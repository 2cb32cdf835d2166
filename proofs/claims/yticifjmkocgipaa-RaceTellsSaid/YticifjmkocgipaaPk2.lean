/- Cell, Open, Recs, in one text. -/
import Derived.Test.YticifjmkocgipaaPk1
import Derived.BigQuiet
import Derived.Deep.QuietTactic
import Derived.Deep.Grids
import Derived.Deep.Matrix
import Derived.Deep.Fields
/- One cell of a block that is known whole: read, written, at a world that is a letter. -/
namespace Go.Proofs.Yticifjmkocgipaa
open Go.RowKit

theorem add_start (g k : Nat) : (⟨g, 0, none⟩ : Addr).add k = ⟨g, k, none⟩ := by unfold Addr.add; split <;> simp_all
/-- b[l:], as the walk spells it. -/
theorem Row.cutOpt {α : Type} {f : α → Value} {w : World} {B n c l : Nat} {A : Option Addr} {xs : List α} (h : Row f w B A n xs) (hl : l ≤ n) (hc : n ≤ c) :
    Row f w B (if c = l then A else A.map (·.add l)) (n - l) (xs.drop l) := by
  split
  · exact Row.none_ (List.drop_of_length_le (by rw [h.len]; omega)) (by omega)
  · cases A with
    | none =>
      have hn0 : n = 0 := by
        rcases Nat.eq_zero_or_pos n with h0 | h0
        · exact h0
        · obtain ⟨_, h, _⟩ := h.cells h0; cases h
      exact Row.none_ (List.drop_of_length_le (by rw [h.len]; omega)) (by omega)
    | some a0 => exact h.cutAt hl
theorem Row.drewN {α : Type} {f : α → Value} {w : World} {B : Nat} {A : Option Addr} {n : Nat} {l : List α} (h : Row f w B A n l) (k : Nat) : Row f (w.drewN k) B A n l := h.keep fun _ _ => rfl
/-- Below block B nothing turned, as g lies at B or above. -/
theorem Row.turned {α : Type} {f : α → Value} {w w' : World} {B n g : Nat} {A : Option Addr} {l : List α} (h : Row f w B A n l) (hg : w.grownBy w' (some g)) (hB : B ≤ w.heap.size) (hBg : B ≤ g) : Row f w' B A n l :=
  h.keep fun p hp => World.cell?_of_block (w := w) (hg.block p.block (by omega) (by intro e; cases e; omega))
theorem quiet_eq {P : Program} {f : FuncId} {args : Array Value} {w : World} {n : Nat} {v : Value}
    (h : Calls P f args (w.drewN n) fun e w' => e = .returned v ∧ w.drewN n = w') : Calls P f args (w.drewN n) fun e w'' => e = .returned v ∧ ∃ m, w'' = w.drewN m :=
  h.mono fun _ _ ⟨he, hm⟩ => ⟨he, n, hm.symm⟩
end Go.Proofs.Yticifjmkocgipaa

/- Arguments, opened: what the walks are told of them. -/
namespace Go.Proofs.Yticifjmkocgipaa
open Go.ChangeShapes Go.WideShapes Go.RowKit Go.Deep

def boolV (b : Bool) : Value := .bool b
theorem boolV_def (b : Bool) : boolV b = .bool b := rfl

/-- A row out of an index function. -/
theorem row_of_fn {α : Type} {f : α → Value} {w : World} {a : Addr} {n : Nat} (g : Nat → α) (hc : ∀ i, i < n → w.cell? (a.add i) = some (f (g i))) : Row f w w.heap.size (some a) n ((List.range n).map g) :=
  ⟨by simp, fun h0 => ⟨a, rfl, by have := cell_block (hc 0 h0); rwa [add_block] at this, fun k hk => by rw [hc k hk, List.getElem?_map, List.getElem?_range hk]; rfl⟩⟩

section
variable {H : Type} {enc : TypeId × Value → H} {P : Program} {w : World} {base : Nat} {held : Bool}
/-- []bool. -/
theorem slice_bools {t e : TypeId} {a : Option Addr} {len cap : Nat} {d : DataW H} {ps : List MemPlace} (ht : P.underlying t = some (.slice e)) (he : P.underlying e = some .bool) (hc : P.cellsOf e = 1)
    (h : DataW.Trod enc P w base (fun _ => true) held t (.slice a len cap) d ps) : ∃ l : List Bool, Row boolV w w.heap.size a len l ∧ len ≤ cap ∧ cap ≤ maxLen := by
  obtain ⟨fuel, hf⟩ := h
  rcases open_bools ht he hc hf with ⟨hcs, _⟩ | ⟨x, l, c, B, hcs, _, hl, hm, _, hcell⟩
  · simp [Value.cells] at hcs
    obtain ⟨rfl, rfl, rfl⟩ := hcs
    exact ⟨[], Row.none_ rfl rfl, by omega, by simp [maxLen]⟩
  · simp [Value.cells] at hcs
    obtain ⟨rfl, rfl, rfl⟩ := hcs
    exact ⟨_, row_of_fn B fun i hi => hcell i (by omega), hl, hm⟩
/-- [][]uint8: each part, and what it reads as. -/
theorem slice_rows8 {t e q : TypeId} {a : Option Addr} {len cap : Nat} {d : DataW H} {ps : List MemPlace} (ht : P.underlying t = some (.slice e)) (he : P.underlying e = some (.slice q)) (hq : P.underlying q = some (.int .u8)) (ce : P.cellsOf e = 1) (cq : P.cellsOf q = 1)
    (h : DataW.Trod enc P w base (fun _ => true) held t (.slice a len cap) d ps) :
    ∃ l : List (Option Addr × Nat × Nat × List Nat), Row (fun p => .slice p.1 p.2.1 p.2.2.1) w w.heap.size a len l ∧ (∀ p ∈ l, Row byteV w w.heap.size p.1 p.2.1 p.2.2.2 ∧ (∀ x ∈ p.2.2.2, x < 256) ∧ p.2.1 ≤ p.2.2.1 ∧ p.2.2.1 ≤ maxLen) ∧ len ≤ cap ∧ cap ≤ maxLen := by
  obtain ⟨fuel, hf⟩ := h
  rcases open_int_rows ht he hq ce cq hf with ⟨hcs, _⟩ | ⟨x, l, c, A, L, C, Z, hcs, _, hl, hm, _, hr⟩
  · simp [Value.cells] at hcs
    obtain ⟨rfl, rfl, rfl⟩ := hcs
    exact ⟨[], Row.none_ rfl rfl, by simp, by omega, by simp [maxLen]⟩
  · simp [Value.cells] at hcs
    obtain ⟨rfl, rfl, rfl⟩ := hcs
    refine ⟨_, row_of_fn (fun i => (A i, L i, C i, ((Z i).take (L i)).map Int.toNat)) fun i hi => (hr i (by omega)).1, ?_, hl, hm⟩
    intro p hp
    obtain ⟨i, hi, rfl⟩ := List.mem_map.1 hp
    have hi' := List.mem_range.1 hi
    obtain ⟨_, h1, h2, h3, h4, h5, h6⟩ := hr i (by omega)
    have hrow : IsRow .u8 w (A i) (L i) (C i) (Z i) := by
      cases hA : A i with
      | none =>
        have h0 := h5 hA
        have hz : Z i = [] := List.eq_nil_of_length_eq_zero (by omega)
        exact .inl ⟨rfl, by omega, h0, hz⟩
      | some a' => exact .inr ⟨a', rfl, h1, h2, h3, fun k hk => (h6 a' hA).2 k (by omega), h4⟩
    obtain ⟨bs, g1, g2, _, g4, g5⟩ := hrow.bytes
    have e1 : bs = ((Z i).take (L i)).map Int.toNat := by
      rcases Nat.eq_zero_or_pos (L i) with h0 | h0
      · have := g1.len; rw [h0] at this; rw [List.eq_nil_of_length_eq_zero this, h0]; simp
      · obtain ⟨ad, ea, _, hcs⟩ := g1.cells h0
        apply List.ext_getElem?
        intro k
        by_cases hk : k < L i
        · have c1 := hcs k hk
          have c2 := (h6 ad ea).2 k (by omega)
          rw [c2] at c1
          have hkl : k < bs.length := by rw [g1.len]; exact hk
          rw [List.getElem?_eq_getElem hkl] at c1 ⊢
          rw [List.getElem?_map, List.getElem?_take, if_pos hk, List.getElem?_eq_getElem (by omega)]
          simp only [Option.map_some, Option.some.injEq] at c1 ⊢
          have hz : (Z i).getD k 0 = (Z i)[k]'(by omega) := by rw [List.getD_eq_getElem?_getD, List.getElem?_eq_getElem (by omega)]; rfl
          rw [hz, byteV_def] at c1
          injection c1 with _ c3
          omega
        · rw [List.getElem?_eq_none (by rw [g1.len]; omega), List.getElem?_eq_none (by simp; omega)]
    rw [e1] at g1 g2
    exact ⟨g1, g2, g4, g5⟩
end
end Go.Proofs.Yticifjmkocgipaa

/- Slices of structs whose fields are one cell each: what they read as, and how they come in. -/
namespace Go.Proofs.Yticifjmkocgipaa
open Go.ChangeShapes Go.WideShapes Go.RowKit Go.Deep

/-- The slice at A of n elements of sz cells each reads as the list l: field j of x holds f x j; it lies below block B. -/
structure Recs {α : Type} (sz : Nat) (f : α → Nat → Value) (w : World) (B : Nat) (A : Option Addr) (n : Nat) (l : List α) : Prop where
  len : l.length = n
  cells : 0 < n → ∃ ad, A = some ad ∧ ad.block < B ∧ ∀ k x, l[k]? = some x → ∀ j, j < sz → w.cell? (ad.add (k * sz + j)) = some (f x j)

section
variable {α : Type} {sz : Nat} {f : α → Nat → Value} {w w' : World} {B B' : Nat} {A : Option Addr} {n : Nat} {l : List α}
theorem Recs.get (h : Recs sz f w B A n l) {k : Nat} (hk : k < n) : ∃ ad x, A = some ad ∧ ad.block < B ∧ l[k]? = some x ∧ ∀ j, j < sz → w.cell? (ad.add (k * sz + j)) = some (f x j) := by
  obtain ⟨ad, e, hb, hc⟩ := h.cells (by omega)
  have hl : k < l.length := by rw [h.len]; exact hk
  exact ⟨ad, l[k], e, hb, List.getElem?_eq_getElem hl, hc k _ (List.getElem?_eq_getElem hl)⟩
/-- A field's address, as the walk spells it. -/
theorem add_field (a : Addr) (k j : Nat) (hj : j ≠ 0) : a.add (k + j) = ⟨(a.add k).block, (a.add k).off + j, none⟩ := by
  rw [← add_add]
  generalize a.add k = b
  unfold Addr.add
  rw [if_neg hj]
/-- Each field of element k, as the walk spells its address. -/
theorem Recs.field (h : Recs sz f w B A n l) {k : Nat} (hk : k < n) : ∃ ad x, A = some ad ∧ ad.block < B ∧ l[k]? = some x ∧ (0 < sz → w.cell? (ad.add (k * sz)) = some (f x 0)) ∧
    ∀ j, j ≠ 0 → j < sz → w.cell? ⟨(ad.add (k * sz)).block, (ad.add (k * sz)).off + j, none⟩ = some (f x j) := by
  obtain ⟨ad, x, e, hb, hx, hc⟩ := h.get hk
  exact ⟨ad, x, e, hb, hx, fun h0 => hc 0 h0, fun j hj hlt => by rw [← add_field _ _ _ hj]; exact hc j hlt⟩
theorem Recs.keep (h : Recs sz f w B A n l) (hk : ∀ p : Addr, p.block < B → w'.cell? p = w.cell? p) : Recs sz f w' B A n l :=
  ⟨h.len, fun hn => by
    obtain ⟨ad, e, hb, hc⟩ := h.cells hn
    exact ⟨ad, e, hb, fun k x hx j hj => (hk _ (by rw [add_block]; exact hb)).trans (hc k x hx j hj)⟩⟩
theorem Recs.below (h : Recs sz f w B A n l) (hb : Below B w w') : Recs sz f w' B A n l := h.keep fun _ hp => hb.cell hp
theorem Recs.more (h : Recs sz f w B A n l) (hB : B ≤ B') : Recs sz f w B' A n l :=
  ⟨h.len, fun hn => by obtain ⟨ad, e, hb, hc⟩ := h.cells hn; exact ⟨ad, e, by omega, hc⟩⟩
theorem Recs.drewN (h : Recs sz f w B A n l) (k : Nat) : Recs sz f (w.drewN k) B A n l := h.keep fun _ _ => rfl
end

section
variable {H : Type} {enc : TypeId × Value → H} {P : Program} {w : World} {base : Nat} {held : Bool}
/-- A slice of structs that came in, cell by cell. -/
theorem open_recs {t e : TypeId} {fs : Array Field} {a : Option Addr} {len cap : Nat} {d : DataW H} {ps : List MemPlace} (ht : P.underlying t = some (.slice e)) (he : P.underlying e = some (.struct fs))
    (hone : oneCellFields P fs = true) (hC : P.cellsOf e = fs.size) (h : DataW.Trod enc P w base (fun _ => true) held t (.slice a len cap) d ps) :
    len ≤ cap ∧ cap ≤ maxLen ∧ (a = none → cap = 0) ∧ (0 < len → ∃ ad, a = some ad) ∧
      ∀ ad, a = some ad → ∃ V : Nat → Nat → Value, ∀ i, i < len → ∀ (j : Nat) (fl : Field), fs[j]? = some fl → w.cell? (ad.add (i * fs.size + j)) = some (V i j) ∧ ∃ (fuel : Nat) (y : DataW H × List MemPlace), DataW.trod enc P w base (fun _ => true) held fuel fl.type [V i j] = some y := by
  obtain ⟨fuel, hf⟩ := h
  rcases open_slice ht hf with ⟨hcs, _⟩ | ⟨x, l, c, m, n, D, Pl, hcs, _, hl, hm, hmm, _, hx⟩
  · simp [Value.cells] at hcs
    obtain ⟨rfl, rfl, rfl⟩ := hcs
    exact ⟨Nat.le_refl _, by simp [maxLen], fun _ => rfl, fun h => by omega, fun _ h => by cases h⟩
  · simp [Value.cells] at hcs
    obtain ⟨rfl, rfl, rfl⟩ := hcs
    refine ⟨hl, hm, (fun h => by cases h), fun _ => ⟨_, rfl⟩, fun ad had => ?_⟩
    cases had
    simp only [if_true] at hmm
    have each : ∀ i, i < len → ∃ q : List Value, q.length = fs.size ∧ (∀ j, j < fs.size → w.cell? ((x.add (i * fs.size)).add j) = q[j]?) ∧ ∃ k, ∀ (j : Nat) (fl : Field), fs[j]? = some fl → ∃ y, DataW.trod enc P w base (fun _ => true) held k fl.type [q.getD j undef] = some y := by
      intro i hi
      obtain ⟨cs', h1, h2⟩ := hx i (by omega)
      rw [hC] at h1
      obtain ⟨_, hlen, hcell⟩ := World.cells?_some h1
      obtain ⟨xs, k, _, _, _, hxl, hfl⟩ := DataW.trod_struct he h2
      refine ⟨cs', hlen, hcell, k, fun j fl hj => ?_⟩
      have hlt : j < fs.size := (Array.getElem?_eq_some_iff.1 hj).1
      obtain ⟨ho, hc1⟩ := hone_of hone j fl hj
      have g := hfl j fl hj
      rw [ho, hc1, take1_drop cs' j undef (by omega), List.getElem?_eq_getElem (by omega)] at g
      exact ⟨_, g⟩
    obtain ⟨q, hq⟩ := choose_lt each
    refine ⟨fun i j => (q i).getD j undef, fun i hi j fl hj => ?_⟩
    have hlt : j < fs.size := (Array.getElem?_eq_some_iff.1 hj).1
    obtain ⟨g1, g2, k, g3⟩ := hq i hi
    refine ⟨?_, k, g3 j fl hj⟩
    have := g2 j hlt
    rw [add_add] at this
    show _ = some ((q i).getD j undef)
    rw [this, List.getElem?_eq_getElem (by omega), List.getD_eq_getElem?_getD, List.getElem?_eq_getElem (by omega)]
    rfl
/-- A slice of bytes in a cell that came in: a row. -/
theorem cell_bytes {t e : TypeId} {v : Value} {fuel : Nat} {y : DataW H × List MemPlace} (ht : P.underlying t = some (.slice e)) (he : P.underlying e = some (.int .u8)) (hc : P.cellsOf e = 1)
    (h : DataW.trod enc P w base (fun _ => true) held fuel t [v] = some y) :
    ∃ (a : Option Addr) (len cap : Nat) (bs : List Nat), v = .slice a len cap ∧ Row byteV w w.heap.size a len bs ∧ (∀ x ∈ bs, x < 256) ∧ len ≤ cap ∧ cap ≤ maxLen ∧ (a = none → cap = 0) := by
  rcases open_ints ht he hc h with ⟨hcs, _⟩ | ⟨x, l, c, zs, hcs, _, hl, hm, hz, _, hcell, hwz⟩
  · simp at hcs
    exact ⟨none, 0, 0, [], hcs, Row.none_ rfl rfl, by simp, Nat.le_refl _, by simp [maxLen], fun _ => rfl⟩
  · simp at hcs
    have hrow : IsRow .u8 w (some x) l c zs := .inr ⟨_, rfl, hl, hm, by simpa using hz, hcell, hwz⟩
    obtain ⟨bs, g1, g2, _, g4, g5⟩ := hrow.bytes
    exact ⟨some x, l, c, bs, hcs, g1, g2, g4, g5, fun h => by cases h⟩
/-- A number in a cell that came in. -/
theorem cell_int {t : TypeId} {k : IntKind} {v : Value} {fuel : Nat} {y : DataW H × List MemPlace} (ht : P.underlying t = some (.int k)) (h : DataW.trod enc P w base (fun _ => true) held fuel t [v] = some y) : ∃ n : Int, v = .int k n ∧ (Lit.int k n).wf = true := by
  obtain ⟨n, hn, _, hw⟩ := DataW.trod_int ht h
  simp at hn
  exact ⟨n, hn, hw⟩
end
end Go.Proofs.Yticifjmkocgipaa
