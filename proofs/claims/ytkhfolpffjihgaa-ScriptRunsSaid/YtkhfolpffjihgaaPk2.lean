/- Cell, Open, Recs, in one text. -/
import Derived.Test.YtkhfolpffjihgaaPk1
import Derived.BigQuiet
import Derived.Deep.QuietTactic
import Derived.Deep.Grids
import Derived.Deep.Matrix
import Derived.Deep.Fields
namespace Go.Proofs.Ytkhfolpffjihgaa
open Go.RowKit
theorem vW (g k : Nat) : (⟨g, 0, none⟩ : Addr).add k = ⟨g, k, none⟩ := by unfold Addr.add; split <;> simp_all
theorem Row.drewN {α : Type} {f : α → Value} {w : World} {B : Nat} {A : Option Addr} {n : Nat} {l : List α} (h : Row f w B A n l) (k : Nat) : Row f (w.drewN k) B A n l := h.keep fun _ _ => rfl
theorem Row.turned {α : Type} {f : α → Value} {w w' : World} {B n g : Nat} {A : Option Addr} {l : List α} (h : Row f w B A n l) (hg : w.grownBy w' (some g)) (hB : B ≤ w.heap.size) (hBg : B ≤ g) : Row f w' B A n l :=
  h.keep fun p hp => World.cell?_of_block (w := w) (hg.block p.block (by omega) (by intro e; cases e; omega))
theorem zY {P : Program} {f : FuncId} {args : Array Value} {w : World} {n : Nat} {v : Value}
    (h : Calls P f args (w.drewN n) fun e w' => e = .returned v ∧ w.drewN n = w') : Calls P f args (w.drewN n) fun e w'' => e = .returned v ∧ ∃ m, w'' = w.drewN m :=
  h.mono fun _ _ ⟨he, hm⟩ => ⟨he, n, hm.symm⟩
end Go.Proofs.Ytkhfolpffjihgaa
namespace Go.Proofs.Ytkhfolpffjihgaa
open Go.ChangeShapes Go.WideShapes Go.RowKit Go.Deep
theorem row_of_fn {α : Type} {f : α → Value} {w : World} {a : Addr} {n : Nat} (g : Nat → α) (hc : ∀ i, i < n → w.cell? (a.add i) = some (f (g i))) : Row f w w.heap.size (some a) n ((List.range n).map g) :=
  ⟨by simp, fun h0 => ⟨a, rfl, by have := xK (hc 0 h0); rwa [j8] at this, fun k hk => by rw [hc k hk, List.getElem?_map, List.getElem?_range hk]; rfl⟩⟩
section
variable {H : Type} {enc : TypeId × Value → H} {P : Program} {w : World} {base : Nat} {held : Bool}
end
end Go.Proofs.Ytkhfolpffjihgaa
namespace Go.Proofs.Ytkhfolpffjihgaa
open Go.ChangeShapes Go.WideShapes Go.RowKit Go.Deep
structure Recs {α : Type} (sz : Nat) (f : α → Nat → Value) (w : World) (B : Nat) (A : Option Addr) (n : Nat) (l : List α) : Prop where
  len : l.length = n
  cells : 0 < n → ∃ ad, A = some ad ∧ ad.block < B ∧ ∀ k x, l[k]? = some x → ∀ j, j < sz → w.cell? (ad.add (k * sz + j)) = some (f x j)
section
variable {α : Type} {sz : Nat} {f : α → Nat → Value} {w w' : World} {B B' : Nat} {A : Option Addr} {n : Nat} {l : List α}
theorem Recs.get (h : Recs sz f w B A n l) {k : Nat} (hk : k < n) : ∃ ad x, A = some ad ∧ ad.block < B ∧ l[k]? = some x ∧ ∀ j, j < sz → w.cell? (ad.add (k * sz + j)) = some (f x j) := by
  obtain ⟨ad, e, hb, hc⟩ := h.cells (by omega)
  have hl : k < l.length := by rw [h.len]; exact hk
  exact ⟨ad, l[k], e, hb, List.getElem?_eq_getElem hl, hc k _ (List.getElem?_eq_getElem hl)⟩
theorem add_field (a : Addr) (k j : Nat) (hj : j ≠ 0) : a.add (k + j) = ⟨(a.add k).block, (a.add k).off + j, none⟩ := by
  rw [← qQ]
  generalize a.add k = b
  unfold Addr.add
  rw [if_neg hj]
theorem Recs.field (h : Recs sz f w B A n l) {k : Nat} (hk : k < n) : ∃ ad x, A = some ad ∧ ad.block < B ∧ l[k]? = some x ∧ (0 < sz → w.cell? (ad.add (k * sz)) = some (f x 0)) ∧
    ∀ j, j ≠ 0 → j < sz → w.cell? ⟨(ad.add (k * sz)).block, (ad.add (k * sz)).off + j, none⟩ = some (f x j) := by
  obtain ⟨ad, x, e, hb, hx, hc⟩ := h.get hk
  exact ⟨ad, x, e, hb, hx, fun h0 => hc 0 h0, fun j hj hlt => by rw [← add_field _ _ _ hj]; exact hc j hlt⟩
theorem Recs.keep (h : Recs sz f w B A n l) (hk : ∀ p : Addr, p.block < B → w'.cell? p = w.cell? p) : Recs sz f w' B A n l :=
  ⟨h.len, fun hn => by
    obtain ⟨ad, e, hb, hc⟩ := h.cells hn
    exact ⟨ad, e, hb, fun k x hx j hj => (hk _ (by rw [j8]; exact hb)).trans (hc k x hx j hj)⟩⟩
theorem Recs.below (h : Recs sz f w B A n l) (hb : Below B w w') : Recs sz f w' B A n l := h.keep fun _ hp => hb.cell hp
theorem Recs.more (h : Recs sz f w B A n l) (hB : B ≤ B') : Recs sz f w B' A n l :=
  ⟨h.len, fun hn => by obtain ⟨ad, e, hb, hc⟩ := h.cells hn; exact ⟨ad, e, by omega, hc⟩⟩
theorem Recs.drewN (h : Recs sz f w B A n l) (k : Nat) : Recs sz f (w.drewN k) B A n l := h.keep fun _ _ => rfl
end
section
variable {H : Type} {enc : TypeId × Value → H} {P : Program} {w : World} {base : Nat} {held : Bool}
theorem open_recs {t e : TypeId} {fs : Array Field} {a : Option Addr} {len cap : Nat} {d : DataW H} {ps : List MemPlace} (ht : P.underlying t = some (.slice e)) (he : P.underlying e = some (.struct fs))
    (hone : oneCellFields P fs = true) (hC : P.cellsOf e = fs.size) (h : DataW.Trod enc P w base (fun _ => true) held t (.slice a len cap) d ps) :
    len ≤ cap ∧ cap ≤ maxLen ∧ (a = none → cap = 0) ∧ (0 < len → ∃ ad, a = some ad) ∧
      ∀ ad, a = some ad → ∃ V : Nat → Nat → Value, ∀ i, i < len → ∀ (j : Nat) (fl : Field), fs[j]? = some fl → w.cell? (ad.add (i * fs.size + j)) = some (V i j) ∧ ∃ (fuel : Nat) (y : DataW H × List MemPlace), DataW.trod enc P w base (fun _ => true) held fuel fl.type [V i j] = some y := by
  obtain ⟨fuel, hf⟩ := h
  rcases open_slice ht hf with ⟨hcs, _⟩ | ⟨x, l, c, m, n, D, Pl, hcs, _, hl, hm, hmm, _, hx⟩
  · simp [Value.cells] at hcs
    obtain ⟨rfl, rfl, rfl⟩ := hcs
    exact ⟨Nat.le_refl _, by simp [maxLen], fun _ => rfl, fun h => by omega, fun _ h => by cases h⟩
  · simp [Value.cells] at hcs
    obtain ⟨rfl, rfl, rfl⟩ := hcs
    refine ⟨hl, hm, (fun h => by cases h), fun _ => ⟨_, rfl⟩, fun ad had => ?_⟩
    cases had
    simp only [if_true] at hmm
    have each : ∀ i, i < len → ∃ q : List Value, q.length = fs.size ∧ (∀ j, j < fs.size → w.cell? ((x.add (i * fs.size)).add j) = q[j]?) ∧ ∃ k, ∀ (j : Nat) (fl : Field), fs[j]? = some fl → ∃ y, DataW.trod enc P w base (fun _ => true) held k fl.type [q.getD j undef] = some y := by
      intro i hi
      obtain ⟨cs', h1, h2⟩ := hx i (by omega)
      rw [hC] at h1
      obtain ⟨_, hlen, hcell⟩ := World.cells?_some h1
      obtain ⟨xs, k, _, _, _, hxl, hfl⟩ := DataW.trod_struct he h2
      refine ⟨cs', hlen, hcell, k, fun j fl hj => ?_⟩
      have hlt : j < fs.size := (Array.getElem?_eq_some_iff.1 hj).1
      obtain ⟨ho, hc1⟩ := hone_of hone j fl hj
      have g := hfl j fl hj
      rw [ho, hc1, take1_drop cs' j undef (by omega), List.getElem?_eq_getElem (by omega)] at g
      exact ⟨_, g⟩
    obtain ⟨q, hq⟩ := choose_lt each
    refine ⟨fun i j => (q i).getD j undef, fun i hi j fl hj => ?_⟩
    have hlt : j < fs.size := (Array.getElem?_eq_some_iff.1 hj).1
    obtain ⟨g1, g2, k, g3⟩ := hq i hi
    refine ⟨?_, k, g3 j fl hj⟩
    have := g2 j hlt
    rw [qQ] at this
    show _ = some ((q i).getD j undef)
    rw [this, List.getElem?_eq_getElem (by omega), List.getD_eq_getElem?_getD, List.getElem?_eq_getElem (by omega)]
    rfl
theorem x6 {t : TypeId} {k : IntKind} {v : Value} {fuel : Nat} {y : DataW H × List MemPlace} (ht : P.underlying t = some (.int k)) (h : DataW.trod enc P w base (fun _ => true) held fuel t [v] = some y) : ∃ n : Int, v = .int k n ∧ (Lit.int k n).wf = true := by
  obtain ⟨n, hn, _, hw⟩ := DataW.trod_int ht h
  simp at hn
  exact ⟨n, hn, hw⟩
end
end Go.Proofs.Ytkhfolpffjihgaa
