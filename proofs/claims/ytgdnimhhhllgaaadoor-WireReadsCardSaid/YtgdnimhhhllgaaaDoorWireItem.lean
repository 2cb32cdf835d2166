/- The calls that come in as a slice of structs. -/
import Derived.Test.YtgdnimhhhllgaaaDoorRecs
namespace Go.Proofs.YtgdnimhhhllgaaaDoor
open Go.ChangeShapes Go.WideShapes Go.RowKit Go.Deep

/-- A call: what it is, a number, bytes, a set. -/
structure Item where
  do_ : Nat
  n : Int
  A : Option Addr
  len : Nat
  cap : Nat
  bs : List Nat
  m : Nat

instance : Inhabited Item := ⟨⟨0, 0, none, 0, 0, [], 0⟩⟩
def itemV (x : Item) : Nat → Value
  | 0 => .int .u8 (x.do_ : Int)
  | 1 => .int .i64 x.n
  | 2 => .slice x.A x.len x.cap
  | _ => .int .u32 (x.m : Int)
/-- What is known of it. -/
structure Item.Ok (x : Item) (w : World) (B : Nat) : Prop where
  d : x.do_ < 256
  n : -9223372036854775808 ≤ x.n ∧ x.n ≤ 9223372036854775807
  row : Row byteV w B x.A x.len x.bs
  by_ : ∀ y ∈ x.bs, y < 256
  lc : x.len ≤ x.cap
  cm : x.cap ≤ maxLen
  nil : x.A = none → x.cap = 0
  m : x.m < 4294967296
theorem Item.Ok.keep {x : Item} {w w' : World} {B : Nat} (h : x.Ok w B) (hk : ∀ p : Addr, p.block < B → w'.cell? p = w.cell? p) : x.Ok w' B := ⟨h.d, h.n, h.row.keep hk, h.by_, h.lc, h.cm, h.nil, h.m⟩
/-- The slice reads as these calls. -/
def Items (w : World) (B : Nat) (A : Option Addr) (n : Nat) (l : List Item) : Prop := Recs 4 itemV w B A n l ∧ ∀ x ∈ l, x.Ok w B
theorem Items.keep {w w' : World} {B : Nat} {A : Option Addr} {n : Nat} {l : List Item} (h : Items w B A n l) (hk : ∀ p : Addr, p.block < B → w'.cell? p = w.cell? p) : Items w' B A n l := ⟨h.1.keep hk, fun x hx => (h.2 x hx).keep hk⟩
theorem Items.below {w w' : World} {B : Nat} {A : Option Addr} {n : Nat} {l : List Item} (h : Items w B A n l) (hb : Below B w w') : Items w' B A n l := h.keep fun _ hp => hb.cell hp
theorem Items.get {w : World} {B : Nat} {A : Option Addr} {n : Nat} {l : List Item} (h : Items w B A n l) {k : Nat} (hk : k < n) :
    ∃ ad x, A = some ad ∧ ad.block < B ∧ l[k]? = some x ∧ x.Ok w B ∧ w.cell? (ad.add (k * 4)) = some (.int .u8 (x.do_ : Int)) ∧ w.cell? ⟨(ad.add (k * 4)).block, (ad.add (k * 4)).off + 1, none⟩ = some (.int .i64 x.n) ∧
      w.cell? ⟨(ad.add (k * 4)).block, (ad.add (k * 4)).off + 2, none⟩ = some (.slice x.A x.len x.cap) ∧ w.cell? ⟨(ad.add (k * 4)).block, (ad.add (k * 4)).off + 3, none⟩ = some (.int .u32 (x.m : Int)) := by
  obtain ⟨ad, x, e, hb, hx, hc0, hc⟩ := h.1.field hk
  exact ⟨ad, x, e, hb, hx, h.2 x (List.mem_of_getElem? hx), hc0 (by omega), hc 1 (by omega) (by omega), hc 2 (by omega) (by omega), hc 3 (by omega) (by omega)⟩

section
variable {H : Type} {enc : TypeId × Value → H} {P : Program} {w : World} {base : Nat} {held : Bool}
theorem slice_items {t e t2 : TypeId} {f0 f1 f2 f3 : Field} {a : Option Addr} {len cap : Nat} {d : DataW H} {ps : List MemPlace} (ht : P.underlying t = some (.slice e)) (he : P.underlying e = some (.struct #[f0, f1, f2, f3]))
    (hone : oneCellFields P #[f0, f1, f2, f3] = true) (hC : P.cellsOf e = 4) (h0 : P.underlying f0.type = some (.int .u8)) (h1 : P.underlying f1.type = some (.int .i64)) (h2 : P.underlying f2.type = some (.slice t2)) (h22 : P.underlying t2 = some (.int .u8)) (hc2 : P.cellsOf t2 = 1) (h3 : P.underlying f3.type = some (.int .u32))
    (h : DataW.Trod enc P w base (fun _ => true) held t (.slice a len cap) d ps) :
    ∃ l : List Item, Items w w.heap.size a len l ∧ len ≤ cap ∧ cap ≤ maxLen ∧ (a = none → cap = 0) := by
  obtain ⟨hl, hm, hnil, hsome, hall⟩ := open_recs ht he hone hC h
  rcases Nat.eq_zero_or_pos len with h00 | h00
  · exact ⟨[], ⟨⟨h00.symm ▸ rfl, fun h => by omega⟩, by simp⟩, hl, hm, hnil⟩
  · obtain ⟨ad, rfl⟩ := hsome h00
    obtain ⟨V, hV⟩ := hall ad rfl
    have each : ∀ i, i < len → ∃ x : Item, x.Ok w w.heap.size ∧ ∀ j, j < 4 → w.cell? (ad.add (i * 4 + j)) = some (itemV x j) := by
      intro i hi
      obtain ⟨c0, _, _, g0⟩ := hV i hi 0 f0 rfl
      obtain ⟨c1, _, _, g1⟩ := hV i hi 1 f1 rfl
      obtain ⟨c2, _, _, g2⟩ := hV i hi 2 f2 rfl
      obtain ⟨c3, _, _, g3⟩ := hV i hi 3 f3 rfl
      obtain ⟨n0, e0, w0⟩ := cell_int h0 g0
      obtain ⟨n1, e1, w1⟩ := cell_int h1 g1
      obtain ⟨A2, l2, cp2, bs, e2, r2, b2, lc2, cm2, nl2⟩ := cell_bytes h2 h22 hc2 g2
      obtain ⟨n3, e3, w3⟩ := cell_int h3 g3
      have u0 := u8_range _ w0
      have u3 := u32_range _ w3
      refine ⟨⟨n0.toNat, n1, A2, l2, cp2, bs, n3.toNat⟩, ⟨by show n0.toNat < 256; omega, int_i64 w1, r2, b2, lc2, cm2, nl2, by show n3.toNat < 4294967296; omega⟩, fun j hj => ?_⟩
      have k0 : ((n0.toNat : Nat) : Int) = n0 := Int.toNat_of_nonneg u0.1
      have k3 : ((n3.toNat : Nat) : Int) = n3 := Int.toNat_of_nonneg u3.1
      match j, hj with
      | 0, _ => rw [show itemV _ 0 = Value.int .u8 ((n0.toNat : Nat) : Int) from rfl, k0, ← e0]; exact c0
      | 1, _ => rw [show itemV _ 1 = Value.int .i64 n1 from rfl, ← e1]; exact c1
      | 2, _ => rw [show itemV _ 2 = Value.slice A2 l2 cp2 from rfl, ← e2]; exact c2
      | 3, _ => rw [show itemV _ 3 = Value.int .u32 ((n3.toNat : Nat) : Int) from rfl, k3, ← e3]; exact c3
    obtain ⟨X, hX⟩ := choose_lt each
    refine ⟨(List.range len).map X, ⟨⟨by simp, fun _ => ⟨ad, rfl, ?_, fun k x hx j hj => ?_⟩⟩, fun x hx => ?_⟩, hl, hm, hnil⟩
    · have := cell_block ((hX 0 h00).2 0 (by omega))
      rwa [add_block] at this
    · have hk : k < len := by have := (List.getElem?_eq_some_iff.1 hx).1; simpa using this
      rw [List.getElem?_map, List.getElem?_range hk] at hx
      cases hx
      exact (hX k hk).2 j hj
    · obtain ⟨i, hi, rfl⟩ := List.mem_map.1 hx
      exact (hX i (List.mem_range.1 hi)).1
end
end Go.Proofs.YtgdnimhhhllgaaaDoor
