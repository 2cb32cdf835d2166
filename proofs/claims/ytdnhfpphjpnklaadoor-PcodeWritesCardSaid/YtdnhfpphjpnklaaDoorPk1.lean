/- Mem, Kit, Cell, Open, Recs, WireItem, in one text. -/
import Derived.Test.YtdnhfpphjpnklaaDoorBase
import Derived.Laws.Rows
import Derived.Deep.MidRow
import Derived.Maps.AppendAt
import Derived.Test.YtdnhfpphjpnklaaDoorRows
import Derived.BigQuiet
import Derived.Deep.QuietTactic
import Derived.Deep.Grids
import Derived.Deep.Matrix
import Derived.Deep.Fields
/- A block that is known whole: its cells, what a store leaves, what stays. -/
namespace Go.Proofs.YtdnhfpphjpnklaaDoor
open Go.RowKit

/-- Block g holds just these cells. -/
def Blk (w : World) (g : Nat) (t : TypeId) (cs : List Value) : Prop := w.heap[g]? = some (.cells cs.toArray t (0, 0))

theorem Blk.lt {w : World} {g : Nat} {t : TypeId} {cs : List Value} (h : Blk w g t cs) : g < w.heap.size := by
  rcases Nat.lt_or_ge g w.heap.size with hlt | hge
  · exact hlt
  · unfold Blk at h
    rw [Array.getElem?_eq_none hge] at h; cases h
theorem Blk.cell {w : World} {g : Nat} {t : TypeId} {cs : List Value} (h : Blk w g t cs) (k : Nat) : w.cell? ⟨g, k, none⟩ = cs[k]? := by
  rw [cell_of_row w g k cs.toArray t (0, 0) h]; simp
theorem Blk.frozen {w : World} {g : Nat} {t : TypeId} {cs : List Value} (h : Blk w g t cs) (k : Nat) : w.frozen? ⟨g, k, none⟩ = false := frozen_of_row w g k cs.toArray t h
theorem Blk.set {w : World} {g : Nat} {t : TypeId} {cs : List Value} (h : Blk w g t cs) (k : Nat) (v : Value) : Blk (w.setCell ⟨g, k, none⟩ v) g t (cs.set k v) := by
  have := heap_setCell_same w g k cs.toArray t v h
  unfold Blk; simpa using this
theorem Blk.other {w : World} {g : Nat} {t : TypeId} {cs : List Value} (h : Blk w g t cs) (a : Addr) (v : Value) (hne : g ≠ a.block) : Blk (w.setCell a v) g t cs := by
  unfold Blk; rw [heap_setCell_other w a g v hne]; exact h
theorem Blk.alloc {w : World} {g : Nat} {t : TypeId} {cs : List Value} (h : Blk w g t cs) (o : Obj) : Blk (w.alloc o) g t cs := by
  unfold Blk; rw [Below.heap_alloc w o g h.lt]; exact h
theorem Blk.new (w : World) (t : TypeId) (cs : List Value) : Blk (w.alloc (.cells cs.toArray t)) w.heap.size t cs := heap_alloc_new w _
theorem Blk.newA (w : World) (t : TypeId) (c : Array Value) (cs : List Value) (hc : c = cs.toArray) : Blk (w.alloc (.cells c t)) w.heap.size t cs := by subst hc; exact heap_alloc_new w _
theorem Blk.newAt {w : World} {t : TypeId} {c : Array Value} {cs : List Value} {g : Nat} (hc : c = cs.toArray) (hg : g = w.heap.size) : Blk (w.alloc (.cells c t)) g t cs := by subst hc; subst hg; exact heap_alloc_new w _
theorem Blk.below {w w' : World} {g B : Nat} {t : TypeId} {cs : List Value} (h : Blk w g t cs) (hb : Below B w w') (hg : g < B) : Blk w' g t cs := by
  unfold Blk; rw [hb.block g hg]; exact h
theorem Blk.grown {w w' : World} {g : Nat} {t : TypeId} {cs : List Value} {row : Option Nat} (h : Blk w g t cs) (hg : w.grownBy w' row) (hne : some g ≠ row) : Blk w' g t cs := by
  unfold Blk; rw [hg.block g h.lt hne]; exact h
theorem Blk.drewN {w : World} {g : Nat} {t : TypeId} {cs : List Value} (h : Blk w g t cs) (n : Nat) : Blk (w.drewN n) g t cs := h
theorem Blk.range {w : World} {g : Nat} {t : TypeId} {cs : List Value} (h : Blk w g t cs) (o n : Nat) : w.rangeAt g o ((cs.drop o).take n) := by
  intro j v hv
  rw [h.cell (o + j)]
  rw [List.getElem?_take] at hv
  split at hv
  · rw [List.getElem?_drop] at hv; exact hv
  · cases hv
theorem Blk.row {α : Type} {f : α → Value} {w : World} {g B : Nat} {t : TypeId} {l : List α} (h : Blk w g t (l.map f)) {n : Nat} (hn : l.length = n) (hB : w.heap.size ≤ B) : Row f w B (some ⟨g, 0, none⟩) n l :=
  ⟨hn, fun _ => ⟨_, rfl, Nat.lt_of_lt_of_le h.lt hB, fun k _ => by
    have hadd : (⟨g, 0, none⟩ : Addr).add k = ⟨g, k, none⟩ := by unfold Addr.add; split <;> simp_all
    rw [hadd, h.cell k, List.getElem?_map]⟩⟩

/-- Only block g, and new ones, have turned. -/
theorem grown_refl (w : World) (row : Option Nat) : w.grownBy w row := World.grownBy.refl w row
theorem grown_set {w w' : World} {g k : Nat} {v : Value} (h : w.grownBy w' (some g)) : w.grownBy (w'.setCell ⟨g, k, none⟩ v) (some g) :=
  ⟨h.os, h.tape, h.output, by simpa using h.size, fun i hi hne => (heap_setCell_other w' _ i v (by intro e; exact hne (by rw [e]))).trans (h.block i hi hne)⟩
theorem grown_set_new {w w' : World} {row : Option Nat} {a : Addr} {v : Value} (h : w.grownBy w' row) (ha : w.heap.size ≤ a.block) : w.grownBy (w'.setCell a v) row :=
  ⟨h.os, h.tape, h.output, by simpa using h.size, fun i hi hne => (heap_setCell_other w' _ i v (by omega)).trans (h.block i hi hne)⟩
theorem grown_al {w w' : World} {row : Option Nat} (h : w.grownBy w' row) (o : Obj) : w.grownBy (w'.alloc o) row :=
  ⟨h.os, h.tape, h.output, by have := h.size; simp; omega, fun i hi hne => (Below.heap_alloc w' o i (Nat.lt_of_lt_of_le hi h.size)).trans (h.block i hi hne)⟩
theorem grown_below {w w1 w2 : World} {row : Option Nat} (h : w.grownBy w1 row) (hb : Below w1.heap.size w1 w2) : w.grownBy w2 row :=
  ⟨hb.os.trans h.os, hb.tape.trans h.tape, hb.output.trans h.output, Nat.le_trans h.size hb.size, fun i hi hne => (hb.block i (Nat.lt_of_lt_of_le hi h.size)).trans (h.block i hi hne)⟩
theorem grown_drews {w w' : World} {row : Option Nat} (h : w.grownBy w' row) (n : Nat) : w.grownBy (w'.drewN n) row := ⟨h.os, h.tape, h.output, h.size, h.block⟩
theorem grown_of_below {w w' : World} (hb : Below w.heap.size w w') (row : Option Nat) : w.grownBy w' row := ⟨hb.os, hb.tape, hb.output, hb.size, fun i hi _ => hb.block i hi⟩
theorem grown_trans {w w1 w2 : World} {row : Option Nat} (h : w.grownBy w1 row) (k : w1.grownBy w2 row) : w.grownBy w2 row := World.grownBy.trans h k
theorem Row.grown {α : Type} {f : α → Value} {w w' : World} {B n : Nat} {ad : Option Addr} {l : List α} {row : Option Nat} (h : Row f w B ad n l) (hg : w.grownBy w' row) (hB : B ≤ w.heap.size) (hne : ∀ a, 0 < n → ad = some a → some a.block ≠ row) : Row f w' B ad n l :=
  ⟨h.len, fun h0 => by
    obtain ⟨a, e, hb, hc⟩ := h.cells h0
    refine ⟨a, e, hb, fun k hk => ?_⟩
    rw [← hc k hk]
    refine World.cell?_of_block (w := w) ?_
    rw [add_block]
    exact hg.block a.block (by omega) (hne a h0 e)⟩

/-- A whole array (or struct) out of its block. -/
theorem wpList_load_blk {P : Program} {ops : Array Oper} {rest : List Oper} {o : Oper} {a : Act} {w : World} {Q : Exit → Act → World → Prop} (hgd : o.guard = none) (ty : TypeId) (x : Operand) (ho : o.op = .load ty x)
    (g : Nat) (hx : a.eval x = .pointer (some ⟨g, 0, none⟩)) (t : TypeId) (cs : List Value) (d : TypeDesc) (hg : Blk w g t cs)
    (hu : P.underlying ty = some d) (hd : (match d with | .struct _ | .array _ _ => true | _ => false) = true) (hi : (P.info? ty).map (·.size) = some cs.length)
    (h : wpList P ops Q rest (a.put o.dst (.agg cs.toArray)) w) : wpList P ops Q (o :: rest) a w :=
  wpList_load_row hgd ty x ho g hx t cs.toArray (0, 0) d hg hu hd (by simpa using hi) h
/-- A whole array (or struct) into its block. -/
theorem wpList_store_blk {P : Program} {ops : Array Oper} {rest : List Oper} {o : Oper} {a : Act} {w : World} {Q : Exit → Act → World → Prop} (hgd : o.guard = none) (ty : TypeId) (x y : Operand) (ho : o.op = .store ty x y)
    (g : Nat) (cs : List Value) (hx : a.eval x = .pointer (some ⟨g, 0, none⟩)) (hy : a.eval y = .agg cs.toArray)
    (t : TypeId) (old : List Value) (hg : Blk w g t old) (hi : (P.info? ty).map (·.size) = some cs.length) (hold : old.length = cs.length) (h1 : ∀ u ∈ cs, u.oneCell' = true)
    (h : ∀ w', Blk w' g t cs → w.grownBy w' (some g) → w'.heap.size = w.heap.size → wpList P ops Q rest (a.put o.dst undef) w') : wpList P ops Q (o :: rest) a w :=
  wpList_store_row hgd ty x y ho g cs.toArray hx hy t old.toArray hg (by simpa using hi) (by simpa using hold) (all_oneCell_toArray h1)
    (h _ (setRow_heap w g _ _ t _ hg) ⟨rfl, rfl, rfl, by simp, fun i _ hne => setRow_other w g i _ (by intro e; exact hne (by rw [e]))⟩ (by simp))
/-- What a function hands back that keeps its result in a block. -/
theorem results_blk {P : Program} {fn : Func} {p : Tmp} {ty : TypeId} (h : fn.results = #[.cell p ty]) (tmps : Array Value) (w : World) (g : Nat) (t : TypeId) (cs : List Value) (d : TypeDesc)
    (hp : tmps.getD p undef = .pointer (some ⟨g, 0, none⟩)) (hg : Blk w g t cs)
    (hu : P.underlying ty = some d) (hd : (match d with | .struct _ | .array _ _ => true | _ => false) = true) (hi : (P.info? ty).map (·.size) = some cs.length) :
    (results fn tmps).run P w = .ok (.agg cs.toArray) w := results_cell_row h tmps w g t cs.toArray (0, 0) d hp hg hu hd (by simpa using hi)
end Go.Proofs.YtdnhfpphjpnklaaDoor

/- What all layers' walks share: how numbers lie in cells, what the types' rows say. -/
namespace Go.Proofs.YtdnhfpphjpnklaaDoor
open Go.RowKit

/-- A word as a cell holds it. -/
def wordV (n : Nat) : Value := .int .u32 (n : Int)
theorem wordV_def (n : Nat) : wordV n = .int .u32 (n : Int) := rfl
/-- An id, and any number, as a cell holds it. -/
def natV (n : Nat) : Value := .int .i64 (n : Int)
theorem natV_def (n : Nat) : natV n = .int .i64 (n : Int) := rfl
def intV (n : Int) : Value := .int .i64 n
theorem intV_def (n : Int) : intV n = .int .i64 n := rfl
theorem one_byteV (b : Nat) : (byteV b).oneCell' = true := rfl
theorem one_wordV (b : Nat) : (wordV b).oneCell' = true := rfl
theorem one_natV (n : Nat) : (natV n).oneCell' = true := rfl
theorem one_intV (n : Int) : (intV n).oneCell' = true := rfl
theorem ret_bool {a b : Bool} (h : a = b) : Ending.returned (.bool a) = Ending.returned (.bool b) := by rw [h]

theorem below_drewN {B : Nat} {a w : World} (h : Below B a w) (n : Nat) : Below B a (w.drewN n) := ⟨h.os, h.tape, h.output, h.size, h.block⟩

theorem nat_u32 {x : Int} (h : (Lit.int .u32 x).wf = true) : ∃ n : Nat, x = (n : Int) ∧ n < 4294967296 := by
  have := u32_range x h
  exact ⟨x.toNat, by omega, by omega⟩
theorem int_i64 {x : Int} (h : (Lit.int .i64 x).wf = true) : -9223372036854775808 ≤ x ∧ x ≤ 9223372036854775807 := by
  simp [Lit.wf, IntKind.min, IntKind.max, IntKind.bits, IntKind.signed] at h; omega
/-- A slice of ints that came in reads as a list. -/
theorem IsRow.ints {w : World} {a : Option Addr} {len cap : Nat} {zs : List Int} (h : IsRow .i64 w a len cap zs) :
    ∃ l : List Int, Row intV w w.heap.size a len l ∧ (∀ x ∈ l, -9223372036854775808 ≤ x ∧ x ≤ 9223372036854775807) ∧ len ≤ maxLen ∧ len ≤ cap ∧ cap ≤ maxLen := by
  rcases h with ⟨rfl, rfl, rfl, rfl⟩ | ⟨x, rfl, hl, hm, hz, hc, hw⟩
  · exact ⟨[], ⟨rfl, fun h => by omega⟩, by simp, by simp [maxLen], by omega, by simp [maxLen]⟩
  · refine ⟨zs.take len, ⟨by simp; omega, fun h0 => ⟨x, rfl, ?_, fun k hk => ?_⟩⟩, ?_, by omega, hl, hm⟩
    · have := cell_block (hc 0 (by omega))
      rwa [add_block] at this
    · rw [hc k (by omega)]
      have hk2 : k < zs.length := by omega
      rw [List.getElem?_take, if_pos hk, List.getElem?_eq_getElem hk2, List.getD_eq_getElem?_getD, List.getElem?_eq_getElem hk2]
      rfl
    · intro y hy
      exact int_i64 (hw y (List.mem_of_mem_take hy))

theorem byte_info : (Tryd.prog.info? 5).map (fun i => (i.zero, i.size, i.bytes)) = some (some (.int .u8 0), 1, 1) := by kernel_rfl

theorem word_info : (Tryd.prog.info? 66).map (fun i => (i.zero, i.size, i.bytes)) = some (some (.int .u32 0), 1, 4) := by kernel_rfl

theorem int_info : (Tryd.prog.info? 3).map (fun i => (i.zero, i.size, i.bytes)) = some (some (.int .i64 0), 1, 8) := by kernel_rfl

theorem size1b : (Tryd.prog.info? 5).map (·.size) = some 1 := by kernel_rfl

theorem size1w : (Tryd.prog.info? 66).map (·.size) = some 1 := by kernel_rfl

theorem size1i : (Tryd.prog.info? 3).map (·.size) = some 1 := by kernel_rfl
end Go.Proofs.YtdnhfpphjpnklaaDoor

/- One cell of a block that is known whole: read, written, at a world that is a letter. -/
namespace Go.Proofs.YtdnhfpphjpnklaaDoor
open Go.RowKit

theorem add_start (g k : Nat) : (⟨g, 0, none⟩ : Addr).add k = ⟨g, k, none⟩ := by unfold Addr.add; split <;> simp_all
/-- b[l:], as the walk spells it. -/
theorem Row.cutOpt {α : Type} {f : α → Value} {w : World} {B n c l : Nat} {A : Option Addr} {xs : List α} (h : Row f w B A n xs) (hl : l ≤ n) (hc : n ≤ c) :
    Row f w B (if c = l then A else A.map (·.add l)) (n - l) (xs.drop l) := by
  split
  · exact Row.none_ (List.drop_of_length_le (by rw [h.len]; omega)) (by omega)
  · cases A with
    | none =>
      have hn0 : n = 0 := by
        rcases Nat.eq_zero_or_pos n with h0 | h0
        · exact h0
        · obtain ⟨_, h, _⟩ := h.cells h0; cases h
      exact Row.none_ (List.drop_of_length_le (by rw [h.len]; omega)) (by omega)
    | some a0 => exact h.cutAt hl
theorem Row.drewN {α : Type} {f : α → Value} {w : World} {B : Nat} {A : Option Addr} {n : Nat} {l : List α} (h : Row f w B A n l) (k : Nat) : Row f (w.drewN k) B A n l := h.keep fun _ _ => rfl
/-- Below block B nothing turned, as g lies at B or above. -/
theorem Row.turned {α : Type} {f : α → Value} {w w' : World} {B n g : Nat} {A : Option Addr} {l : List α} (h : Row f w B A n l) (hg : w.grownBy w' (some g)) (hB : B ≤ w.heap.size) (hBg : B ≤ g) : Row f w' B A n l :=
  h.keep fun p hp => World.cell?_of_block (w := w) (hg.block p.block (by omega) (by intro e; cases e; omega))
theorem quiet_eq {P : Program} {f : FuncId} {args : Array Value} {w : World} {n : Nat} {v : Value}
    (h : Calls P f args (w.drewN n) fun e w' => e = .returned v ∧ w.drewN n = w') : Calls P f args (w.drewN n) fun e w'' => e = .returned v ∧ ∃ m, w'' = w.drewN m :=
  h.mono fun _ _ ⟨he, hm⟩ => ⟨he, n, hm.symm⟩
end Go.Proofs.YtdnhfpphjpnklaaDoor

/- Arguments, opened: what the walks are told of them. -/
namespace Go.Proofs.YtdnhfpphjpnklaaDoor
open Go.ChangeShapes Go.WideShapes Go.RowKit Go.Deep

def boolV (b : Bool) : Value := .bool b
theorem boolV_def (b : Bool) : boolV b = .bool b := rfl

/-- A row out of an index function. -/
theorem row_of_fn {α : Type} {f : α → Value} {w : World} {a : Addr} {n : Nat} (g : Nat → α) (hc : ∀ i, i < n → w.cell? (a.add i) = some (f (g i))) : Row f w w.heap.size (some a) n ((List.range n).map g) :=
  ⟨by simp, fun h0 => ⟨a, rfl, by have := cell_block (hc 0 h0); rwa [add_block] at this, fun k hk => by rw [hc k hk, List.getElem?_map, List.getElem?_range hk]; rfl⟩⟩

section
variable {H : Type} {enc : TypeId × Value → H} {P : Program} {w : World} {base : Nat} {held : Bool}
/-- []bool. -/
theorem slice_bools {t e : TypeId} {a : Option Addr} {len cap : Nat} {d : DataW H} {ps : List MemPlace} (ht : P.underlying t = some (.slice e)) (he : P.underlying e = some .bool) (hc : P.cellsOf e = 1)
    (h : DataW.Trod enc P w base (fun _ => true) held t (.slice a len cap) d ps) : ∃ l : List Bool, Row boolV w w.heap.size a len l ∧ len ≤ cap ∧ cap ≤ maxLen := by
  obtain ⟨fuel, hf⟩ := h
  rcases open_bools ht he hc hf with ⟨hcs, _⟩ | ⟨x, l, c, B, hcs, _, hl, hm, _, hcell⟩
  · simp [Value.cells] at hcs
    obtain ⟨rfl, rfl, rfl⟩ := hcs
    exact ⟨[], Row.none_ rfl rfl, by omega, by simp [maxLen]⟩
  · simp [Value.cells] at hcs
    obtain ⟨rfl, rfl, rfl⟩ := hcs
    exact ⟨_, row_of_fn B fun i hi => hcell i (by omega), hl, hm⟩
/-- [][]uint8: each part, and what it reads as. -/
theorem slice_rows8 {t e q : TypeId} {a : Option Addr} {len cap : Nat} {d : DataW H} {ps : List MemPlace} (ht : P.underlying t = some (.slice e)) (he : P.underlying e = some (.slice q)) (hq : P.underlying q = some (.int .u8)) (ce : P.cellsOf e = 1) (cq : P.cellsOf q = 1)
    (h : DataW.Trod enc P w base (fun _ => true) held t (.slice a len cap) d ps) :
    ∃ l : List (Option Addr × Nat × Nat × List Nat), Row (fun p => .slice p.1 p.2.1 p.2.2.1) w w.heap.size a len l ∧ (∀ p ∈ l, Row byteV w w.heap.size p.1 p.2.1 p.2.2.2 ∧ (∀ x ∈ p.2.2.2, x < 256) ∧ p.2.1 ≤ p.2.2.1 ∧ p.2.2.1 ≤ maxLen) ∧ len ≤ cap ∧ cap ≤ maxLen := by
  obtain ⟨fuel, hf⟩ := h
  rcases open_int_rows ht he hq ce cq hf with ⟨hcs, _⟩ | ⟨x, l, c, A, L, C, Z, hcs, _, hl, hm, _, hr⟩
  · simp [Value.cells] at hcs
    obtain ⟨rfl, rfl, rfl⟩ := hcs
    exact ⟨[], Row.none_ rfl rfl, by simp, by omega, by simp [maxLen]⟩
  · simp [Value.cells] at hcs
    obtain ⟨rfl, rfl, rfl⟩ := hcs
    refine ⟨_, row_of_fn (fun i => (A i, L i, C i, ((Z i).take (L i)).map Int.toNat)) fun i hi => (hr i (by omega)).1, ?_, hl, hm⟩
    intro p hp
    obtain ⟨i, hi, rfl⟩ := List.mem_map.1 hp
    have hi' := List.mem_range.1 hi
    obtain ⟨_, h1, h2, h3, h4, h5, h6⟩ := hr i (by omega)
    have hrow : IsRow .u8 w (A i) (L i) (C i) (Z i) := by
      cases hA : A i with
      | none =>
        have h0 := h5 hA
        have hz : Z i = [] := List.eq_nil_of_length_eq_zero (by omega)
        exact .inl ⟨rfl, by omega, h0, hz⟩
      | some a' => exact .inr ⟨a', rfl, h1, h2, h3, fun k hk => (h6 a' hA).2 k (by omega), h4⟩
    obtain ⟨bs, g1, g2, _, g4, g5⟩ := hrow.bytes
    have e1 : bs = ((Z i).take (L i)).map Int.toNat := by
      rcases Nat.eq_zero_or_pos (L i) with h0 | h0
      · have := g1.len; rw [h0] at this; rw [List.eq_nil_of_length_eq_zero this, h0]; simp
      · obtain ⟨ad, ea, _, hcs⟩ := g1.cells h0
        apply List.ext_getElem?
        intro k
        by_cases hk : k < L i
        · have c1 := hcs k hk
          have c2 := (h6 ad ea).2 k (by omega)
          rw [c2] at c1
          have hkl : k < bs.length := by rw [g1.len]; exact hk
          rw [List.getElem?_eq_getElem hkl] at c1 ⊢
          rw [List.getElem?_map, List.getElem?_take, if_pos hk, List.getElem?_eq_getElem (by omega)]
          simp only [Option.map_some, Option.some.injEq] at c1 ⊢
          have hz : (Z i).getD k 0 = (Z i)[k]'(by omega) := by rw [List.getD_eq_getElem?_getD, List.getElem?_eq_getElem (by omega)]; rfl
          rw [hz, byteV_def] at c1
          injection c1 with _ c3
          omega
        · rw [List.getElem?_eq_none (by rw [g1.len]; omega), List.getElem?_eq_none (by simp; omega)]
    rw [e1] at g1 g2
    exact ⟨g1, g2, g4, g5⟩
end
end Go.Proofs.YtdnhfpphjpnklaaDoor

/- Slices of structs whose fields are one cell each: what they read as, and how they come in. -/
namespace Go.Proofs.YtdnhfpphjpnklaaDoor
open Go.ChangeShapes Go.WideShapes Go.RowKit Go.Deep

/-- The slice at A of n elements of sz cells each reads as the list l: field j of x holds f x j; it lies below block B. -/
structure Recs {α : Type} (sz : Nat) (f : α → Nat → Value) (w : World) (B : Nat) (A : Option Addr) (n : Nat) (l : List α) : Prop where
  len : l.length = n
  cells : 0 < n → ∃ ad, A = some ad ∧ ad.block < B ∧ ∀ k x, l[k]? = some x → ∀ j, j < sz → w.cell? (ad.add (k * sz + j)) = some (f x j)

section
variable {α : Type} {sz : Nat} {f : α → Nat → Value} {w w' : World} {B B' : Nat} {A : Option Addr} {n : Nat} {l : List α}
theorem Recs.get (h : Recs sz f w B A n l) {k : Nat} (hk : k < n) : ∃ ad x, A = some ad ∧ ad.block < B ∧ l[k]? = some x ∧ ∀ j, j < sz → w.cell? (ad.add (k * sz + j)) = some (f x j) := by
  obtain ⟨ad, e, hb, hc⟩ := h.cells (by omega)
  have hl : k < l.length := by rw [h.len]; exact hk
  exact ⟨ad, l[k], e, hb, List.getElem?_eq_getElem hl, hc k _ (List.getElem?_eq_getElem hl)⟩
/-- A field's address, as the walk spells it. -/
theorem add_field (a : Addr) (k j : Nat) (hj : j ≠ 0) : a.add (k + j) = ⟨(a.add k).block, (a.add k).off + j, none⟩ := by
  rw [← add_add]
  generalize a.add k = b
  unfold Addr.add
  rw [if_neg hj]
/-- Each field of element k, as the walk spells its address. -/
theorem Recs.field (h : Recs sz f w B A n l) {k : Nat} (hk : k < n) : ∃ ad x, A = some ad ∧ ad.block < B ∧ l[k]? = some x ∧ (0 < sz → w.cell? (ad.add (k * sz)) = some (f x 0)) ∧
    ∀ j, j ≠ 0 → j < sz → w.cell? ⟨(ad.add (k * sz)).block, (ad.add (k * sz)).off + j, none⟩ = some (f x j) := by
  obtain ⟨ad, x, e, hb, hx, hc⟩ := h.get hk
  exact ⟨ad, x, e, hb, hx, fun h0 => hc 0 h0, fun j hj hlt => by rw [← add_field _ _ _ hj]; exact hc j hlt⟩
theorem Recs.keep (h : Recs sz f w B A n l) (hk : ∀ p : Addr, p.block < B → w'.cell? p = w.cell? p) : Recs sz f w' B A n l :=
  ⟨h.len, fun hn => by
    obtain ⟨ad, e, hb, hc⟩ := h.cells hn
    exact ⟨ad, e, hb, fun k x hx j hj => (hk _ (by rw [add_block]; exact hb)).trans (hc k x hx j hj)⟩⟩
theorem Recs.below (h : Recs sz f w B A n l) (hb : Below B w w') : Recs sz f w' B A n l := h.keep fun _ hp => hb.cell hp
theorem Recs.more (h : Recs sz f w B A n l) (hB : B ≤ B') : Recs sz f w B' A n l :=
  ⟨h.len, fun hn => by obtain ⟨ad, e, hb, hc⟩ := h.cells hn; exact ⟨ad, e, by omega, hc⟩⟩
theorem Recs.drewN (h : Recs sz f w B A n l) (k : Nat) : Recs sz f (w.drewN k) B A n l := h.keep fun _ _ => rfl
end

section
variable {H : Type} {enc : TypeId × Value → H} {P : Program} {w : World} {base : Nat} {held : Bool}
/-- A slice of structs that came in, cell by cell. -/
theorem open_recs {t e : TypeId} {fs : Array Field} {a : Option Addr} {len cap : Nat} {d : DataW H} {ps : List MemPlace} (ht : P.underlying t = some (.slice e)) (he : P.underlying e = some (.struct fs))
    (hone : oneCellFields P fs = true) (hC : P.cellsOf e = fs.size) (h : DataW.Trod enc P w base (fun _ => true) held t (.slice a len cap) d ps) :
    len ≤ cap ∧ cap ≤ maxLen ∧ (a = none → cap = 0) ∧ (0 < len → ∃ ad, a = some ad) ∧
      ∀ ad, a = some ad → ∃ V : Nat → Nat → Value, ∀ i, i < len → ∀ (j : Nat) (fl : Field), fs[j]? = some fl → w.cell? (ad.add (i * fs.size + j)) = some (V i j) ∧ ∃ (fuel : Nat) (y : DataW H × List MemPlace), DataW.trod enc P w base (fun _ => true) held fuel fl.type [V i j] = some y := by
  obtain ⟨fuel, hf⟩ := h
  rcases open_slice ht hf with ⟨hcs, _⟩ | ⟨x, l, c, m, n, D, Pl, hcs, _, hl, hm, hmm, _, hx⟩
  · simp [Value.cells] at hcs
    obtain ⟨rfl, rfl, rfl⟩ := hcs
    exact ⟨Nat.le_refl _, by simp [maxLen], fun _ => rfl, fun h => by omega, fun _ h => by cases h⟩
  · simp [Value.cells] at hcs
    obtain ⟨rfl, rfl, rfl⟩ := hcs
    refine ⟨hl, hm, (fun h => by cases h), fun _ => ⟨_, rfl⟩, fun ad had => ?_⟩
    cases had
    simp only [if_true] at hmm
    have each : ∀ i, i < len → ∃ q : List Value, q.length = fs.size ∧ (∀ j, j < fs.size → w.cell? ((x.add (i * fs.size)).add j) = q[j]?) ∧ ∃ k, ∀ (j : Nat) (fl : Field), fs[j]? = some fl → ∃ y, DataW.trod enc P w base (fun _ => true) held k fl.type [q.getD j undef] = some y := by
      intro i hi
      obtain ⟨cs', h1, h2⟩ := hx i (by omega)
      rw [hC] at h1
      obtain ⟨_, hlen, hcell⟩ := World.cells?_some h1
      obtain ⟨xs, k, _, _, _, hxl, hfl⟩ := DataW.trod_struct he h2
      refine ⟨cs', hlen, hcell, k, fun j fl hj => ?_⟩
      have hlt : j < fs.size := (Array.getElem?_eq_some_iff.1 hj).1
      obtain ⟨ho, hc1⟩ := hone_of hone j fl hj
      have g := hfl j fl hj
      rw [ho, hc1, take1_drop cs' j undef (by omega), List.getElem?_eq_getElem (by omega)] at g
      exact ⟨_, g⟩
    obtain ⟨q, hq⟩ := choose_lt each
    refine ⟨fun i j => (q i).getD j undef, fun i hi j fl hj => ?_⟩
    have hlt : j < fs.size := (Array.getElem?_eq_some_iff.1 hj).1
    obtain ⟨g1, g2, k, g3⟩ := hq i hi
    refine ⟨?_, k, g3 j fl hj⟩
    have := g2 j hlt
    rw [add_add] at this
    show _ = some ((q i).getD j undef)
    rw [this, List.getElem?_eq_getElem (by omega), List.getD_eq_getElem?_getD, List.getElem?_eq_getElem (by omega)]
    rfl
/-- A slice of bytes in a cell that came in: a row. -/
theorem cell_bytes {t e : TypeId} {v : Value} {fuel : Nat} {y : DataW H × List MemPlace} (ht : P.underlying t = some (.slice e)) (he : P.underlying e = some (.int .u8)) (hc : P.cellsOf e = 1)
    (h : DataW.trod enc P w base (fun _ => true) held fuel t [v] = some y) :
    ∃ (a : Option Addr) (len cap : Nat) (bs : List Nat), v = .slice a len cap ∧ Row byteV w w.heap.size a len bs ∧ (∀ x ∈ bs, x < 256) ∧ len ≤ cap ∧ cap ≤ maxLen ∧ (a = none → cap = 0) := by
  rcases open_ints ht he hc h with ⟨hcs, _⟩ | ⟨x, l, c, zs, hcs, _, hl, hm, hz, _, hcell, hwz⟩
  · simp at hcs
    exact ⟨none, 0, 0, [], hcs, Row.none_ rfl rfl, by simp, Nat.le_refl _, by simp [maxLen], fun _ => rfl⟩
  · simp at hcs
    have hrow : IsRow .u8 w (some x) l c zs := .inr ⟨_, rfl, hl, hm, by simpa using hz, hcell, hwz⟩
    obtain ⟨bs, g1, g2, _, g4, g5⟩ := hrow.bytes
    exact ⟨some x, l, c, bs, hcs, g1, g2, g4, g5, fun h => by cases h⟩
/-- A number in a cell that came in. -/
theorem cell_int {t : TypeId} {k : IntKind} {v : Value} {fuel : Nat} {y : DataW H × List MemPlace} (ht : P.underlying t = some (.int k)) (h : DataW.trod enc P w base (fun _ => true) held fuel t [v] = some y) : ∃ n : Int, v = .int k n ∧ (Lit.int k n).wf = true := by
  obtain ⟨n, hn, _, hw⟩ := DataW.trod_int ht h
  simp at hn
  exact ⟨n, hn, hw⟩
end
end Go.Proofs.YtdnhfpphjpnklaaDoor

/- The calls that come in as a slice of structs. -/
namespace Go.Proofs.YtdnhfpphjpnklaaDoor
open Go.ChangeShapes Go.WideShapes Go.RowKit Go.Deep

/-- A call: what it is, a number, bytes, a set. -/
structure Item where
  do_ : Nat
  n : Int
  A : Option Addr
  len : Nat
  cap : Nat
  bs : List Nat
  m : Nat

instance : Inhabited Item := ⟨⟨0, 0, none, 0, 0, [], 0⟩⟩
def itemV (x : Item) : Nat → Value
  | 0 => .int .u8 (x.do_ : Int)
  | 1 => .int .i64 x.n
  | 2 => .slice x.A x.len x.cap
  | _ => .int .u32 (x.m : Int)
/-- What is known of it. -/
structure Item.Ok (x : Item) (w : World) (B : Nat) : Prop where
  d : x.do_ < 256
  n : -9223372036854775808 ≤ x.n ∧ x.n ≤ 9223372036854775807
  row : Row byteV w B x.A x.len x.bs
  by_ : ∀ y ∈ x.bs, y < 256
  lc : x.len ≤ x.cap
  cm : x.cap ≤ maxLen
  nil : x.A = none → x.cap = 0
  m : x.m < 4294967296
theorem Item.Ok.keep {x : Item} {w w' : World} {B : Nat} (h : x.Ok w B) (hk : ∀ p : Addr, p.block < B → w'.cell? p = w.cell? p) : x.Ok w' B := ⟨h.d, h.n, h.row.keep hk, h.by_, h.lc, h.cm, h.nil, h.m⟩
/-- The slice reads as these calls. -/
def Items (w : World) (B : Nat) (A : Option Addr) (n : Nat) (l : List Item) : Prop := Recs 4 itemV w B A n l ∧ ∀ x ∈ l, x.Ok w B
theorem Items.keep {w w' : World} {B : Nat} {A : Option Addr} {n : Nat} {l : List Item} (h : Items w B A n l) (hk : ∀ p : Addr, p.block < B → w'.cell? p = w.cell? p) : Items w' B A n l := ⟨h.1.keep hk, fun x hx => (h.2 x hx).keep hk⟩
theorem Items.below {w w' : World} {B : Nat} {A : Option Addr} {n : Nat} {l : List Item} (h : Items w B A n l) (hb : Below B w w') : Items w' B A n l := h.keep fun _ hp => hb.cell hp
theorem Items.get {w : World} {B : Nat} {A : Option Addr} {n : Nat} {l : List Item} (h : Items w B A n l) {k : Nat} (hk : k < n) :
    ∃ ad x, A = some ad ∧ ad.block < B ∧ l[k]? = some x ∧ x.Ok w B ∧ w.cell? (ad.add (k * 4)) = some (.int .u8 (x.do_ : Int)) ∧ w.cell? ⟨(ad.add (k * 4)).block, (ad.add (k * 4)).off + 1, none⟩ = some (.int .i64 x.n) ∧
      w.cell? ⟨(ad.add (k * 4)).block, (ad.add (k * 4)).off + 2, none⟩ = some (.slice x.A x.len x.cap) ∧ w.cell? ⟨(ad.add (k * 4)).block, (ad.add (k * 4)).off + 3, none⟩ = some (.int .u32 (x.m : Int)) := by
  obtain ⟨ad, x, e, hb, hx, hc0, hc⟩ := h.1.field hk
  exact ⟨ad, x, e, hb, hx, h.2 x (List.mem_of_getElem? hx), hc0 (by omega), hc 1 (by omega) (by omega), hc 2 (by omega) (by omega), hc 3 (by omega) (by omega)⟩

section
variable {H : Type} {enc : TypeId × Value → H} {P : Program} {w : World} {base : Nat} {held : Bool}
theorem slice_items {t e t2 : TypeId} {f0 f1 f2 f3 : Field} {a : Option Addr} {len cap : Nat} {d : DataW H} {ps : List MemPlace} (ht : P.underlying t = some (.slice e)) (he : P.underlying e = some (.struct #[f0, f1, f2, f3]))
    (hone : oneCellFields P #[f0, f1, f2, f3] = true) (hC : P.cellsOf e = 4) (h0 : P.underlying f0.type = some (.int .u8)) (h1 : P.underlying f1.type = some (.int .i64)) (h2 : P.underlying f2.type = some (.slice t2)) (h22 : P.underlying t2 = some (.int .u8)) (hc2 : P.cellsOf t2 = 1) (h3 : P.underlying f3.type = some (.int .u32))
    (h : DataW.Trod enc P w base (fun _ => true) held t (.slice a len cap) d ps) :
    ∃ l : List Item, Items w w.heap.size a len l ∧ len ≤ cap ∧ cap ≤ maxLen ∧ (a = none → cap = 0) := by
  obtain ⟨hl, hm, hnil, hsome, hall⟩ := open_recs ht he hone hC h
  rcases Nat.eq_zero_or_pos len with h00 | h00
  · exact ⟨[], ⟨⟨h00.symm ▸ rfl, fun h => by omega⟩, by simp⟩, hl, hm, hnil⟩
  · obtain ⟨ad, rfl⟩ := hsome h00
    obtain ⟨V, hV⟩ := hall ad rfl
    have each : ∀ i, i < len → ∃ x : Item, x.Ok w w.heap.size ∧ ∀ j, j < 4 → w.cell? (ad.add (i * 4 + j)) = some (itemV x j) := by
      intro i hi
      obtain ⟨c0, _, _, g0⟩ := hV i hi 0 f0 rfl
      obtain ⟨c1, _, _, g1⟩ := hV i hi 1 f1 rfl
      obtain ⟨c2, _, _, g2⟩ := hV i hi 2 f2 rfl
      obtain ⟨c3, _, _, g3⟩ := hV i hi 3 f3 rfl
      obtain ⟨n0, e0, w0⟩ := cell_int h0 g0
      obtain ⟨n1, e1, w1⟩ := cell_int h1 g1
      obtain ⟨A2, l2, cp2, bs, e2, r2, b2, lc2, cm2, nl2⟩ := cell_bytes h2 h22 hc2 g2
      obtain ⟨n3, e3, w3⟩ := cell_int h3 g3
      have u0 := u8_range _ w0
      have u3 := u32_range _ w3
      refine ⟨⟨n0.toNat, n1, A2, l2, cp2, bs, n3.toNat⟩, ⟨by show n0.toNat < 256; omega, int_i64 w1, r2, b2, lc2, cm2, nl2, by show n3.toNat < 4294967296; omega⟩, fun j hj => ?_⟩
      have k0 : ((n0.toNat : Nat) : Int) = n0 := Int.toNat_of_nonneg u0.1
      have k3 : ((n3.toNat : Nat) : Int) = n3 := Int.toNat_of_nonneg u3.1
      match j, hj with
      | 0, _ => rw [show itemV _ 0 = Value.int .u8 ((n0.toNat : Nat) : Int) from rfl, k0, ← e0]; exact c0
      | 1, _ => rw [show itemV _ 1 = Value.int .i64 n1 from rfl, ← e1]; exact c1
      | 2, _ => rw [show itemV _ 2 = Value.slice A2 l2 cp2 from rfl, ← e2]; exact c2
      | 3, _ => rw [show itemV _ 3 = Value.int .u32 ((n3.toNat : Nat) : Int) from rfl, k3, ← e3]; exact c3
    obtain ⟨X, hX⟩ := choose_lt each
    refine ⟨(List.range len).map X, ⟨⟨by simp, fun _ => ⟨ad, rfl, ?_, fun k x hx j hj => ?_⟩⟩, fun x hx => ?_⟩, hl, hm, hnil⟩
    · have := cell_block ((hX 0 h00).2 0 (by omega))
      rwa [add_block] at this
    · have hk : k < len := by have := (List.getElem?_eq_some_iff.1 hx).1; simpa using this
      rw [List.getElem?_map, List.getElem?_range hk] at hx
      cases hx
      exact (hX k hk).2 j hj
    · obtain ⟨i, hi, rfl⟩ := List.mem_map.1 hx
      exact (hX i (List.mem_range.1 hi)).1
end
end Go.Proofs.YtdnhfpphjpnklaaDoor
