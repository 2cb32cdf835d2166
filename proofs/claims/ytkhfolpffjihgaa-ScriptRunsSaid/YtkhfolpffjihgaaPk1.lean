/- Base, Mem, Kit, in one text. -/
import Derived.WalkKit
import Derived.Handy
import Derived.ProofKit
import Derived.Lib.Hide
import Derived.Below
import Derived.Deep.AppendLies
import Derived.Laws.AppendOwnNone
import Derived.Laws.BytesArg
import Derived.Deep.Draws
import Derived.Deep.DeepMust
import Derived.Laws.Rows
import Derived.Deep.MidRow
import Derived.Maps.AppendAt
import Derived.Test.YtkhfolpffjihgaaRows
namespace Go.Proofs.Ytkhfolpffjihgaa
open Go.RowKit
section
variable {P : Program} {ops : Array Oper} {Q : Exit → Act → World → Prop} {l : List Oper} {a : Act} {w : World}
abbrev Sl (n : Nat) {x1 : Op} {x2 : TypeId} {x3 : String} {x4 : Array Edge} {x5 : Option (Nat × Bool)} : Prop := wpList P ops Q (⟨some n, x1, x2, x3, x4, x5⟩ :: l) a w
abbrev Sn {x1 : Op} {x2 : TypeId} {x3 : String} {x4 : Array Edge} {x5 : Option (Nat × Bool)} : Prop := wpList P ops Q (⟨none, x1, x2, x3, x4, x5⟩ :: l) a w
end
theorem xM {k : IntKind} {a b : Int} (h : a = b) : Ending.returned (.int k a) = .returned (.int k b) := by rw [h]
theorem j8 (a : Addr) (k : Nat) : (a.add k).block = a.block := by unfold Addr.add; split <;> rfl
theorem qQ (a : Addr) (i j : Nat) : (a.add i).add j = a.add (i + j) := by
  unfold Addr.add
  by_cases hi : i = 0 <;> by_cases hj : j = 0 <;> simp [hi, hj, Nat.add_assoc]
structure Kept (p : Prop) : Prop where
  out : p
theorem kp {p : Prop} (h : p) : Kept p := ⟨h⟩
structure Row {α : Type} (f : α → Value) (w : World) (B : Nat) (A : Option Addr) (n : Nat) (l : List α) : Prop where
  len : l.length = n
  cells : 0 < n → ∃ ad, A = some ad ∧ ad.block < B ∧ ∀ k, k < n → w.cell? (ad.add k) = l[k]?.map f
variable {α : Type} {f : α → Value} {w w' : World} {B B' : Nat} {A : Option Addr} {n : Nat} {l : List α}
theorem Row.get (h : Row f w B A n l) {k : Nat} (hk : k < n) : ∃ ad x, A = some ad ∧ ad.block < B ∧ l[k]? = some x ∧ w.cell? (ad.add k) = some (f x) := by
  obtain ⟨ad, e, hb, hc⟩ := h.cells (by omega)
  have hl : k < l.length := by rw [h.len]; exact hk
  refine ⟨ad, l[k], e, hb, List.getElem?_eq_getElem hl, ?_⟩
  rw [hc k hk, List.getElem?_eq_getElem hl]; rfl
theorem Row.keep (h : Row f w B A n l) (hk : ∀ p : Addr, p.block < B → w'.cell? p = w.cell? p) : Row f w' B A n l :=
  ⟨h.len, fun hn => by
    obtain ⟨ad, e, hb, hc⟩ := h.cells hn
    exact ⟨ad, e, hb, fun k hlt => (hk _ (by rw [j8]; exact hb)).trans (hc k hlt)⟩⟩
theorem Row.below (h : Row f w B A n l) (hb : Below B w w') : Row f w' B A n l := h.keep fun _ hp => hb.cell hp
theorem Row.more (h : Row f w B A n l) (hB : B ≤ B') : Row f w B' A n l :=
  ⟨h.len, fun hn => by obtain ⟨ad, e, hb, hc⟩ := h.cells hn; exact ⟨ad, e, by omega, hc⟩⟩
theorem Row.take (h : Row f w B A n l) {k : Nat} (hk : k ≤ n) : Row f w B A k (l.take k) :=
  ⟨by rw [List.length_take, h.len]; omega, fun h0 => by
    obtain ⟨ad, e, hb, hc⟩ := h.cells (by omega)
    exact ⟨ad, e, hb, fun j hj => by rw [hc j (by omega), List.getElem?_take, if_pos hj]⟩⟩
theorem Row.cutAt {ad : Addr} (h : Row f w B (some ad) n l) {k : Nat} (hk : k ≤ n) : Row f w B (some (ad.add k)) (n - k) (l.drop k) :=
  ⟨by rw [List.length_drop, h.len], fun h0 => by
    obtain ⟨ad', e, hb, hc⟩ := h.cells (by omega)
    cases e
    refine ⟨_, rfl, by rw [j8]; exact hb, fun j hj => ?_⟩
    rw [qQ, hc (k + j) (by omega), List.getElem?_drop]⟩
theorem Row.none_ {A : Option Addr} (h : l = []) (hn : n = 0) : Row f w B A n l := ⟨by rw [h, hn]; rfl, fun h0 => by omega⟩
theorem Row.drew (h : Row f w B A n l) : Row f w.drew B A n l := ⟨h.len, h.cells⟩
def byteV (b : Nat) : Value := .int .u8 (b : Int)
def Own (w : World) (B : Nat) (e : TypeId) (v : Value) (xs : List Value) : Prop := w.ownsRow B e 1 v xs.length xs
theorem Own.nil (w : World) (B : Nat) (e : TypeId) : Own w B e (.slice none 0 0) [] := World.ownsRow_nil w B e 1
theorem Own.new (w : World) (B : Nat) (e : TypeId) (xs : List Value) (hB : B ≤ w.heap.size) (hm : xs.length ≤ maxLen) :
    Own (w.alloc (.cells xs.toArray e)) B e (.slice (some ⟨w.heap.size, 0, none⟩) xs.length xs.length) xs := by
  have h := World.ownsRow_lit (size := 1) (e := e) w xs.toArray xs.length hB hm (by simp)
  unfold Own; simpa using h
theorem Own.form {e : TypeId} {v : Value} {xs : List Value} (h : Own w B e v xs) : ∃ A cap, v = .slice A xs.length cap ∧ xs.length ≤ cap ∧ cap ≤ maxLen ∧ Row (fun u => u) w w.heap.size A xs.length xs ∧ (∀ ad, A = some ad → B ≤ ad.block) := by
  rcases h.2 with ⟨rfl, h0⟩ | ⟨g, cap, cur, rfl, hB, hg, hn, hm, hs, ht⟩
  · refine ⟨none, 0, by rw [h0], by omega, by simp [maxLen], ⟨rfl, fun h => by omega⟩, fun _ h => by cases h⟩
  · refine ⟨_, cap, rfl, hn, hm, ⟨rfl, fun h0 => ⟨_, rfl, ?_, fun k hk => ?_⟩⟩, fun ad h => by cases h; exact hB⟩
    · rcases Nat.lt_or_ge g w.heap.size with hlt | hge
      · exact hlt
      · rw [Array.getElem?_eq_none hge] at hg; cases hg
    · have hadd : (⟨g, 0, none⟩ : Addr).add k = ⟨g, k, none⟩ := by unfold Addr.add; split <;> simp_all
      rw [hadd, cell_of_row w g k cur e (0, 0) hg, ← Array.getElem?_toList]
      have : xs[k]? = cur.toList[k]? := by
        conv => lhs; rw [← ht]
        rw [List.getElem?_take, if_pos (by omega)]
      rw [this]; cases cur.toList[k]? <;> rfl
theorem Own.bytes {e : TypeId} {v : Value} {bs : List Nat} (h : Own w B e v (bs.map byteV)) : ∃ A cap, v = .slice A bs.length cap ∧ bs.length ≤ cap ∧ cap ≤ maxLen ∧ Row byteV w w.heap.size A bs.length bs := by
  obtain ⟨A, cap, hv, hc, hm, hr, _⟩ := h.form
  rw [List.length_map] at hv hc hr
  refine ⟨A, cap, hv, hc, hm, ⟨rfl, fun h0 => ?_⟩⟩
  obtain ⟨ad, e1, hb, hcell⟩ := hr.cells h0
  exact ⟨ad, e1, hb, fun k hk => by rw [hcell k hk, List.getElem?_map]; cases bs[k]? <;> rfl⟩
theorem Own.bytesN {e : TypeId} {v : Value} {bs : List Nat} {n : Nat} (h : Own w B e v (bs.map byteV)) (hn : bs.length = n) : ∃ A cap, v = .slice A n cap ∧ n ≤ cap ∧ cap ≤ maxLen ∧ Row byteV w w.heap.size A n bs := by
  subst hn; exact h.bytes
theorem Own.readsN {α : Type} {f : α → Value} {e : TypeId} {v : Value} {l : List α} {n : Nat} (h : Own w B e v (l.map f)) (hn : l.length = n) : ∃ A cap, v = .slice A n cap ∧ n ≤ cap ∧ cap ≤ maxLen ∧ Row f w w.heap.size A n l := by
  subst hn
  obtain ⟨A, cap, hv, hc, hm, hr, _⟩ := h.form
  rw [List.length_map] at hv hc hr
  refine ⟨A, cap, hv, hc, hm, ⟨rfl, fun h0 => ?_⟩⟩
  obtain ⟨ad, e1, hb, hcell⟩ := hr.cells h0
  exact ⟨ad, e1, hb, fun k hk => by rw [hcell k hk, List.getElem?_map]; cases l[k]? <;> rfl⟩
theorem Own.block {e : TypeId} {v : Value} {xs : List Value} (h : Own w B e v xs) : ∀ k, v.ownBlock = some k → B ≤ k ∧ k < w.heap.size := World.ownsRow.lt h
theorem Own.far {e : TypeId} {v : Value} {xs : List Value} {row : Option Nat} (h : Own w B e v xs) (hg : w.grownBy w' row) (hne : v.ownBlock = none ∨ v.ownBlock ≠ row) : Own w' B e v xs := World.ownsRow.kept h hg hne
theorem Own.below {e : TypeId} {v : Value} {xs : List Value} {C : Nat} (h : Own w B e v xs) (hb : Below C w w') (hC : w.heap.size ≤ C) : Own w' B e v xs :=
  World.ownsRow.kept (row := none) h ⟨hb.os, hb.tape, hb.output, hb.size, fun k hk _ => hb.block k (by omega)⟩ (by
    rcases h.2 with ⟨rfl, h0⟩ | ⟨g, cap, cur, rfl, _⟩
    · exact .inl rfl
    · exact .inr (by simp [Value.ownBlock]))
theorem Own.less {e : TypeId} {v : Value} {xs : List Value} (h : Own w B e v xs) (hB : B' ≤ B) : Own w B' e v xs := by
  rcases h.2 with ⟨h1, h0⟩ | ⟨g, cap, cur, rfl, hB1, hg, hn, hm, hs, ht⟩
  · exact ⟨h.1, .inl ⟨h1, h0⟩⟩
  · exact ⟨h.1, .inr ⟨g, cap, cur, rfl, by omega, hg, hn, hm, hs, ht⟩⟩
theorem grown_alloc (w : World) (o : Obj) (row : Option Nat) {w' : World} (h : (w.alloc o).grownBy w' row) : w.grownBy w' row :=
  ⟨h.os, h.tape, h.output, by have := h.size; simp at this; omega, fun k hk hne => (h.block k (by simp; omega) hne).trans (Below.heap_alloc w o k hk)⟩
def Grew (w w' : World) (v v' : Value) : Prop := w.grownBy w' v.ownBlock ∧ (v'.ownBlock = v.ownBlock ∨ ∀ g, v'.ownBlock = some g → w.heap.size ≤ g)
theorem Grew.refl (w : World) (v : Value) : Grew w w v v := ⟨World.grownBy.refl w _, .inl rfl⟩
theorem Grew.size {v v' : Value} (h : Grew w w' v v') : w.heap.size ≤ w'.heap.size := h.1.size
theorem Grew.trans {w1 w2 w3 : World} {v1 v2 v3 : Value} (h : Grew w1 w2 v1 v2) (k : Grew w2 w3 v2 v3) : Grew w1 w3 v1 v3 := by
  refine ⟨⟨k.1.os.trans h.1.os, k.1.tape.trans h.1.tape, k.1.output.trans h.1.output, Nat.le_trans h.1.size k.1.size, fun i hi hne => ?_⟩, ?_⟩
  · refine (k.1.block i (Nat.lt_of_lt_of_le hi h.1.size) ?_).trans (h.1.block i hi hne)
    rcases h.2 with h2 | h2
    · rw [h2]; exact hne
    · intro e
      have := h2 i e.symm
      omega
  · rcases k.2 with k2 | k2
    · rcases h.2 with h2 | h2
      · exact .inl (k2.trans h2)
      · exact .inr fun g hg => h2 g (by rw [← k2]; exact hg)
    · exact .inr fun g hg => Nat.le_trans h.1.size (k2 g hg)
theorem Grew.below {v v' : Value} {w0 : World} {e : TypeId} {xs : List Value} (h : Grew w w' v v') (hb : Below B w0 w) (ho : Own w B e v xs) (hB : B ≤ w.heap.size) : Below B w0 w' :=
  hb.grown h.1 hB fun k hk => (ho.block k hk).1
theorem Grew.drew {v v' : Value} (h : Grew w w' v v') : Grew w w'.drew v v' := ⟨⟨h.1.os, h.1.tape, h.1.output, h.1.size, h.1.block⟩, h.2⟩
theorem lG {P : Program} {ops : Array Oper} {rest : List Oper} {o : Oper} {a : Act} {Q : Exit → Act → World → Prop} (hgd : o.guard = none) (s x : Operand) (t : TypeId)
    (ho : o.op = .call { callee := .builtin .append, args := #[s, x], argTypes := #[t, t] })
    (B : Nat) (e : TypeId) (z : Value) (bytes : Nat) (ht : P.underlying t = some (.slice e)) (hi : (P.info? e).map (fun i => (i.zero, i.size, i.bytes)) = some (some z, 1, bytes)) (hzs : z.cells.size = 1)
    (w : World) (v : Value) (xs : List Value) (u : Value) (hs : a.eval s = v) (hown : Own w B e v xs) (ad : Addr) (c : Nat) (hx : a.eval x = .slice (some ad) 1 c) (had : ad = ⟨w.heap.size, 0, none⟩)
    (h1 : u.oneCell' = true) (h63 : xs.length + 1 ≤ maxLen) (hbytes : (xs.length + 1) * bytes ≤ 140737488355328) (hB : B ≤ w.heap.size)
    (h : ∀ v' w', Own w' B e v' (xs ++ [u]) → Grew w w' v v' → wpList P ops Q rest (a.put o.dst v') w') : wpList P ops Q (o :: rest) a (w.alloc (.cells #[u] e)) := by
  subst had
  obtain ⟨i, hi0, hz, hsize, hby⟩ := info_parts hi
  refine wpList_append_lies _ hgd s x t ho B e i z 1 bytes ht hi0 hz hsize hby hzs (by omega) v xs.length xs hs (World.ownsRow.alloc hown _) _ 1 c [u] hx (by simp) (cell_one_new w u e) (by simpa using h1)
    (by omega) h63 hbytes (by simp; omega) _ rfl ?_
  intro g cap w' h2 h3 h4 h5
  refine h _ w' ?_ ⟨grown_alloc _ _ _ h3, ?_⟩
  rotate_left
  · rcases h4 with h4 | h4
    · exact .inl h4.symm
    · refine .inr fun k hk => ?_
      have : g = k := by simpa [Value.ownBlock] using hk
      subst this
      rw [h4]; simp
  unfold Own
  rw [List.length_append, List.length_singleton]
  exact h2
theorem ones {α : Type} (f : α → Value) (hf : ∀ x, (f x).oneCell' = true) (l : List α) : ∀ u ∈ l.map f, u.oneCell' = true := by
  intro u hu
  obtain ⟨x, _, rfl⟩ := List.mem_map.1 hu
  exact hf x
def strOf (bs : List Nat) : ByteArray := ⟨(bs.map UInt8.ofNat).toArray⟩
theorem run_string {P : Program} {w : World} {B : Nat} {A : Option Addr} {n : Nat} {bs : List Nat} (h : Row byteV w B A n bs) (src e dst : TypeId) (c : Nat)
    (hs : P.underlying src = some (.slice e)) (he : P.underlying e = some (.int .u8)) (hd : P.underlying dst = some .string) :
    (convert src dst (.slice A n c)).run P w = .ok (.string (strOf bs)) w := by
  rcases A with _ | ad
  · have hn : n = 0 := by
      rcases Nat.eq_zero_or_pos n with h0 | h0
      · exact h0
      · obtain ⟨_, h, _⟩ := h.cells h0
        cases h
    subst hn
    have hb : bs = [] := List.eq_nil_of_length_eq_zero h.len
    subst hb
    exact run_convert_bytes_nil w src e hs he 0 c dst hd
  · have hl : (loadCells ad n).run P w = .ok ((bs.map fun b : Nat => (b : Int)).map (Value.int .u8)).toArray w := by
      have := run_loadCells_list (P := P) w ad ((bs.map fun b : Nat => (b : Int)).map (Value.int .u8)) (fun j v hj => by
        have hjl : j < n := by
          have := (List.getElem?_eq_some_iff.1 hj).1
          rw [List.length_map, List.length_map, h.len] at this; exact this
        obtain ⟨ad', x, e1, _, hx, hc⟩ := h.get hjl
        cases e1
        rw [hc]
        simp [hx] at hj
        rw [← hj]; rfl)
      simpa [h.len] using this
    rw [run_convert_bytes_string w src dst e _ n c hs he hd, run_bytesToString w _ n c _ hl, foldl_push_bytes]
    simp [strOf, ByteArray.empty, ByteArray.emptyWithCapacity]
    rfl
def IsRow (k : IntKind) (w : World) (a : Option Addr) (len cap : Nat) (zs : List Int) : Prop :=
  (a = none ∧ len = 0 ∧ cap = 0 ∧ zs = []) ∨
  ∃ x, a = some x ∧ len ≤ cap ∧ cap ≤ maxLen ∧ zs.length = cap ∧ (∀ i, i < zs.length → w.cell? (x.add i) = some (.int k (zs.getD i 0))) ∧ ∀ n ∈ zs, (Lit.int k n).wf = true
theorem xK {w : World} {a : Addr} {v : Value} (h : w.cell? a = some v) : a.block < w.heap.size := by
  rcases Nat.lt_or_ge a.block w.heap.size with hlt | hge
  · exact hlt
  · unfold World.cell? at h
    rw [Array.getElem?_eq_none hge] at h
    cases h
theorem IsRow.nats {k : IntKind} {w : World} {a : Option Addr} {len cap : Nat} {zs : List Int} (h : IsRow k w a len cap zs) (M : Nat) (hM : ∀ n : Int, (Lit.int k n).wf = true → 0 ≤ n ∧ n < (M : Int)) :
    ∃ l : List Nat, Row (fun b : Nat => .int k (b : Int)) w w.heap.size a len l ∧ (∀ x ∈ l, x < M) ∧ len ≤ maxLen ∧ len ≤ cap ∧ cap ≤ maxLen := by
  rcases h with ⟨rfl, rfl, rfl, rfl⟩ | ⟨x, rfl, hl, hm, hz, hc, hw⟩
  · exact ⟨[], ⟨rfl, fun h => by omega⟩, by simp, by simp [maxLen], by omega, by simp [maxLen]⟩
  · refine ⟨(zs.take len).map Int.toNat, ⟨by simp; omega, fun h0 => ⟨x, rfl, ?_, fun k hk => ?_⟩⟩, ?_, by omega, hl, hm⟩
    · have := xK (hc 0 (by omega))
      rwa [j8] at this
    · rw [hc k (by omega)]
      have hk2 : k < zs.length := by omega
      rw [List.getElem?_map, List.getElem?_take, if_pos hk, List.getElem?_eq_getElem hk2, List.getD_eq_getElem?_getD, List.getElem?_eq_getElem hk2]
      have := (hM _ (hw _ (List.getElem_mem hk2))).1
      simp [Int.toNat_of_nonneg this]
    · intro y hy
      obtain ⟨n, hn, rfl⟩ := List.mem_map.1 hy
      have := hM n (hw n (List.mem_of_mem_take hn))
      omega
theorem u8_range (n : Int) (h : (Lit.int .u8 n).wf = true) : 0 ≤ n ∧ n < 256 := by
  simp [Lit.wf, IntKind.min, IntKind.max, IntKind.bits, IntKind.signed] at h; omega
theorem IsRow.bytes {w : World} {a : Option Addr} {len cap : Nat} {zs : List Int} (h : IsRow .u8 w a len cap zs) :
    ∃ l : List Nat, Row byteV w w.heap.size a len l ∧ (∀ x ∈ l, x < 256) ∧ len ≤ maxLen ∧ len ≤ cap ∧ cap ≤ maxLen := h.nats 256 u8_range
theorem Row.made {α : Type} (f : α → Value) (w : World) (l : List α) (cs : Array Value) (hcs : cs.toList = l.map f) (e : TypeId) : Row f (w.alloc (.cells cs e)) (w.alloc (.cells cs e)).heap.size (some ⟨w.heap.size, 0, none⟩) l.length l :=
  ⟨rfl, fun _ => ⟨_, rfl, by simp, fun k _ => by
    have hadd : (⟨w.heap.size, 0, none⟩ : Addr).add k = ⟨w.heap.size, k, none⟩ := by unfold Addr.add; split <;> simp_all
    rw [hadd, cell_of_row _ w.heap.size k cs e (0, 0) (heap_alloc_new w _), ← Array.getElem?_toList, hcs, List.getElem?_map]⟩⟩
def Blk (w : World) (g : Nat) (t : TypeId) (cs : List Value) : Prop := w.heap[g]? = some (.cells cs.toArray t (0, 0))
theorem Blk.lt {w : World} {g : Nat} {t : TypeId} {cs : List Value} (h : Blk w g t cs) : g < w.heap.size := by
  rcases Nat.lt_or_ge g w.heap.size with hlt | hge
  · exact hlt
  · unfold Blk at h
    rw [Array.getElem?_eq_none hge] at h; cases h
theorem Blk.cell {w : World} {g : Nat} {t : TypeId} {cs : List Value} (h : Blk w g t cs) (k : Nat) : w.cell? ⟨g, k, none⟩ = cs[k]? := by
  rw [cell_of_row w g k cs.toArray t (0, 0) h]; simp
theorem Blk.frozen {w : World} {g : Nat} {t : TypeId} {cs : List Value} (h : Blk w g t cs) (k : Nat) : w.frozen? ⟨g, k, none⟩ = false := frozen_of_row w g k cs.toArray t h
theorem Blk.set {w : World} {g : Nat} {t : TypeId} {cs : List Value} (h : Blk w g t cs) (k : Nat) (v : Value) : Blk (w.setCell ⟨g, k, none⟩ v) g t (cs.set k v) := by
  have := heap_setCell_same w g k cs.toArray t v h
  unfold Blk; simpa using this
theorem Blk.other {w : World} {g : Nat} {t : TypeId} {cs : List Value} (h : Blk w g t cs) (a : Addr) (v : Value) (hne : g ≠ a.block) : Blk (w.setCell a v) g t cs := by
  unfold Blk; rw [heap_setCell_other w a g v hne]; exact h
theorem Blk.alloc {w : World} {g : Nat} {t : TypeId} {cs : List Value} (h : Blk w g t cs) (o : Obj) : Blk (w.alloc o) g t cs := by
  unfold Blk; rw [Below.heap_alloc w o g h.lt]; exact h
theorem Blk.new (w : World) (t : TypeId) (cs : List Value) : Blk (w.alloc (.cells cs.toArray t)) w.heap.size t cs := heap_alloc_new w _
theorem Blk.newA (w : World) (t : TypeId) (c : Array Value) (cs : List Value) (hc : c = cs.toArray) : Blk (w.alloc (.cells c t)) w.heap.size t cs := by subst hc; exact heap_alloc_new w _
theorem Blk.newAt {w : World} {t : TypeId} {c : Array Value} {cs : List Value} {g : Nat} (hc : c = cs.toArray) (hg : g = w.heap.size) : Blk (w.alloc (.cells c t)) g t cs := by subst hc; subst hg; exact heap_alloc_new w _
theorem Blk.below {w w' : World} {g B : Nat} {t : TypeId} {cs : List Value} (h : Blk w g t cs) (hb : Below B w w') (hg : g < B) : Blk w' g t cs := by
  unfold Blk; rw [hb.block g hg]; exact h
theorem Blk.grown {w w' : World} {g : Nat} {t : TypeId} {cs : List Value} {row : Option Nat} (h : Blk w g t cs) (hg : w.grownBy w' row) (hne : some g ≠ row) : Blk w' g t cs := by
  unfold Blk; rw [hg.block g h.lt hne]; exact h
theorem Blk.drewN {w : World} {g : Nat} {t : TypeId} {cs : List Value} (h : Blk w g t cs) (n : Nat) : Blk (w.drewN n) g t cs := h
theorem Blk.range {w : World} {g : Nat} {t : TypeId} {cs : List Value} (h : Blk w g t cs) (o n : Nat) : w.rangeAt g o ((cs.drop o).take n) := by
  intro j v hv
  rw [h.cell (o + j)]
  rw [List.getElem?_take] at hv
  split at hv
  · rw [List.getElem?_drop] at hv; exact hv
  · cases hv
theorem Blk.row {α : Type} {f : α → Value} {w : World} {g B : Nat} {t : TypeId} {l : List α} (h : Blk w g t (l.map f)) {n : Nat} (hn : l.length = n) (hB : w.heap.size ≤ B) : Row f w B (some ⟨g, 0, none⟩) n l :=
  ⟨hn, fun _ => ⟨_, rfl, Nat.lt_of_lt_of_le h.lt hB, fun k _ => by
    have hadd : (⟨g, 0, none⟩ : Addr).add k = ⟨g, k, none⟩ := by unfold Addr.add; split <;> simp_all
    rw [hadd, h.cell k, List.getElem?_map]⟩⟩
theorem xG (w : World) (row : Option Nat) : w.grownBy w row := World.grownBy.refl w row
theorem xX {w w' : World} {g k : Nat} {v : Value} (h : w.grownBy w' (some g)) : w.grownBy (w'.setCell ⟨g, k, none⟩ v) (some g) :=
  ⟨h.os, h.tape, h.output, by simpa using h.size, fun i hi hne => (heap_setCell_other w' _ i v (by intro e; exact hne (by rw [e]))).trans (h.block i hi hne)⟩
theorem jM {w w' : World} (hb : Below w.heap.size w w') (row : Option Nat) : w.grownBy w' row := ⟨hb.os, hb.tape, hb.output, hb.size, fun i hi _ => hb.block i hi⟩
theorem l2 {w w1 w2 : World} {row : Option Nat} (h : w.grownBy w1 row) (k : w1.grownBy w2 row) : w.grownBy w2 row := World.grownBy.trans h k
theorem Row.grown {α : Type} {f : α → Value} {w w' : World} {B n : Nat} {ad : Option Addr} {l : List α} {row : Option Nat} (h : Row f w B ad n l) (hg : w.grownBy w' row) (hB : B ≤ w.heap.size) (hne : ∀ a, 0 < n → ad = some a → some a.block ≠ row) : Row f w' B ad n l :=
  ⟨h.len, fun h0 => by
    obtain ⟨a, e, hb, hc⟩ := h.cells h0
    refine ⟨a, e, hb, fun k hk => ?_⟩
    rw [← hc k hk]
    refine World.cell?_of_block (w := w) ?_
    rw [j8]
    exact hg.block a.block (by omega) (hne a h0 e)⟩
theorem j1 {P : Program} {ops : Array Oper} {rest : List Oper} {o : Oper} {a : Act} {w : World} {Q : Exit → Act → World → Prop} (hgd : o.guard = none) (ty : TypeId) (x : Operand) (ho : o.op = .load ty x)
    (g : Nat) (hx : a.eval x = .pointer (some ⟨g, 0, none⟩)) (t : TypeId) (cs : List Value) (d : TypeDesc) (hg : Blk w g t cs)
    (hu : P.underlying ty = some d) (hd : (match d with | .struct _ | .array _ _ => true | _ => false) = true) (hi : (P.info? ty).map (·.size) = some cs.length)
    (h : wpList P ops Q rest (a.put o.dst (.agg cs.toArray)) w) : wpList P ops Q (o :: rest) a w :=
  wpList_load_row hgd ty x ho g hx t cs.toArray (0, 0) d hg hu hd (by simpa using hi) h
theorem j4 {P : Program} {ops : Array Oper} {rest : List Oper} {o : Oper} {a : Act} {w : World} {Q : Exit → Act → World → Prop} (hgd : o.guard = none) (ty : TypeId) (x y : Operand) (ho : o.op = .store ty x y)
    (g : Nat) (cs : List Value) (hx : a.eval x = .pointer (some ⟨g, 0, none⟩)) (hy : a.eval y = .agg cs.toArray)
    (t : TypeId) (old : List Value) (hg : Blk w g t old) (hi : (P.info? ty).map (·.size) = some cs.length) (hold : old.length = cs.length) (h1 : ∀ u ∈ cs, u.oneCell' = true)
    (h : ∀ w', Blk w' g t cs → w.grownBy w' (some g) → w'.heap.size = w.heap.size → wpList P ops Q rest (a.put o.dst undef) w') : wpList P ops Q (o :: rest) a w :=
  wpList_store_row hgd ty x y ho g cs.toArray hx hy t old.toArray hg (by simpa using hi) (by simpa using hold) (all_oneCell_toArray h1)
    (h _ (setRow_heap w g _ _ t _ hg) ⟨rfl, rfl, rfl, by simp, fun i _ hne => setRow_other w g i _ (by intro e; exact hne (by rw [e]))⟩ (by simp))
theorem jJ {P : Program} {fn : Func} {p : Tmp} {ty : TypeId} (h : fn.results = #[.cell p ty]) (tmps : Array Value) (w : World) (g : Nat) (t : TypeId) (cs : List Value) (d : TypeDesc)
    (hp : tmps.getD p undef = .pointer (some ⟨g, 0, none⟩)) (hg : Blk w g t cs)
    (hu : P.underlying ty = some d) (hd : (match d with | .struct _ | .array _ _ => true | _ => false) = true) (hi : (P.info? ty).map (·.size) = some cs.length) :
    (results fn tmps).run P w = .ok (.agg cs.toArray) w := results_cell_row h tmps w g t cs.toArray (0, 0) d hp hg hu hd (by simpa using hi)
def natV (n : Nat) : Value := .int .i64 (n : Int)
theorem yQ (n : Nat) : natV n = .int .i64 (n : Int) := rfl
def intV (n : Int) : Value := .int .i64 n
theorem jH {a b : Bool} (h : a = b) : Ending.returned (.bool a) = Ending.returned (.bool b) := by rw [h]
theorem jE {B : Nat} {a w : World} (h : Below B a w) (n : Nat) : Below B a (w.drewN n) := ⟨h.os, h.tape, h.output, h.size, h.block⟩
theorem qO {x : Int} (h : (Lit.int .i64 x).wf = true) : -9223372036854775808 ≤ x ∧ x ≤ 9223372036854775807 := by
  simp [Lit.wf, IntKind.min, IntKind.max, IntKind.bits, IntKind.signed] at h; omega
theorem xZ : (Try.prog.info? 5).map (fun i => (i.zero, i.size, i.bytes)) = some (some (.int .u8 0), 1, 1) := by kernel_rfl
theorem int_info : (Try.prog.info? 3).map (fun i => (i.zero, i.size, i.bytes)) = some (some (.int .i64 0), 1, 8) := by kernel_rfl
theorem size1b : (Try.prog.info? 5).map (·.size) = some 1 := by kernel_rfl
theorem l5 : (Try.prog.info? 3).map (·.size) = some 1 := by kernel_rfl
end Go.Proofs.Ytkhfolpffjihgaa
