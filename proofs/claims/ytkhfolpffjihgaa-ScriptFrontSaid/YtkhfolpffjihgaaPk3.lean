/- ProgIn, Arr, ProgMath, in one text. -/
import Derived.Test.YtkhfolpffjihgaaPk2
import Derived.Test.YtkhfolpffjihgaaPk1
namespace Go.Proofs.Ytkhfolpffjihgaa
open Go.ChangeShapes Go.WideShapes Go.RowKit Go.Deep
structure Nd where
  kind : Int
  arg : Int
  next : Int
  alt : Int
instance : Inhabited Nd := ⟨⟨0, 0, 0, 0⟩⟩
def ndV (x : Nd) : Nat → Value
  | 0 => .int .i64 x.kind
  | 1 => .int .i64 x.arg
  | 2 => .int .i64 x.next
  | _ => .int .i64 x.alt
def I64 (x : Int) : Prop := -9223372036854775808 ≤ x ∧ x ≤ 9223372036854775807
structure Nd.Ok (x : Nd) : Prop where
  kind : I64 x.kind
  arg : I64 x.arg
  next : I64 x.next
  alt : I64 x.alt
def ndA (x : Nd) : Value := .agg #[.int .i64 x.kind, .int .i64 x.arg, .int .i64 x.next, .int .i64 x.alt]
def Nodes (w : World) (B : Nat) (A : Option Addr) (n : Nat) (l : List Nd) : Prop := Recs 4 ndV w B A n l ∧ ∀ x ∈ l, x.Ok
theorem Nodes.keep {w w' : World} {B : Nat} {A : Option Addr} {n : Nat} {l : List Nd} (h : Nodes w B A n l) (hk : ∀ p : Addr, p.block < B → w'.cell? p = w.cell? p) : Nodes w' B A n l := ⟨h.1.keep hk, h.2⟩
theorem Nodes.get {w : World} {B : Nat} {A : Option Addr} {n : Nat} {l : List Nd} (h : Nodes w B A n l) {k : Nat} (hk : k < n) :
    ∃ ad x, A = some ad ∧ ad.block < B ∧ l[k]? = some x ∧ x.Ok ∧ w.cell? (ad.add (k * 4)) = some (.int .i64 x.kind) ∧ w.cell? ⟨(ad.add (k * 4)).block, (ad.add (k * 4)).off + 1, none⟩ = some (.int .i64 x.arg) ∧
      w.cell? ⟨(ad.add (k * 4)).block, (ad.add (k * 4)).off + 2, none⟩ = some (.int .i64 x.next) ∧ w.cell? ⟨(ad.add (k * 4)).block, (ad.add (k * 4)).off + 3, none⟩ = some (.int .i64 x.alt) := by
  obtain ⟨ad, x, e, hb, hx, hc0, hc⟩ := h.1.field hk
  exact ⟨ad, x, e, hb, hx, h.2 x (List.mem_of_getElem? hx), hc0 (by omega), hc 1 (by omega) (by omega), hc 2 (by omega) (by omega), hc 3 (by omega) (by omega)⟩
structure Fn where
  A : Option Addr
  len : Nat
  cap : Nat
  nodes : List Nd
instance : Inhabited Fn := ⟨⟨none, 0, 0, []⟩⟩
def fnV (f : Fn) : Value := .slice f.A f.len f.cap
structure Fn.Ok (f : Fn) (w : World) (B : Nat) : Prop where
  nodes : Nodes w B f.A f.len f.nodes
  lc : f.len ≤ f.cap
  cm : f.cap ≤ maxLen
  nil : f.A = none → f.cap = 0
structure Pg where
  g : Int
  l : Int
  s : Int
  A : Option Addr
  len : Nat
  cap : Nat
  fns : List Fn
def pgA (p : Pg) : Value := .agg #[.int .i64 p.g, .int .i64 p.l, .int .i64 p.s, .slice p.A p.len p.cap]
def pgC (p : Pg) : List Value := [.int .i64 p.g, .int .i64 p.l, .int .i64 p.s, .slice p.A p.len p.cap]
structure Pg.Ok (p : Pg) (w : World) (B : Nat) : Prop where
  g : I64 p.g
  l : I64 p.l
  s : I64 p.s
  row : Row fnV w B p.A p.len p.fns
  fns : ∀ f ∈ p.fns, f.Ok w B
  lc : p.len ≤ p.cap
  cm : p.cap ≤ maxLen
  nil : p.A = none → p.cap = 0
theorem Fn.Ok.keep {f : Fn} {w w' : World} {B : Nat} (h : f.Ok w B) (hk : ∀ p : Addr, p.block < B → w'.cell? p = w.cell? p) : f.Ok w' B := ⟨h.nodes.keep hk, h.lc, h.cm, h.nil⟩
theorem Pg.Ok.keep {p : Pg} {w w' : World} {B : Nat} (h : p.Ok w B) (hk : ∀ p : Addr, p.block < B → w'.cell? p = w.cell? p) : p.Ok w' B :=
  ⟨h.g, h.l, h.s, h.row.keep hk, fun f hf => (h.fns f hf).keep hk, h.lc, h.cm, h.nil⟩
theorem Pg.Ok.below {p : Pg} {w w' : World} {B : Nat} (h : p.Ok w B) (hb : Below B w w') : p.Ok w' B := h.keep fun _ hp => hb.cell hp
theorem Pg.Ok.drewN {p : Pg} {w : World} {B : Nat} (h : p.Ok w B) (k : Nat) : p.Ok (w.drewN k) B := h.keep fun _ _ => rfl
theorem Pg.Ok.fn {p : Pg} {w : World} {B : Nat} (h : p.Ok w B) {k : Nat} (hk : k < p.len) :
    ∃ ad f, p.A = some ad ∧ ad.block < B ∧ p.fns[k]? = some f ∧ f.Ok w B ∧ w.cell? (ad.add k) = some (.slice f.A f.len f.cap) := by
  obtain ⟨ad, f, e, hb, hx, hc⟩ := h.row.get hk
  exact ⟨ad, f, e, hb, hx, h.fns f (List.mem_of_getElem? hx), hc⟩
section
variable {H : Type} {enc : TypeId × Value → H} {P : Program} {w : World} {base : Nat} {held : Bool}
theorem cell_nodes {t e : TypeId} {f0 f1 f2 f3 : Field} {v : Value} {fuel : Nat} {y : DataW H × List MemPlace} (ht : P.underlying t = some (.slice e)) (he : P.underlying e = some (.struct #[f0, f1, f2, f3]))
    (hone : oneCellFields P #[f0, f1, f2, f3] = true) (hC : P.cellsOf e = 4) (h0 : P.underlying f0.type = some (.int .i64)) (h1 : P.underlying f1.type = some (.int .i64)) (h2 : P.underlying f2.type = some (.int .i64)) (h3 : P.underlying f3.type = some (.int .i64))
    (h : DataW.trod enc P w base (fun _ => true) held fuel t [v] = some y) : ∃ f : Fn, v = fnV f ∧ f.Ok w w.heap.size := by
  have hv : ∃ a len cap, v = .slice a len cap := by
    rcases open_slice ht h with ⟨hcs, _⟩ | ⟨x, l, c, _, _, _, _, hcs, _⟩
    · simp at hcs; exact ⟨_, _, _, hcs⟩
    · simp at hcs; exact ⟨_, _, _, hcs⟩
  obtain ⟨a, len, cap, rfl⟩ := hv
  obtain ⟨hl, hm, hnil, hsome, hall⟩ := open_recs (a := a) (len := len) (cap := cap) (d := y.1) (ps := y.2) ht he hone hC ⟨fuel, h⟩
  rcases Nat.eq_zero_or_pos len with h00 | h00
  · exact ⟨⟨a, len, cap, []⟩, rfl, ⟨⟨⟨h00.symm ▸ rfl, fun h => absurd (show 0 < len from h) (by omega)⟩, by simp⟩, hl, hm, hnil⟩⟩
  · obtain ⟨ad, rfl⟩ := hsome h00
    obtain ⟨V, hV⟩ := hall ad rfl
    have each : ∀ i, i < len → ∃ x : Nd, x.Ok ∧ ∀ j, j < 4 → w.cell? (ad.add (i * 4 + j)) = some (ndV x j) := by
      intro i hi
      obtain ⟨c0, _, _, g0⟩ := hV i hi 0 f0 rfl
      obtain ⟨c1, _, _, g1⟩ := hV i hi 1 f1 rfl
      obtain ⟨c2, _, _, g2⟩ := hV i hi 2 f2 rfl
      obtain ⟨c3, _, _, g3⟩ := hV i hi 3 f3 rfl
      obtain ⟨n0, e0, w0⟩ := x6 h0 g0
      obtain ⟨n1, e1, w1⟩ := x6 h1 g1
      obtain ⟨n2, e2, w2⟩ := x6 h2 g2
      obtain ⟨n3, e3, w3⟩ := x6 h3 g3
      refine ⟨⟨n0, n1, n2, n3⟩, ⟨qO w0, qO w1, qO w2, qO w3⟩, fun j hj => ?_⟩
      match j, hj with
      | 0, _ => rw [show ndV _ 0 = Value.int .i64 n0 from rfl, ← e0]; exact c0
      | 1, _ => rw [show ndV _ 1 = Value.int .i64 n1 from rfl, ← e1]; exact c1
      | 2, _ => rw [show ndV _ 2 = Value.int .i64 n2 from rfl, ← e2]; exact c2
      | 3, _ => rw [show ndV _ 3 = Value.int .i64 n3 from rfl, ← e3]; exact c3
    obtain ⟨X, hX⟩ := choose_lt each
    refine ⟨⟨some ad, len, cap, (List.range len).map X⟩, rfl, ⟨⟨⟨by simp, fun _ => ⟨ad, rfl, ?_, fun k x hx j hj => ?_⟩⟩, fun x hx => ?_⟩, hl, hm, hnil⟩⟩
    · have := xK ((hX 0 h00).2 0 (by omega))
      rwa [j8] at this
    · have hk : k < len := by have := (List.getElem?_eq_some_iff.1 hx).1; simpa using this
      rw [List.getElem?_map, List.getElem?_range hk] at hx
      cases hx
      exact (hX k hk).2 j hj
    · obtain ⟨i, hi, rfl⟩ := List.mem_map.1 hx
      exact (hX i (List.mem_range.1 hi)).1
theorem open_prog {t tf te : TypeId} {q0 q1 q2 q3 f0 f1 f2 f3 : Field} {r : Reach} {b0 : Nat} {v : Value} {d : DataW H} {ps : List MemPlace} (ht : P.underlying t = some (.struct #[q0, q1, q2, q3])) (hqone : oneCellFields P #[q0, q1, q2, q3] = true)
    (k0 : P.underlying q0.type = some (.int .i64)) (k1 : P.underlying q1.type = some (.int .i64)) (k2 : P.underlying q2.type = some (.int .i64)) (k3 : P.underlying q3.type = some (.slice tf)) (hCt : P.cellsOf t = 4) (hc1 : P.cellsOf tf = 1)
    (hu : P.underlying tf = some (.slice te)) (he : P.underlying te = some (.struct #[f0, f1, f2, f3])) (hone : oneCellFields P #[f0, f1, f2, f3] = true) (hC : P.cellsOf te = 4)
    (h0 : P.underlying f0.type = some (.int .i64)) (h1 : P.underlying f1.type = some (.int .i64)) (h2 : P.underlying f2.type = some (.int .i64)) (h3 : P.underlying f3.type = some (.int .i64))
    (hval : Value.okWide P w r b0 t v) (h : DataW.Trod enc P w base (fun _ => true) held t v d ps) : ∃ p : Pg, v = pgA p ∧ p.Ok w w.heap.size := by
  obtain ⟨cs, rfl, _⟩ := okWide_struct ht hval
  obtain ⟨fuel, hf⟩ := h
  rw [show (Value.agg cs).cells = cs from rfl] at hf
  obtain ⟨xs, k, _, _, hlen, hxl, hfl⟩ := DataW.trod_struct ht hf
  have hfield : ∀ (j : Nat) (fl : Field), (#[q0, q1, q2, q3] : Array Field)[j]? = some fl → ∃ y, DataW.trod enc P w base (fun _ => true) held k fl.type ((cs.toList.drop j).take 1) = some y := by
    intro j fl hj
    have hlt : j < 4 := (Array.getElem?_eq_some_iff.1 hj).1
    obtain ⟨ho, hc⟩ := hone_of hqone j fl hj
    have g := hfl j fl hj
    rw [ho, hc, List.getElem?_eq_getElem (by rw [hxl]; exact hlt)] at g
    exact ⟨_, g⟩
  rw [hCt] at hlen
  obtain ⟨cl, hcl⟩ : ∃ cl, cs.toList = cl := ⟨_, rfl⟩
  rw [hcl] at hfield hlen
  have hcs : cs = cl.toArray := by rw [← hcl]
  subst hcs
  clear hf hfl hcl
  match cl, hlen, hfield with
  | [v0, v1, v2, v3], _, hfield =>
    obtain ⟨_, g0⟩ := hfield 0 q0 rfl
    obtain ⟨_, g1⟩ := hfield 1 q1 rfl
    obtain ⟨_, g2⟩ := hfield 2 q2 rfl
    obtain ⟨y3, g3⟩ := hfield 3 q3 rfl
    simp only [List.drop_succ_cons, List.drop_zero, List.take_succ_cons, List.take_zero] at g0 g1 g2 g3
    obtain ⟨n0, rfl, w0⟩ := x6 k0 g0
    obtain ⟨n1, rfl, w1⟩ := x6 k1 g1
    obtain ⟨n2, rfl, w2⟩ := x6 k2 g2
    rcases open_slice1 k3 hc1 g3 with ⟨hcs, _⟩ | ⟨ad, len, cap, m, n, V, D, Pl, hcs, _, hl, hm, hmm, _, hx⟩
    · simp at hcs
      subst hcs
      exact ⟨⟨n0, n1, n2, none, 0, 0, []⟩, rfl, qO w0, qO w1, qO w2, Row.none_ rfl rfl, by simp, Nat.le_refl _, by simp [maxLen], fun _ => rfl⟩
    · simp at hcs
      subst hcs
      simp only [if_true] at hmm
      have each : ∀ i, i < len → ∃ f : Fn, w.cell? (ad.add i) = some (fnV f) ∧ f.Ok w w.heap.size := by
        intro i hi
        obtain ⟨c1, c2⟩ := hx i (by omega)
        obtain ⟨f, e1, e2⟩ := cell_nodes hu he hone hC h0 h1 h2 h3 c2
        exact ⟨f, by rw [c1, e1], e2⟩
      obtain ⟨X, hX⟩ := choose_lt each
      refine ⟨⟨n0, n1, n2, some ad, len, cap, (List.range len).map X⟩, rfl, qO w0, qO w1, qO w2, ?_, fun f hf => ?_, hl, hm, fun h => by cases h⟩
      · exact row_of_fn X fun i hi => (hX i hi).1
      · obtain ⟨i, hi, rfl⟩ := List.mem_map.1 hf
        exact (hX i (List.mem_range.1 hi)).2
end
end Go.Proofs.Ytkhfolpffjihgaa
namespace Go.Proofs.Ytkhfolpffjihgaa
open Go.RowKit
theorem j3 {P : Program} {ops : Array Oper} {rest : List Oper} {o : Oper} {a : Act} {w : World} {Q : Exit → Act → World → Prop} (hgd : o.guard = none) (ty : TypeId) (ho : o.op = .alloc ty)
    (cs : List Value) (hz : (P.info? ty).map (·.zero) = some (some (.agg cs.toArray)))
    (h : ∀ g w', w.heap.size ≤ g → Blk w' g ty cs → Below w.heap.size w w' → wpList P ops Q rest (a.put o.dst (.pointer (some ⟨g, 0, none⟩))) w') : wpList P ops Q (o :: rest) a w := by
  refine wpList_plain hgd fun K hK => ?_
  cases hq : P.info? ty with
  | none => simp [hq] at hz
  | some i =>
    have hz' : i.zero = some (.agg cs.toArray) := by simpa [hq] using hz
    unfold Oper.wp
    simp [execOp, ho, Instr.alloc, zeroValue, typeInfo, hq, hz', newVar, newRow, Value.cells, Result.andThen]
    exact hK _ _ (h _ _ (Nat.le_refl _) (Blk.newAt rfl rfl) ((Below.refl _ _).alloc (Nat.le_refl _) _))
theorem xL {P : Program} {ops : Array Oper} {rest : List Oper} {o : Oper} {a : Act} {w : World} {Q : Exit → Act → World → Prop} (hgd : o.guard = none) (ty : TypeId) (ho : o.op = .build ty #[])
    (cs : List Value) (n : Nat) (e : TypeId) (hu : P.underlying ty = some (.array n e)) (he : ((P.info? e).map (·.size)).isSome = true) (hz : (P.info? ty).map (·.zero) = some (some (.agg cs.toArray)))
    (h : wpList P ops Q rest (a.put o.dst (.agg cs.toArray)) w) : wpList P ops Q (o :: rest) a w := by
  refine wpList_plain hgd fun K hK => ?_
  cases hq : P.info? ty with
  | none => simp [hq] at hz
  | some i =>
    have hz' : i.zero = some (.agg cs.toArray) := by simpa [hq] using hz
    cases hqe : P.info? e with
    | none => simp [hqe] at he
    | some ie =>
      unfold Oper.wp
      simp [execOp, ho, Instr.build, zeroValue, typeInfo, sizeOf, hq, hqe, hz', run_underlying hu, Instr.fill, Value.cells, Result.andThen]
      exact hK _ _ h
theorem j2 {P : Program} {ops : Array Oper} {rest : List Oper} {o : Oper} {a : Act} {w : World} {Q : Exit → Act → World → Prop} (hgd : o.guard = none) (ty : TypeId) (x : Operand) (ho : o.op = .box ty x)
    (cs : List Value) (hx : a.eval x = .agg cs.toArray)
    (h : ∀ g w', w.heap.size ≤ g → Blk w' g ty cs → Below w.heap.size w w' → wpList P ops Q rest (a.put o.dst (.pointer (some ⟨g, 0, none⟩))) w') : wpList P ops Q (o :: rest) a w := by
  refine wpList_plain hgd fun K hK => ?_
  unfold Oper.wp
  simp [execOp, ho, hx, Instr.box, newVar, newRow, Value.cells, Result.andThen]
  exact hK _ _ (h _ _ (Nat.le_refl _) (Blk.newAt rfl rfl) ((Below.refl _ _).alloc (Nat.le_refl _) _))
theorem jY {P : Program} {ops : Array Oper} {rest : List Oper} {o : Oper} {a : Act} {w : World} {Q : Exit → Act → World → Prop} (hgd : o.guard = none) (ty : TypeId) (x ix : Operand) (ho : o.op = .index ty x ix)
    (n : Nat) (e : TypeId) (hu : P.underlying ty = some (.array n e)) (d : TypeDesc) (hd : P.underlying e = some d) (hna : (match d with | .struct _ | .array _ _ => false | _ => true) = true) (hsz : (P.info? e).map (·.size) = some 1)
    (cs : List Value) (hx : a.eval x = .agg cs.toArray) (i : Nat) (hi : a.eval ix = .int .i64 (i : Int)) (hin : i < n) (v : Value) (hv : cs[i]? = some v)
    (h : wpList P ops Q rest (a.put o.dst v) w) : wpList P ops Q (o :: rest) a w := by
  refine wpList_plain hgd fun K hK => ?_
  have hagg : (isAgg e).run P w = .ok false w := by
    unfold isAgg
    rw [Sem.run_bind, run_underlying hd w]
    cases d <;> simp_all
  cases hq : P.info? e with
  | none => simp [hq] at hsz
  | some ie =>
    have hs : ie.size = 1 := by simpa [hq] using hsz
    unfold Oper.wp
    simp [execOp, ho, Instr.index, hx, hi, asIntOf, run_underlying hu, hin, sizeOf, typeInfo, hq, hs, part, hagg, hv, Result.andThen]
    exact hK _ _ h
end Go.Proofs.Ytkhfolpffjihgaa
namespace Go.Proofs.Ytkhfolpffjihgaa.Q
def small (p : Pg) : Bool := decide (p.fns.length ≤ 40) && p.fns.all fun f => decide (f.nodes.length ≤ 100)
def rows : List (List Nat) := [[45, 110, 45], [103, 110, 45], [103, 110, 45], [108, 110, 45], [108, 110, 45], [102, 110, 115], [115, 110, 45], [102, 110, 45], [45, 110, 110], [45, 45, 45]]
def row (k : Int) : List Nat := if k < 0 ∨ 9 < k then [] else rows.getD k.toNat []
def size (g l s f : Int) (c : Nat) (nodes : Int) : Int := if c = 103 then g else if c = 108 then l else if c = 115 then s else if c = 102 then f else if c = 110 then max nodes 1 else 1
def fields (x : Nd) : List Int := [x.arg, x.next, x.alt]
def may (g l s f : Int) (x : Nd) (nodes : Int) : Bool := decide (row x.kind ≠ []) && (List.range 3).all fun i => decide (0 ≤ (fields x).getD i 0 ∧ (fields x).getD i 0 < size g l s f ((row x.kind).getD i 0) nodes)
def succ (x : Nd) : List Int := if x.kind = 9 then [] else if x.kind = 8 then [x.next, x.alt] else [x.next]
def calls (p : Pg) (x y : Nat) : Prop := ∃ f, p.fns[x]? = some f ∧ ∃ nd ∈ f.nodes, nd.kind = 7 ∧ nd.arg = (y : Int)
def callsTo (l : List Nd) (y : Nat) : Prop := ∃ nd ∈ l, nd.kind = 7 ∧ nd.arg = (y : Int)
def CallsFit (p : Pg) : Prop := ∀ f ∈ p.fns, ∀ nd ∈ f.nodes, nd.kind = 7 → 0 ≤ nd.arg ∧ nd.arg < p.len
def Same (p q : Pg) : Prop := p.g = q.g ∧ p.l = q.l ∧ p.s = q.s ∧ p.fns.map (·.nodes) = q.fns.map (·.nodes)
theorem Same.len {p q : Pg} (h : Same p q) : p.fns.length = q.fns.length := by have := congrArg List.length h.2.2.2; simpa using this
end Go.Proofs.Ytkhfolpffjihgaa.Q
