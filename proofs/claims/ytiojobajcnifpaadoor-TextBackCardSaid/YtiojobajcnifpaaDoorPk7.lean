/- Parts, Tail, WireP4, in one text. -/
import Derived.Test.YtiojobajcnifpaaDoorPk1
import Derived.Orders
import Derived.Test.YtiojobajcnifpaaDoorPk6
import Derived.Test.YtiojobajcnifpaaDoorPk4
import Derived.Deep.RegionWith
import Derived.Test.YtiojobajcnifpaaDoorPk5
/- A statement whose operations may come up in several orders, proved operation by operation: each one from what those that it waits for have left, in whatever later world; what they leave is told by facts that no new memory turns. -/
namespace Go.Proofs.YtiojobajcnifpaaDoor
open Go.RowKit

/-- What is told of a value in a world, and stays so when the world grows. -/
structure Fact where
  holds : Value → World → Prop
  stays : ∀ v w w', Below w.heap.size w w' → holds v w → holds v w'

/-- Nothing is told. -/
def Fact.any : Fact := ⟨fun _ _ => True, fun _ _ _ _ h => h⟩
/-- It is this value. -/
def Fact.is (c : Value) : Fact := ⟨fun v _ => v = c, fun _ _ _ _ h => h⟩

def slotOf (o : Oper) (a : Act) : Value := match o.dst with
  | some d => a.tmps.getD d undef
  | none => undef

def PartPost (D : List Deferred) (W : World) (o : Oper) (R : Fact) : Exit → Act → World → Prop
  | .normal, a, w => a.defers = D ∧ Below W.heap.size W w ∧ R.holds (slotOf o a) w
  | _, _, _ => False

def factAt (R : List Fact) (i : Nat) : Fact := R.getD i .any

/-- G of the frame in which the slots of some operations hold whatever fits their facts. -/
def given (R : List Fact) (W : World) (G : Act → Prop) : List (Nat × Nat) → Act → Prop
  | [], a => G a
  | p :: ps, a => ∀ v, (factAt R p.1).holds v W → given R W G ps (a.put (some p.2) v)

def fill (a : Act) : List (Nat × Nat) → Act → Act
  | [], b => b
  | p :: ps, b => fill a ps (b.put (some p.2) (a.tmps.getD p.2 undef))

theorem given_fill {R : List Fact} {W : World} {G : Act → Prop} {a : Act} : ∀ (ps : List (Nat × Nat)) (b : Act), given R W G ps b → (∀ p ∈ ps, (factAt R p.1).holds (a.tmps.getD p.2 undef) W) → G (fill a ps b)
  | [], _, h, _ => h
  | p :: ps, _, h, hp => given_fill ps _ (h _ (hp p (List.mem_cons_self))) fun q hq => hp q (List.mem_cons_of_mem _ hq)
theorem put_size (b : Act) (d : Option Tmp) (v : Value) : (b.put d v).tmps.size = b.tmps.size := by cases d <;> simp [Act.put]
theorem put_def (b : Act) (d : Option Tmp) (v : Value) : (b.put d v).defers = b.defers := by cases d <;> rfl
theorem fill_size (a : Act) : ∀ (ps : List (Nat × Nat)) (b : Act), (fill a ps b).tmps.size = b.tmps.size
  | [], _ => rfl
  | _ :: ps, b => (fill_size a ps _).trans (put_size b _ _)
theorem fill_def (a : Act) : ∀ (ps : List (Nat × Nat)) (b : Act), (fill a ps b).defers = b.defers
  | [], _ => rfl
  | _ :: ps, b => (fill_def a ps _).trans (put_def b _ _)
theorem put_at (b : Act) (d t : Nat) (v : Value) : (b.put (some d) v).tmps[t]? = if d = t ∧ t < b.tmps.size then some v else b.tmps[t]? := by
  simp only [Act.put, Array.getElem?_setIfInBounds]
  by_cases h : d = t
  · subst h
    by_cases h1 : d < b.tmps.size
    · simp [h1]
    · simp [h1]
  · simp [h]
theorem fill_at (a : Act) : ∀ (ps : List (Nat × Nat)) (b : Act) (t : Nat), (fill a ps b).tmps[t]? = if t ∈ ps.map (·.2) ∧ t < b.tmps.size then some (a.tmps.getD t undef) else b.tmps[t]?
  | [], b, t => by simp [fill]
  | p :: ps, b, t => by
    rw [fill, fill_at a ps _ t, put_size, put_at]
    by_cases h1 : t ∈ ps.map (·.2) <;> by_cases h2 : t < b.tmps.size <;> by_cases h3 : p.2 = t
    all_goals first
      | (subst h3; simp [h1, h2]; done)
      | (have h4 : ¬ t = p.2 := fun e => h3 e.symm
         simp [h1, h2, h3, h4])

def isSelect : Op → Bool
  | .select _ _ => true
  | _ => false
theorem isSelect_of {op : Op} (h : isSelect op = false) : ∀ cs b, op ≠ .select cs b := by
  rintro cs b rfl; cases h

/-- The operations that this one waits for, whatever the compiler. -/
def waits (o : Oper) : List Nat := (o.after.toList.filter fun e => Region.binds .any e).map (·.on)

/-- Does this list of what each operation looks at fit the region? -/
def opOk (ops : Array Oper) (D : List (List (Nat × Nat))) (every : List (Nat × Nat)) (N i : Nat) (o : Oper) : Bool :=
  !isSelect o.op && (waits o).all (fun j => decide (j < i)) &&
  (match o.dst with
   | some d => decide (d < N) && every.contains (i, d) && (List.range ops.size).all (fun j => decide (j = i) || ((ops[j]?).bind (·.dst)) != some d)
   | none => true) &&
  (D.getD i []).all (fun p => ((ops[p.1]?).bind (·.dst)) == some p.2 && (waits o).contains p.1) &&
  (o.looksAt ops).all (fun t => (List.range ops.size).all fun j => ((ops[j]?).bind (·.dst)) != some t || (D.getD i []).contains (j, t) || ((ops[j]?).map fun oj => (waits oj).contains i).getD false)
def partsOk (ops : Array Oper) (D : List (List (Nat × Nat))) (every : List (Nat × Nat)) (N : Nat) : Bool :=
  (List.range ops.size).all (fun i => ((ops[i]?).map (opOk ops D every N i)).getD false) && every.all (fun p => ((ops[p.1]?).bind (·.dst)) == some p.2)

structure OpOk (ops : Array Oper) (D : List (List (Nat × Nat))) (every : List (Nat × Nat)) (N i : Nat) (o : Oper) : Prop where
  sel : ∀ cs b, o.op ≠ .select cs b
  back : ∀ e ∈ o.after, Region.binds .any e = true → e.on < i
  dst : ∀ d, o.dst = some d → d < N ∧ (i, d) ∈ every ∧ ∀ j oj, ops[j]? = some oj → j ≠ i → oj.dst ≠ some d
  deps : ∀ p ∈ D.getD i [], (∃ oj, ops[p.1]? = some oj ∧ oj.dst = some p.2) ∧ ∃ e ∈ o.after, Region.binds .any e = true ∧ e.on = p.1
  looks : ∀ t ∈ o.looksAt ops, ∀ j oj, ops[j]? = some oj → oj.dst = some t → (j, t) ∈ D.getD i [] ∨ ∃ e ∈ oj.after, Region.binds .any e = true ∧ e.on = i

theorem mem_waits {o : Oper} {j : Nat} : j ∈ waits o ↔ ∃ e ∈ o.after, Region.binds .any e = true ∧ e.on = j := by
  simp only [waits, List.mem_map, List.mem_filter, Array.mem_toList_iff]
  constructor
  · rintro ⟨e, ⟨h1, h2⟩, h3⟩; exact ⟨e, h1, h2, h3⟩
  · rintro ⟨e, h1, h2, h3⟩; exact ⟨e, ⟨h1, h2⟩, h3⟩

theorem OpOk.of {ops : Array Oper} {D : List (List (Nat × Nat))} {every : List (Nat × Nat)} {N i : Nat} {o : Oper} (h : opOk ops D every N i o = true) : OpOk ops D every N i o := by
  unfold opOk at h
  simp only [Bool.and_eq_true] at h
  obtain ⟨⟨⟨⟨h1, h2⟩, h3⟩, h4⟩, h5⟩ := h
  refine ⟨isSelect_of (by simpa using h1), fun e he hb => ?_, fun d hd => ?_, fun p hp => ?_, fun t ht j oj hj hd => ?_⟩
  · have := List.all_eq_true.1 h2 e.on (mem_waits.2 ⟨e, he, hb, rfl⟩)
    simpa using this
  · rw [hd] at h3
    simp only [Bool.and_eq_true, decide_eq_true_eq, List.contains_iff_mem] at h3
    refine ⟨h3.1.1, h3.1.2, fun j oj hj hne => ?_⟩
    have hlt : j < ops.size := (Array.getElem?_eq_some_iff.1 hj).1
    have := List.all_eq_true.1 h3.2 j (List.mem_range.2 hlt)
    rw [hj] at this
    simpa [hne] using this
  · have := List.all_eq_true.1 h4 p hp
    simp only [Bool.and_eq_true, beq_iff_eq, List.contains_iff_mem] at this
    refine ⟨?_, mem_waits.1 this.2⟩
    obtain ⟨oj, h6, h7⟩ := Option.bind_eq_some_iff.1 this.1
    exact ⟨oj, h6, h7⟩
  · have hlt : j < ops.size := (Array.getElem?_eq_some_iff.1 hj).1
    have := List.all_eq_true.1 (List.all_eq_true.1 h5 t ht) j (List.mem_range.2 hlt)
    rw [hj] at this
    simp only [Option.bind_some, hd, bne_self_eq_false, Bool.false_or, Option.map_some, Option.getD_some, Bool.or_eq_true, List.contains_iff_mem] at this
    rcases this with h | h
    · exact .inl h
    · exact .inr (mem_waits.1 h)

section
variable {P : Program} {ops : Array Oper} {Q : Exit → Act → World → Prop} {a0 : Act} {w : World} {R : List Fact} {D : List (List (Nat × Nat))} {every : List (Nat × Nat)}

structure PInv (ops : Array Oper) (R : List Fact) (a0 : Act) (w : World) (listed : Array Bool) (a : Act) (W : World) : Prop where
  size : listed.size = ops.size
  ext : Below w.heap.size w W
  defs : a.defers = a0.defers
  tsz : a.tmps.size = a0.tmps.size
  got : ∀ j oj d, ops[j]? = some oj → oj.dst = some d → listed.getD j false = true → (factAt R j).holds (a.tmps.getD d undef) W
  old : ∀ t, (∀ j oj, ops[j]? = some oj → oj.dst = some t → listed.getD j false = false) → a.tmps[t]? = a0.tmps[t]?
  shut : ∀ j oj, ops[j]? = some oj → listed.getD j false = true → ∀ e ∈ oj.after, Region.binds .any e = true → listed.getD e.on false = true

theorem getD_of (a : Act) (t : Nat) (h : t < a.tmps.size) : a.tmps[t]? = some (a.tmps.getD t undef) := by
  simp [h]

theorem count_set : ∀ (l : List Bool) (i : Nat), l[i]? = some false → (l.set i true).count false + 1 = l.count false
  | [], i, h => by simp at h
  | b :: l, 0, h => by
    simp at h; subst h
    simp
  | b :: l, i + 1, h => by
    have := count_set l i (by simpa using h)
    cases b <;> simp <;> omega

theorem all_listed (hok : ∀ i o, ops[i]? = some o → OpOk ops D every a0.tmps.size i o) {listed : Array Bool} (hs : listed.size = ops.size) (hr : Region.ready .any ops listed = []) :
    ∀ j, j < ops.size → listed.getD j false = true := by
  intro j
  induction j using Nat.strongRecOn with
  | _ j ih =>
    intro hj
    cases hl : listed.getD j false
    · exfalso
      have hl2 : listed.getD j true = false := by
        have : j < listed.size := by omega
        simp [this] at hl ⊢; exact hl
      have hm : j ∈ Region.ready .any ops listed := mem_ready.2 ⟨hl2, ops[j], Array.getElem?_eq_getElem hj, fun e he hb =>
        have hlt := (hok j _ (Array.getElem?_eq_getElem hj)).back e he hb
        ih e.on hlt (by omega)⟩
      rw [hr] at hm
      cases hm
    · rfl

theorem PInv.step {listed : Array Bool} {a : Act} {W W' : World} {i : Nat} {o : Oper} {v : Value} (h : PInv ops R a0 w listed a W) (hi : ops[i]? = some o) (hok : OpOk ops D every a0.tmps.size i o)
    (hr : i ∈ Region.ready .any ops listed) (hb : Below W.heap.size W W') (hv : ∀ d, o.dst = some d → (factAt R i).holds v W') : PInv ops R a0 w (listed.setIfInBounds i true) (a.put o.dst v) W' := by
  obtain ⟨hl, o', ho', hall⟩ := mem_ready.1 hr
  have hoo : o' = o := by rw [hi] at ho'; cases ho'; rfl
  subst hoo
  have hilt : i < ops.size := (Array.getElem?_eq_some_iff.1 hi).1
  have hii : (listed.setIfInBounds i true).getD i false = true := by
    have : i < listed.size := by rw [h.size]; exact hilt
    simp [this]
  refine ⟨by simp [h.size], h.ext.trans (hb.mono h.ext.size), (put_def _ _ _).trans h.defs, (put_size _ _ _).trans h.tsz, fun j oj d hj hd hlj => ?_, fun t ht => ?_, fun j oj hj hlj e he hbe => ?_⟩
  · by_cases hji : j = i
    · subst hji
      have : oj = o' := by rw [hi] at hj; cases hj; rfl
      subst this
      have hlt := (hok.dst d hd).1
      rw [hd]
      have e1 : (a.put (some d) v).tmps.getD d undef = v := by
        have := put_at a d d v
        rw [if_pos ⟨rfl, by rw [h.tsz]; exact hlt⟩] at this
        simp [Array.getD_eq_getD_getElem?, this]
      rw [e1]
      exact hv d hd
    · have h1 := h.got j oj d hj hd (by rw [getD_set_ne false (Ne.symm hji)] at hlj; exact hlj)
      have e1 : (a.put o'.dst v).tmps.getD d undef = a.tmps.getD d undef := by
        cases hod : o'.dst with
        | none => rfl
        | some d' =>
          have hne : d' ≠ d := fun e => (hok.dst d' hod).2.2 j oj hj hji (by rw [e]; exact hd)
          have := put_at a d' d v
          rw [if_neg (fun hh => hne hh.1)] at this
          simp [Array.getD_eq_getD_getElem?, this]
      rw [e1]
      exact (factAt R j).stays _ _ _ hb h1
  · have h1 := h.old t fun j oj hj hd => by
      have := ht j oj hj hd
      by_cases hji : j = i
      · subst hji; rw [hii] at this; cases this
      · rwa [getD_set_ne false (Ne.symm hji)] at this
    cases hod : o'.dst with
    | none => exact h1
    | some d' =>
      have hne : d' ≠ t := fun e => by
        have := ht i o' hi (by rw [hod, e])
        rw [hii] at this; cases this
      rw [put_at, if_neg (fun hh => hne hh.1)]
      exact h1
  · by_cases hji : j = i
    · subst hji
      have : oj = o' := by rw [hi] at hj; cases hj; rfl
      subst this
      exact getD_set_true (hall e he hbe)
    · rw [getD_set_ne false (Ne.symm hji)] at hlj
      exact getD_set_true (h.shut j oj hj hlj e he hbe)

theorem part_one {listed : Array Bool} {a : Act} {W : World} {K : Act → World → Prop} {i : Nat} {o : Oper} (hi : ops[i]? = some o) (ok : OpOk ops D every a0.tmps.size i o)
    (hob : ∀ W, Below w.heap.size w W → given R W (fun a1 => wpList P ops (PartPost a0.defers W o (factAt R i)) [o] a1 W) (D.getD i []) a0)
    (h : PInv ops R a0 w listed a W) (hr : i ∈ Region.ready .any ops listed) (hK : ∀ a' W', PInv ops R a0 w (listed.setIfInBounds i true) a' W' → K a' W') : wpOp P ops Q i K a W := by
  obtain ⟨hl, o', hi', hall'⟩ := mem_ready.1 hr
  have hall : ∀ e ∈ o.after, Region.binds .any e = true → listed.getD e.on false = true := by
    rw [hi] at hi'; cases hi'; exact hall'
  have hlf : listed.getD i false = false := by
    have : i < listed.size := by rw [h.size]; exact (Array.getElem?_eq_some_iff.1 hi).1
    simp [this] at hl ⊢; exact hl
  have hg := given_fill (a := a) (D.getD i []) a0 (hob W h.ext) fun p hp => by
    obtain ⟨⟨oj, hj, hd⟩, e, he, hb, hon⟩ := ok.deps p hp
    exact h.got p.1 oj p.2 hj hd (by rw [← hon]; exact hall e he hb)
  generalize ha1 : fill a (D.getD i []) a0 = a1 at hg
  have agree : ∀ t ∈ o.looksAt ops, a.tmps[t]? = a1.tmps[t]? := by
    intro t ht
    rw [← ha1, fill_at]
    by_cases hc : t ∈ (D.getD i []).map (·.2) ∧ t < a0.tmps.size
    · rw [if_pos hc, getD_of a t (by rw [h.tsz]; exact hc.2)]
    · rw [if_neg hc]
      by_cases htl : t < a0.tmps.size
      · refine h.old t fun j oj hj hd => ?_
        rcases ok.looks t ht j oj hj hd with hin | ⟨e, he, hb, hon⟩
        · exact absurd ⟨List.mem_map.2 ⟨(j, t), hin, rfl⟩, htl⟩ hc
        · cases hlj : listed.getD j false
          · rfl
          · have := h.shut j oj hj hlj e he hb
            rw [hon, hlf] at this; cases this
      · have n1 : a.tmps[t]? = none := Array.getElem?_eq_none (by rw [h.tsz]; exact Nat.le_of_not_lt htl)
        have n2 : a0.tmps[t]? = none := Array.getElem?_eq_none (Nat.le_of_not_lt htl)
        rw [n1, n2]
  have hex : execOp a1.eval o = execOp a.eval o := execOp_congr o ok.sel fun x hx => by
    cases x with
    | tmp t =>
      have := agree t (List.mem_append_left _ (List.mem_filterMap.2 ⟨.tmp t, by simpa using hx, rfl⟩))
      simp [Act.eval, Array.getD_eq_getD_getElem?, this]
    | _ => rfl
  have hwt : Region.wanted o (yielded ops a1.tmps) = Region.wanted o (yielded ops a.tmps) := by
    unfold Region.wanted
    cases hgd : o.guard with
    | none => rfl
    | some gw =>
      obtain ⟨g, want⟩ := gw
      have hy : yielded ops a1.tmps g = yielded ops a.tmps g := by
        unfold yielded
        cases ht : (ops[g]?).bind (·.dst) with
        | none => rfl
        | some t =>
          have := agree t (by simp [Oper.looksAt, hgd, ht])
          simp [this]
      simp only [hy]
  have hsl : ∀ v d, o.dst = some d → slotOf o (a1.put o.dst v) = v := by
    intro v d hd
    have hlt := (ok.dst d hd).1
    have := put_at a1 d d v
    rw [if_pos ⟨rfl, by rw [← ha1, fill_size]; exact hlt⟩] at this
    simp [slotOf, hd, Array.getD_eq_getD_getElem?, this]
  have done : ∀ v W', PartPost a0.defers W o (factAt R i) .normal (a1.put o.dst v) W' → K (a.put o.dst v) W' := by
    rintro v W' ⟨_, hb, hv⟩
    refine hK _ _ (h.step hi ok hr hb fun d hd => ?_)
    rw [hsl v d hd] at hv
    exact hv
  unfold wpOp
  simp only [hi]
  rw [← hwt]
  unfold wpList at hg
  by_cases hw : Region.wanted o (yielded ops a1.tmps) = true
  · rw [if_pos hw] at hg ⊢
    rcases hg with hg | ⟨_, _, _, hf⟩
    case inr => exact hf.elim
    refine .inl ?_
    unfold Oper.wp at hg ⊢
    rw [hex] at hg
    generalize (execOp a.eval o).run P W = r at *
    cases r with
    | ok n w' =>
      cases n <;> simp only [Oper.upon] at hg ⊢
      case value v => exact done v w' hg
      case skip => exact done undef w' hg
      case defer d =>
        obtain ⟨hd, _⟩ := hg
        rw [put_def] at hd
        have e1 : a1.defers = a0.defers := by rw [← ha1]; exact fill_def _ _ _
        simp only [e1] at hd
        exact absurd hd (by simp)
      case enter f args =>
        refine Calls.mono hg fun e w'' he => ?_
        cases e with
        | returned v => exact done v w'' he
        | panicked c => exact he.elim
        | outgrown => obtain ⟨_, _, hf⟩ := he; exact hf.elim
      case row row args => exact Rows.mono hg fun v w'' he => done v w'' he
    | halt x w' =>
      cases x <;> simp only [Oper.upon] at hg ⊢
      case panic v => exact hg.elim
  · rw [if_neg hw] at hg ⊢
    exact done undef W hg

theorem parts_any (hok : ∀ i o, ops[i]? = some o → OpOk ops D every a0.tmps.size i o) (hev : ∀ p ∈ every, ∃ oj, ops[p.1]? = some oj ∧ oj.dst = some p.2)
    (hob : ∀ i o, ops[i]? = some o → ∀ W, Below w.heap.size w W → given R W (fun a1 => wpList P ops (PartPost a0.defers W o (factAt R i)) [o] a1 W) (D.getD i []) a0)
    (hend : ∀ W, Below w.heap.size w W → given R W (fun a => Q .normal a W) every a0) :
    ∀ (fuel : Nat) (listed : Array Bool) (a : Act) (W : World), PInv ops R a0 w listed a W → listed.toList.count false ≤ fuel → wpAny P .any ops Q fuel listed a W := by
  have fin : ∀ (listed : Array Bool) (a : Act) (W : World), PInv ops R a0 w listed a W → (∀ j, j < ops.size → listed.getD j false = true) → Q .normal a W := by
    intro listed a W h hall
    have h1 := given_fill (a := a) every a0 (hend W h.ext) fun p hp => by
      obtain ⟨oj, hj, hd⟩ := hev p hp
      exact h.got p.1 oj p.2 hj hd (hall p.1 (Array.getElem?_eq_some_iff.1 hj).1)
    have e1 : fill a every a0 = a := by
      have e2 : (fill a every a0).tmps = a.tmps := by
        apply Array.ext_getElem?
        intro t
        rw [fill_at]
        by_cases hc : t ∈ every.map (·.2) ∧ t < a0.tmps.size
        · rw [if_pos hc, getD_of a t (by rw [h.tsz]; exact hc.2)]
        · rw [if_neg hc]
          by_cases ht : t < a0.tmps.size
          · refine (h.old t fun j oj hj hd => ?_).symm
            exfalso
            exact hc ⟨List.mem_map.2 ⟨(j, t), ((hok j oj hj).dst t hd).2.1, rfl⟩, ht⟩
          · rw [Array.getElem?_eq_none (by omega), Array.getElem?_eq_none (by rw [h.tsz]; omega)]
      have e3 := (fill_def a every a0).trans h.defs.symm
      cases hf : fill a every a0
      cases a
      rw [hf] at e2 e3
      simp only at e2 e3
      rw [e2, e3]
    rw [e1] at h1
    exact h1
  have one : ∀ (fuel : Nat) (listed : Array Bool) (a : Act) (W : World) (K : Act → World → Prop) (i : Nat), PInv ops R a0 w listed a W → i ∈ Region.ready .any ops listed →
      (∀ a' W', PInv ops R a0 w (listed.setIfInBounds i true) a' W' → K a' W') → wpOp P ops Q i K a W := by
    intro fuel listed a W K i h hr hK
    obtain ⟨_, o, hi, _⟩ := mem_ready.1 hr
    exact part_one hi (hok i o hi) (hob i o hi) h hr hK
  intro fuel
  induction fuel with
  | zero =>
    intro listed a W h hc
    have hall : ∀ j, j < ops.size → listed.getD j false = true := by
      intro j hj
      have hn : false ∉ listed.toList := List.count_eq_zero.1 (by omega)
      have hjl : j < listed.size := by rw [h.size]; exact hj
      cases hb : listed[j]
      · exact absurd (by rw [← hb]; exact Array.getElem_mem_toList hjl) hn
      · simp [hjl, hb]
    refine ⟨?_, fin _ _ _ h hall⟩
    cases hr : Region.ready .any ops listed with
    | nil => rfl
    | cons x xs =>
      have hx : x ∈ Region.ready .any ops listed := by rw [hr]; exact List.mem_cons_self
      obtain ⟨hl, o, hi, _⟩ := mem_ready.1 hx
      have hlt : x < ops.size := (Array.getElem?_eq_some_iff.1 hi).1
      have := hall x hlt
      have hxl : x < listed.size := by rw [h.size]; exact hlt
      simp [hxl] at hl this
      rw [hl] at this; cases this
  | succ fuel ih =>
    intro listed a W h hc
    refine ⟨fun hr => fin _ _ _ h (all_listed hok h.size hr), fun i hi => one fuel listed a W _ i h hi fun a' W' h' => ih _ _ _ h' ?_⟩
    obtain ⟨hl, o, ho, _⟩ := mem_ready.1 hi
    have hil : i < listed.size := by rw [h.size]; exact (Array.getElem?_eq_some_iff.1 ho).1
    have := count_set listed.toList i (by
      simp [hil] at hl ⊢; exact hl)
    rw [Array.toList_setIfInBounds]
    omega

/-- THE RULE. -/
theorem region_parts {id : Nat} (R : List Fact) (D : List (List (Nat × Nat))) (every : List (Nat × Nat)) (hm : P.follows .mixedOrders = true) (hok : partsOk ops D every a0.tmps.size = true)
    (hob : ∀ i o, ops[i]? = some o → ∀ W, Below w.heap.size w W → given R W (fun a1 => wpList P ops (PartPost a0.defers W o (factAt R i)) [o] a1 W) (D.getD i []) a0)
    (hend : ∀ W, Below w.heap.size w W → given R W (fun a => Q .normal a W) every a0) : (Code.region id ops true).wp P Q a0 w := by
  unfold partsOk at hok
  simp only [Bool.and_eq_true] at hok
  have ok : ∀ i o, ops[i]? = some o → OpOk ops D every a0.tmps.size i o := fun i o hi => OpOk.of (by
    have := List.all_eq_true.1 hok.1 i (List.mem_range.2 (Array.getElem?_eq_some_iff.1 hi).1)
    rw [hi] at this
    exact this)
  have hev : ∀ p ∈ every, ∃ oj, ops[p.1]? = some oj ∧ oj.dst = some p.2 := fun p hp => by
    have := List.all_eq_true.1 hok.2 p hp
    obtain ⟨oj, h6, h7⟩ := Option.bind_eq_some_iff.1 (beq_iff_eq.1 this)
    exact ⟨oj, h6, h7⟩
  refine wp_region_any hm (parts_any ok hev hob hend ops.size _ a0 _ ⟨by simp, ⟨rfl, rfl, rfl, Nat.le_refl _, fun _ _ => rfl⟩, rfl, rfl, fun j oj d hj _ hl => ?_, fun _ _ => rfl, fun j oj hj hl => ?_⟩ (by simp))
  all_goals
    exfalso
    have hlt : j < ops.size := (Array.getElem?_eq_some_iff.1 hj).1
    simp [hlt] at hl
/-- What is to be shown of the operations, one after the other. -/
def obs (P : Program) (ops : Array Oper) (R : List Fact) (D : List (List (Nat × Nat))) (w : World) (a0 : Act) : Nat → List Oper → Prop
  | _, [] => True
  | i, o :: r => (∀ W, Below w.heap.size w W → given R W (fun a1 => wpList P ops (PartPost a0.defers W o (factAt R i)) [o] a1 W) (D.getD i []) a0) ∧ obs P ops R D w a0 (i + 1) r

theorem obs_at : ∀ (l : List Oper) (k : Nat), obs P ops R D w a0 k l → ∀ j o, l[j]? = some o → ∀ W, Below w.heap.size w W → given R W (fun a1 => wpList P ops (PartPost a0.defers W o (factAt R (k + j))) [o] a1 W) (D.getD (k + j) []) a0
  | [], _, _, j, o, h => by simp at h
  | x :: l, k, ho, 0, o, h => by
    simp at h; subst h
    exact ho.1
  | x :: l, k, ho, j + 1, o, h => by
    have := obs_at l (k + 1) ho.2 j o (by simpa using h)
    rw [show k + (j + 1) = k + 1 + j by omega]
    exact this

theorem region_list {id : Nat} {l : List Oper} (R : List Fact) (D : List (List (Nat × Nat))) (every : List (Nat × Nat)) (hm : P.follows .mixedOrders = true) (hok : partsOk l.toArray D every a0.tmps.size = true)
    (hob : obs P l.toArray R D w a0 0 l) (hend : ∀ W, Below w.heap.size w W → given R W (fun a => Q .normal a W) every a0) : (Code.region id l.toArray true).wp P Q a0 w :=
  region_parts R D every hm hok (fun i o hi W hW => by
    have := obs_at l 0 hob i o (by simpa using hi) W hW
    rw [Nat.zero_add] at this
    exact this) hend
end

/-- A slice of bytes that reads as bs. -/
def Fact.bytes (bs : List Nat) : Fact := ⟨fun v w => ∃ A cap, v = .slice A bs.length cap ∧ Row byteV w w.heap.size A bs.length bs, fun _ _ _ hb ⟨A, cap, hv, hr⟩ => ⟨A, cap, hv, (hr.below hb).more hb.size⟩⟩

/-- A slice that reads as these values. -/
def Fact.vals (us : List Value) : Fact := ⟨fun v w => ∃ A cap, v = .slice A us.length cap ∧ Row (fun u => u) w w.heap.size A us.length us, fun _ _ _ hb ⟨A, cap, hv, hr⟩ => ⟨A, cap, hv, (hr.below hb).more hb.size⟩⟩
/-- The end of an operation that only computes. -/
theorem pure_post {D : List Deferred} {W : World} {o : Oper} {d : Nat} {c : Value} {a : Act} (ho : o.dst = some d) (hs : a.tmps.toList[d]? = some c) (hd : a.defers = D) : PartPost D W o (Fact.is c) .normal a W := by
  refine ⟨hd, Below.refl _ _, ?_⟩
  show slotOf o a = c
  have h : a.tmps[d]? = some c := by simpa using hs
  simp [slotOf, ho, Array.getD_eq_getD_getElem?, h]
/-- The end of an operation that makes memory. -/
theorem made_post {D : List Deferred} {W W' : World} {o : Oper} {d : Nat} {c : Value} {R : Fact} {a : Act} (ho : o.dst = some d) (hs : a.tmps.toList[d]? = some c) (hd : a.defers = D) (hb : Below W.heap.size W W') (hr : R.holds c W') : PartPost D W o R .normal a W' := by
  refine ⟨hd, hb, ?_⟩
  have h : a.tmps[d]? = some c := by simpa using hs
  simp only [slotOf, ho, Array.getD_eq_getD_getElem?, h, Option.getD_some]
  exact hr

/-- A slot of a frame that is written out. -/
theorem put_lit (l : List Value) (ds : List Deferred) (d : Nat) (v : Value) : Act.put ⟨l.toArray, ds⟩ (some d) v = ⟨(l.set d v).toArray, ds⟩ := by simp [Act.put]

end Go.Proofs.YtiojobajcnifpaaDoor

/- A statement of several orders whose last operations wait for all that stand before them: those in front are proved in whatever order, the last ones as they stand. -/
namespace Go.Proofs.YtiojobajcnifpaaDoor
open Go.RowKit

/-- Whom an operation waits for, also through others, as a set of bits. -/
def maskOf (acc : List Nat) (o : Oper) : Nat := (waits o).foldl (fun m j => m ||| (2 ^ j ||| acc.getD j 0)) 0
def masks (l : List Oper) : List Nat := l.foldl (fun acc o => acc ++ [maskOf acc o]) []

theorem masks_snoc (l : List Oper) (o : Oper) : masks (l ++ [o]) = masks l ++ [maskOf (masks l) o] := by simp [masks]
theorem masks_len (l : List Oper) : (masks l).length = l.length := by
  have h : ∀ (l : List Oper) (acc : List Nat), (l.foldl (fun acc o => acc ++ [maskOf acc o]) acc).length = acc.length + l.length := by
    intro l
    induction l with
    | nil => intro acc; rfl
    | cons o r ih => intro acc; rw [List.foldl_cons, ih]; simp; omega
  have := h l []
  simpa [masks] using this
theorem masks_at (l : List Oper) (i : Nat) (o : Oper) (h : l[i]? = some o) : (masks l).getD i 0 = maskOf (masks (l.take i)) o := by
  have hi := (List.getElem?_eq_some_iff.1 h).1
  have e : l = l.take i ++ [o] ++ l.drop (i + 1) := by
    have h1 : l.take (i + 1) = l.take i ++ [o] := by rw [List.take_add_one, h]; rfl
    rw [← h1, List.take_append_drop]
  have hpre : ∀ (r : List Oper) (a : List Oper), (masks (a ++ r)).take a.length = masks a := by
    intro r a
    have hx : ∀ (r : List Oper) (acc : List Nat), ∃ t, r.foldl (fun acc o => acc ++ [maskOf acc o]) acc = acc ++ t := by
      intro r
      induction r with
      | nil => intro acc; exact ⟨[], by simp⟩
      | cons x r ih =>
        intro acc
        obtain ⟨t, ht⟩ := ih (acc ++ [maskOf acc x])
        exact ⟨[maskOf acc x] ++ t, by rw [List.foldl_cons, ht, List.append_assoc]⟩
    obtain ⟨t, ht⟩ := hx r (masks a)
    have h3 : masks (a ++ r) = masks a ++ t := by unfold masks at ht ⊢; rw [List.foldl_append]; exact ht
    rw [h3, List.take_left' (masks_len a)]
  have hl : (l.take i).length = i := by rw [List.length_take]; omega
  have h2 := hpre (l.drop (i + 1)) (l.take i ++ [o])
  rw [← e, List.length_append, hl, masks_snoc] at h2
  have h3 : (masks l)[i]? = ((masks l).take (i + 1))[i]? := by rw [List.getElem?_take, if_pos (by omega)]
  rw [List.getD_eq_getElem?_getD, h3]
  show (((masks l).take (i + [o].length))[i]?).getD 0 = _
  rw [h2, List.getElem?_append_right (by rw [masks_len, hl]; exact Nat.le_refl _), masks_len, hl, Nat.sub_self]
  rfl

theorem fold_or (f : Nat → Nat) (j : Nat) : ∀ (l : List Nat) (m : Nat), (l.foldl (fun m k => m ||| f k) m).testBit j = true → m.testBit j = true ∨ ∃ k ∈ l, (f k).testBit j = true
  | [], m, h => .inl h
  | k :: l, m, h => by
    rcases fold_or f j l _ h with h | ⟨k', hk, h⟩
    · rw [Nat.testBit_or, Bool.or_eq_true] at h
      rcases h with h | h
      · exact .inl h
      · exact .inr ⟨k, List.mem_cons_self, h⟩
    · exact .inr ⟨k', List.mem_cons_of_mem _ hk, h⟩

/-- What is in the mask of an operation that may come up is listed. -/
theorem mask_listed {l : List Oper} {listed : Array Bool} (hback : ∀ i o, l[i]? = some o → ∀ e ∈ o.after, Region.binds .any e = true → e.on < i)
    (hshut : ∀ j oj, l[j]? = some oj → listed.getD j false = true → ∀ e ∈ oj.after, Region.binds .any e = true → listed.getD e.on false = true) :
    ∀ i o, l[i]? = some o → (∀ e ∈ o.after, Region.binds .any e = true → listed.getD e.on false = true) → ∀ j, ((masks l).getD i 0).testBit j = true → listed.getD j false = true := by
  intro i
  induction i using Nat.strongRecOn with
  | _ i ih =>
    intro o ho hw j hj
    rw [masks_at l i o ho] at hj
    rcases fold_or _ j _ _ hj with h | ⟨k, hk, h⟩
    · simp at h
    · obtain ⟨e, he, hb, hon⟩ := mem_waits.1 hk
      have hkl : listed.getD k false = true := by rw [← hon]; exact hw e he hb
      have hki : k < i := by rw [← hon]; exact hback i o ho e he hb
      rw [Nat.testBit_or, Bool.or_eq_true] at h
      rcases h with h | h
      · rw [Nat.testBit_two_pow] at h
        have : k = j := by simpa using h
        rw [← this]; exact hkl
      · have hil := (List.getElem?_eq_some_iff.1 ho).1
        have hk2 : l[k]? = some (l[k]'(by omega)) := List.getElem?_eq_getElem (by omega)
        have hkt : (l.take i)[k]? = some (l[k]'(by omega)) := by rw [List.getElem?_take, if_pos hki]; exact hk2
        have h' : ((masks l).getD k 0).testBit j = true := by
          rw [masks_at l k _ hk2]
          rw [masks_at (l.take i) k _ hkt, List.take_take, Nat.min_eq_left (by omega)] at h
          exact h
        exact ih k hki _ hk2 (hshut k _ hk2 hkl) j h'

/-- From the n-th on each operation waits for all before it. -/
def tailOk (l : List Oper) (n : Nat) : Bool := (List.range l.length).all fun i => decide (i < n) || (masks l).getD i 0 == 2 ^ i - 1

section
variable {P : Program} {Q : Exit → Act → World → Prop} {a0 : Act} {w : World} {R : List Fact} {D : List (List (Nat × Nat))} {every : List (Nat × Nat)} {l : List Oper} {n : Nat}

theorem forced (hback : ∀ i o, l[i]? = some o → ∀ e ∈ o.after, Region.binds .any e = true → e.on < i) (ht : tailOk l n = true) :
    ∀ (fuel m : Nat) (listed : Array Bool) (a : Act) (W : World), n ≤ m → l.length ≤ m + fuel → listed.size = l.length → (∀ j, j < m → listed.getD j false = true) → (∀ j, m ≤ j → j < l.length → listed.getD j true = false) →
      wpList P l.toArray Q (l.drop m) a W → wpAny P .any l.toArray Q fuel listed a W := by
  intro fuel
  induction fuel with
  | zero =>
    intro m listed a W hn hm hs h1 h2 h
    rw [List.drop_of_length_le (by omega)] at h
    refine ⟨?_, h⟩
    cases hr : Region.ready .any l.toArray listed with
    | nil => rfl
    | cons x xs =>
      have hx : x ∈ Region.ready .any l.toArray listed := by rw [hr]; exact List.mem_cons_self
      obtain ⟨hl, o, hi, _⟩ := mem_ready.1 hx
      have hlt : x < l.length := by
        have := (Array.getElem?_eq_some_iff.1 hi).1
        simpa using this
      have h3 := h1 x (by omega)
      have hxl : x < listed.size := by omega
      simp [hxl] at hl h3
      rw [hl] at h3; cases h3
  | succ fuel ih =>
    intro m listed a W hn hm hs h1 h2 h
    rcases Nat.lt_or_ge m l.length with hml | hml
    rotate_left
    · rw [List.drop_of_length_le hml] at h
      refine ⟨fun _ => h, fun i hi => ?_⟩
      exfalso
      obtain ⟨hl, o, hio, _⟩ := mem_ready.1 hi
      have hlt : i < l.length := by
        have := (Array.getElem?_eq_some_iff.1 hio).1
        simpa using this
      have h3 := h1 i (by omega)
      have hxl : i < listed.size := by omega
      simp [hxl] at hl h3
      rw [hl] at h3; cases h3
    have hmo : l[m]? = some l[m] := List.getElem?_eq_getElem hml
    have hmr : m ∈ Region.ready .any l.toArray listed := mem_ready.2 ⟨h2 m (Nat.le_refl _) hml, l[m], by simp, fun e he hb => h1 _ (hback m _ hmo e he hb)⟩
    refine ⟨fun hr => (by rw [hr] at hmr; cases hmr), fun i hi => ?_⟩
    obtain ⟨hil, o, hio, hall⟩ := mem_ready.1 hi
    have hio' : l[i]? = some o := by simpa using hio
    have hilt := (List.getElem?_eq_some_iff.1 hio').1
    have him : m ≤ i := by
      rcases Nat.lt_or_ge i m with hlt | hge
      · have h3 := h1 i hlt
        have hxl : i < listed.size := by omega
        simp [hxl] at hil h3
        rw [hil] at h3; cases h3
      · exact hge
    have hshut : ∀ j oj, l[j]? = some oj → listed.getD j false = true → ∀ e ∈ oj.after, Region.binds .any e = true → listed.getD e.on false = true := by
      intro j oj hj hlj e he hb
      have hjl := (List.getElem?_eq_some_iff.1 hj).1
      have hjm : j < m := by
        rcases Nat.lt_or_ge j m with hlt | hge
        · exact hlt
        · have h3 := h2 j hge hjl
          have hxl : j < listed.size := by omega
          simp [hxl] at h3 hlj
          rw [h3] at hlj; cases hlj
      exact h1 _ (Nat.lt_trans (hback j oj hj e he hb) hjm)
    have hie : i = m := by
      rcases Nat.lt_or_ge m i with hlt | hge
      · exfalso
        have ht1 := List.all_eq_true.1 ht i (List.mem_range.2 hilt)
        have ht2 : (masks l).getD i 0 = 2 ^ i - 1 := by
          simp only [Bool.or_eq_true, decide_eq_true_eq, beq_iff_eq] at ht1
          rcases ht1 with h | h
          · omega
          · exact h
        have h3 := mask_listed hback hshut i o hio' hall m (by rw [ht2, Nat.testBit_two_pow_sub_one]; simpa using hlt)
        have h4 := h2 m (Nat.le_refl _) hml
        have hxl : m < listed.size := by omega
        simp [hxl] at h3 h4
        rw [h4] at h3; cases h3
      · omega
    subst hie
    have hoo : o = l[i] := by rw [hmo] at hio'; cases hio'; rfl
    subst hoo
    rw [List.drop_eq_getElem_cons hml] at h
    have hK : ∀ a' W', wpList P l.toArray Q (l.drop (i + 1)) a' W' → wpAny P .any l.toArray Q fuel (listed.setIfInBounds i true) a' W' := fun a' W' h' =>
      ih (i + 1) _ a' W' (by omega) (by omega) (by simpa using hs) (fun j hj => by
        by_cases hji : j = i
        · subst hji
          have : j < listed.size := by omega
          simp [this]
        · exact getD_set_true (h1 j (by omega))) (fun j hj hjl => by rw [getD_set_ne true (by omega)]; exact h2 j (by omega) hjl) h'
    unfold wpOp
    rw [hio]
    simp only
    unfold wpList at h
    split
    · rename_i hw
      rw [if_pos hw] at h
      exact h.imp (Oper.wp_mono hK) id
    · rename_i hw
      rw [if_neg hw] at h
      exact hK _ _ h

theorem parts_tail {E : List (Nat × Nat)} (hok : ∀ i o, l.toArray[i]? = some o → OpOk l.toArray D E a0.tmps.size i o) (hev : ∀ p ∈ every, p.1 < n ∧ ∃ oj, l[p.1]? = some oj ∧ oj.dst = some p.2) (ht : tailOk l n = true) (hn : n ≤ l.length)
    (hob : ∀ i o, i < n → l.toArray[i]? = some o → ∀ W, Below w.heap.size w W → given R W (fun a1 => wpList P l.toArray (PartPost a0.defers W o (factAt R i)) [o] a1 W) (D.getD i []) a0)
    (hmem : ∀ i o d, i < n → l[i]? = some o → o.dst = some d → (i, d) ∈ every)
    (hend : ∀ W, Below w.heap.size w W → given R W (fun a => wpList P l.toArray Q (l.drop n) a W) every a0) :
    ∀ (fuel : Nat) (listed : Array Bool) (a : Act) (W : World), PInv l.toArray R a0 w listed a W → (∀ j, n ≤ j → j < l.length → listed.getD j true = false) → (listed.toList.take n).count false + (l.length - n) ≤ fuel → wpAny P .any l.toArray Q fuel listed a W := by
  have hback : ∀ i o, l[i]? = some o → ∀ e ∈ o.after, Region.binds .any e = true → e.on < i := fun i o hi => (hok i o (by simpa using hi)).back
  have switch : ∀ (fuel : Nat) (listed : Array Bool) (a : Act) (W : World), PInv l.toArray R a0 w listed a W → (∀ j, n ≤ j → j < l.length → listed.getD j true = false) → (∀ j, j < n → listed.getD j false = true) → l.length - n ≤ fuel → wpAny P .any l.toArray Q fuel listed a W := by
    intro fuel listed a W h h2 h1 hf
    have hs : listed.size = l.length := by have := h.size; simpa using this
    refine forced hback ht fuel n listed a W (Nat.le_refl _) (by omega) hs h1 h2 ?_
    have h3 := given_fill (a := a) every a0 (hend W h.ext) fun p hp => by
      obtain ⟨hpn, oj, hj, hd⟩ := hev p hp
      exact h.got p.1 oj p.2 (by simpa using hj) hd (h1 p.1 hpn)
    have e1 : fill a every a0 = a := by
      have e2 : (fill a every a0).tmps = a.tmps := by
        apply Array.ext_getElem?
        intro t
        rw [fill_at]
        by_cases hc : t ∈ every.map (·.2) ∧ t < a0.tmps.size
        · rw [if_pos hc, getD_of a t (by rw [h.tsz]; exact hc.2)]
        · rw [if_neg hc]
          by_cases hts : t < a0.tmps.size
          · refine (h.old t fun j oj hj hd => ?_).symm
            have hj' : l[j]? = some oj := by simpa using hj
            rcases Nat.lt_or_ge j n with hjn | hjn
            · exact absurd ⟨List.mem_map.2 ⟨(j, t), hmem j oj t hjn hj' hd, rfl⟩, hts⟩ hc
            · have hjl := (List.getElem?_eq_some_iff.1 hj').1
              have h4 := h2 j hjn hjl
              have hxl : j < listed.size := by omega
              simp [hxl] at h4 ⊢; exact h4
          · rw [Array.getElem?_eq_none (by omega), Array.getElem?_eq_none (by rw [h.tsz]; omega)]
      have e3 := (fill_def a every a0).trans h.defs.symm
      cases hf : fill a every a0
      cases a
      rw [hf] at e2 e3
      simp only at e2 e3
      rw [e2, e3]
    rw [e1] at h3
    exact h3
  intro fuel
  induction fuel with
  | zero =>
    intro listed a W h h2 hc
    refine switch 0 listed a W h h2 (fun j hj => ?_) (by omega)
    have hs : listed.size = l.length := by have := h.size; simpa using this
    have hn0 : false ∉ listed.toList.take n := List.count_eq_zero.1 (by omega)
    have hjl : j < listed.size := by omega
    cases hb : listed[j]
    · refine absurd ?_ hn0
      have : (listed.toList.take n)[j]? = some false := by rw [List.getElem?_take, if_pos hj]; simp [hjl, hb]
      exact List.mem_of_getElem? this
    · simp [hjl, hb]
  | succ fuel ih =>
    intro listed a W h h2 hc
    have hs : listed.size = l.length := by have := h.size; simpa using this
    by_cases hall : ∀ j, j < n → listed.getD j false = true
    · exact switch _ listed a W h h2 hall (by omega)
    · refine ⟨fun hr => ?_, fun i hi => ?_⟩
      · exact absurd (fun j hj => all_listed hok h.size hr j (by simp; omega)) hall
      · obtain ⟨hl, o, hio, hw⟩ := mem_ready.1 hi
        have hio' : l[i]? = some o := by simpa using hio
        have hil := (List.getElem?_eq_some_iff.1 hio').1
        have hin : i < n := by
          rcases Nat.lt_or_ge i n with hlt | hge
          · exact hlt
          · exfalso
            refine hall fun j hj => ?_
            have ht1 := List.all_eq_true.1 ht i (List.mem_range.2 hil)
            have ht2 : (masks l).getD i 0 = 2 ^ i - 1 := by
              simp only [Bool.or_eq_true, decide_eq_true_eq, beq_iff_eq] at ht1
              rcases ht1 with h | h
              · omega
              · exact h
            exact mask_listed hback (fun j oj hj => h.shut j oj (by simpa using hj)) i o hio' hw j (by rw [ht2, Nat.testBit_two_pow_sub_one]; simpa using (by omega : j < i))
        refine part_one hio (hok i o hio) (hob i o hin hio) h hi fun a' W' h' => ih _ _ _ h' (fun j hj hjl => by rw [getD_set_ne true (by omega)]; exact h2 j hj hjl) ?_
        have hixl : i < listed.size := by omega
        have := count_set (listed.toList.take n) i (by
          rw [List.getElem?_take, if_pos hin]
          simp [hixl] at hl ⊢; exact hl)
        rw [Array.toList_setIfInBounds, List.take_set]
        omega

/-- THE RULE, where the last operations wait for all before them. -/
theorem region_tail {id : Nat} (n : Nat) (R : List Fact) (D : List (List (Nat × Nat))) (every : List (Nat × Nat)) (hm : P.follows .mixedOrders = true) (hok : partsOk l.toArray D (every ++ ((List.range l.length).filterMap fun i => if n ≤ i then ((l[i]?).bind (·.dst)).map fun d => (i, d) else none)) a0.tmps.size = true)
    (ht : tailOk l n = true) (hn : decide (n ≤ l.length) = true) (hev : every.all (fun p => decide (p.1 < n)) = true)
    (hob : obs P l.toArray R D w a0 0 (l.take n)) (hend : ∀ W, Below w.heap.size w W → given R W (fun a => wpList P l.toArray Q (l.drop n) a W) every a0) : (Code.region id l.toArray true).wp P Q a0 w := by
  unfold partsOk at hok
  simp only [Bool.and_eq_true] at hok
  generalize hE : every ++ ((List.range l.length).filterMap fun i => if n ≤ i then ((l[i]?).bind (·.dst)).map fun d => (i, d) else none) = E at hok
  have hn' : n ≤ l.length := by simpa using hn
  have ok : ∀ i o, l.toArray[i]? = some o → OpOk l.toArray D E a0.tmps.size i o := fun i o hi => OpOk.of (by
    have := List.all_eq_true.1 hok.1 i (List.mem_range.2 (Array.getElem?_eq_some_iff.1 hi).1)
    rw [hi] at this
    exact this)
  have hmem : ∀ i o d, i < n → l[i]? = some o → o.dst = some d → (i, d) ∈ every := fun i o d hin hio hd => by
    have h1 := ((ok i o (by simpa using hio)).dst d hd).2.1
    rw [← hE, List.mem_append] at h1
    rcases h1 with h1 | h1
    · exact h1
    · exfalso
      obtain ⟨k, hk, hkk⟩ := List.mem_filterMap.1 h1
      split at hkk
      · obtain ⟨d', _, hdd⟩ := Option.map_eq_some_iff.1 hkk
        cases hdd; omega
      · cases hkk
  have hev' : ∀ p ∈ every, p.1 < n ∧ ∃ oj, l[p.1]? = some oj ∧ oj.dst = some p.2 := fun p hp => by
    have h1 := List.all_eq_true.1 hok.2 p (by rw [← hE]; exact List.mem_append_left _ hp)
    obtain ⟨oj, h6, h7⟩ := Option.bind_eq_some_iff.1 (beq_iff_eq.1 h1)
    have h2 := List.all_eq_true.1 hev p hp
    exact ⟨by simpa using h2, oj, by simpa using h6, h7⟩
  refine wp_region_any hm (parts_tail (every := every) (D := D) (R := R) (n := n) ok hev' ht hn' (fun i o hin hio W hW => ?_) hmem hend _ _ a0 _ ⟨by simp, ⟨rfl, rfl, rfl, Nat.le_refl _, fun _ _ => rfl⟩, rfl, rfl, fun j oj d hj _ hl => ?_, fun _ _ => rfl, fun j oj hj hl => ?_⟩ (fun j _ hjl => by simp [hjl]) ?_)
  · have h1 := obs_at (l.take n) 0 hob i o (by rw [List.getElem?_take, if_pos hin]; simpa using hio) W hW
    rw [Nat.zero_add] at h1
    exact h1
  · exfalso
    have hlt : j < l.length := by have := (Array.getElem?_eq_some_iff.1 hj).1; simpa using this
    simp [hlt] at hl
  · exfalso
    have hlt : j < l.length := by have := (Array.getElem?_eq_some_iff.1 hj).1; simpa using this
    simp [hlt] at hl
  · simp; omega
end

end Go.Proofs.YtiojobajcnifpaaDoor

/- The program's reader, walked: Fault, Raw. -/
namespace Go.Proofs.YtiojobajcnifpaaDoor
open Go.RowKit

/-- A fault stands where the reader stands; without one nothing is kept. -/
def R.Fit (s : R.St) : Prop := s.wh = if s.why = 0 then 0 else s.at_
theorem R.fail_fit {s : R.St} (h : R.Fit s) {e : Nat} (he : e ≠ 0) : R.Fit (R.fail s e) := by
  unfold R.fail
  by_cases h0 : s.why = 0
  · rw [if_pos h0]
    show s.at_ = if e = 0 then 0 else s.at_
    rw [if_neg he]
  · rw [if_neg h0]; exact h
theorem R.num_fit (bs : List Nat) {s : R.St} (h : R.Fit s) (most : Int) : R.Fit (R.num bs s most).2 := by
  unfold R.num
  split
  · rename_i h0
    split
    · split
      · exact R.fail_fit h (by decide)
      · unfold R.Fit at *
        rw [if_pos h0] at h
        exact h
    · rename_i h1
      exact R.fail_fit h h1
  · exact h
theorem R.raw_fit (bs : List Nat) {s : R.St} (h : R.Fit s) (n : Int) : R.Fit (R.raw bs s n).2 := by
  unfold R.raw
  split
  · rename_i h0
    split
    · exact R.fail_fit h (by decide)
    · split
      · exact R.fail_fit h (by decide)
      · unfold R.Fit at *
        rw [if_pos h0] at h
        exact h
  · exact h
theorem R.ids_fit (bs : List Nat) (most : Int) : ∀ (k : Nat) (l : List Nat) (s : R.St), R.Fit s → R.Fit (R.ids bs most k l s).2
  | 0, l, s, h => h
  | k + 1, l, s, h => by
    have h1 := R.num_fit bs h most
    unfold R.ids
    split
    · rename_i h0
      split
      · refine R.fail_fit ?_ (by decide)
        unfold R.Fit at *
        rw [if_pos h0] at h1
        show (R.num bs s most).2.wh = if (R.num bs s most).2.why = 0 then 0 else s.at_
        rw [if_pos h0]
        exact h1
      · exact R.ids_fit bs most k _ _ h1
    · exact h1
theorem R.set_fit (bs : List Nat) {s : R.St} (h : R.Fit s) (size : Int) : R.Fit (R.set bs s size).2 := R.ids_fit bs _ _ _ _ (R.num_fit bs h _)
end Go.Proofs.YtiojobajcnifpaaDoor
