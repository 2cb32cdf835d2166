/- Parts, Arr2, Reach, Mat, CheckMath, RelMath. -/
import Derived.Test.YtlgaefenhfmjfaaDoorPu1
import Derived.Orders
import Derived.Laws.CopyOwn
import Derived.Laws.MakeOwn
import Derived.WalkKit
namespace Go.Proofs.YtlgaefenhfmjfaaDoor
open Go.RowKit
structure Fact where
  holds : Value → World → Prop
  stays : ∀ v w w',Below w.heap.size w w' → holds v w → holds v w'
def Fact.any : Fact:=⟨fun _ _ => True,fun _ _ _ _ h => h⟩
def Fact.is (c : Value) : Fact:=⟨fun v _ => v = c,fun _ _ _ _ h => h⟩
def slotOf (o : Oper) (a : Act) : Value:=match o.dst with
  | some d => a.tmps.getD d undef
  | none => undef
def PartPost (D : List Deferred) (W : World) (o : Oper) (R : Fact) : Exit → Act → World → Prop
  | .normal,a,w => a.defers = D ∧ Below W.heap.size W w ∧ R.holds (slotOf o a) w
  | _,_,_ => False
def factAt (R : List Fact) (i : Nat) : Fact:=R.getD i .any
def given (R : List Fact) (W : World) (G : Act → Prop) : List (Nat × Nat) → Act → Prop
  | [],a => G a
  | p :: ps,a => ∀ v,(factAt R p.1).holds v W → given R W G ps (a.put (some p.2) v)
def fill (a : Act) : List (Nat × Nat) → Act → Act
  | [],b => b
  | p :: ps,b => fill a ps (b.put (some p.2) (a.tmps.getD p.2 undef))
theorem lT {R : List Fact} {W : World} {G : Act → Prop} {a : Act} : ∀ (ps : List (Nat × Nat)) (b : Act),given R W G ps b → (∀ p ∈ ps,(factAt R p.1).holds (a.tmps.getD p.2 undef) W) → G (fill a ps b)
  | [],_,h,_ => h
  | p :: ps,_,h,hp => lT ps _ (h _ (hp p (List.mem_cons_self))) fun q hq => hp q (List.mem_cons_of_mem _ hq)
theorem qR (b : Act) (d : Option Tmp) (v : Value) : (b.put d v).tmps.size = b.tmps.size:=by cases d <;> simp [Act.put]
theorem qC (b : Act) (d : Option Tmp) (v : Value) : (b.put d v).defers = b.defers:=by cases d <;> rfl
theorem xH (a : Act) : ∀ (ps : List (Nat × Nat)) (b : Act),(fill a ps b).tmps.size = b.tmps.size
  | [],_ => rfl
  | _ :: ps,b => (xH a ps _).trans (qR b _ _)
theorem lO (a : Act) : ∀ (ps : List (Nat × Nat)) (b : Act),(fill a ps b).defers = b.defers
  | [],_ => rfl
  | _ :: ps,b => (lO a ps _).trans (qC b _ _)
theorem lM (b : Act) (d t : Nat) (v : Value) : (b.put (some d) v).tmps[t]? = if d = t ∧ t < b.tmps.size then some v else b.tmps[t]?:=by
  simp only [Act.put,Array.getElem?_setIfInBounds]
  by_cases h : d = t
  · subst h
    by_cases h1 : d < b.tmps.size
    · simp [h1]
    · simp [h1]
  · simp [h]
theorem qF (a : Act) : ∀ (ps : List (Nat × Nat)) (b : Act) (t : Nat),(fill a ps b).tmps[t]? = if t ∈ ps.map (·.2) ∧ t < b.tmps.size then some (a.tmps.getD t undef) else b.tmps[t]?
  | [],b,t => by simp [fill]
  | p :: ps,b,t => by
    rw [fill,qF a ps _ t,qR,lM]
    by_cases h1 : t ∈ ps.map (·.2) <;> by_cases h2 : t < b.tmps.size <;> by_cases h3 : p.2 = t
    all_goals first
      | (subst h3;simp [h1,h2];done)
      | (have h4 : ¬ t = p.2:=fun e => h3 e.symm
         simp [h1,h2,h3,h4])
def isSelect : Op → Bool
  | .select _ _ => true
  | _ => false
theorem vE {op : Op} (h : isSelect op = false) : ∀ cs b,op ≠ .select cs b:=by
  rintro cs b rfl;cases h
def waits (o : Oper) : List Nat:=(o.after.toList.filter fun e => Region.binds .any e).map (·.on)
def opOk (ops : Array Oper) (D : List (List (Nat × Nat))) (every : List (Nat × Nat)) (N i : Nat) (o : Oper) : Bool :=
  !isSelect o.op && (waits o).all (fun j => decide (j < i)) &&
  (match o.dst with
   | some d => decide (d < N) && every.contains (i,d) && (List.range ops.size).all (fun j => decide (j = i) || ((ops[j]?).bind (·.dst)) != some d)
   | none => true) &&
  (D.getD i []).all (fun p => ((ops[p.1]?).bind (·.dst)) == some p.2 && (waits o).contains p.1) &&
  (o.looksAt ops).all (fun t => (List.range ops.size).all fun j => ((ops[j]?).bind (·.dst)) != some t || (D.getD i []).contains (j,t) || ((ops[j]?).map fun oj => (waits oj).contains i).getD false)
def partsOk (ops : Array Oper) (D : List (List (Nat × Nat))) (every : List (Nat × Nat)) (N : Nat) : Bool :=
  (List.range ops.size).all (fun i => ((ops[i]?).map (opOk ops D every N i)).getD false) && every.all (fun p => ((ops[p.1]?).bind (·.dst)) == some p.2)
structure OpOk (ops : Array Oper) (D : List (List (Nat × Nat))) (every : List (Nat × Nat)) (N i : Nat) (o : Oper) : Prop where
  sel : ∀ cs b,o.op ≠ .select cs b
  back : ∀ e ∈ o.after,Region.binds .any e = true → e.on < i
  dst : ∀ d,o.dst = some d → d < N ∧ (i,d) ∈ every ∧ ∀ j oj,ops[j]? = some oj → j ≠ i → oj.dst ≠ some d
  deps : ∀ p ∈ D.getD i [],(∃ oj,ops[p.1]? = some oj ∧ oj.dst = some p.2) ∧ ∃ e ∈ o.after,Region.binds .any e = true ∧ e.on = p.1
  looks : ∀ t ∈ o.looksAt ops,∀ j oj,ops[j]? = some oj → oj.dst = some t → (j,t) ∈ D.getD i [] ∨ ∃ e ∈ oj.after,Region.binds .any e = true ∧ e.on = i
theorem qD {o : Oper} {j : Nat} : j ∈ waits o ↔ ∃ e ∈ o.after,Region.binds .any e = true ∧ e.on = j:=by
  simp only [waits,List.mem_map,List.mem_filter,Array.mem_toList_iff]
  constructor
  · rintro ⟨e,⟨h1,h2⟩,h3⟩;exact ⟨e,h1,h2,h3⟩
  · rintro ⟨e,h1,h2,h3⟩;exact ⟨e,⟨h1,h2⟩,h3⟩
theorem OpOk.of {ops : Array Oper} {D : List (List (Nat × Nat))} {every : List (Nat × Nat)} {N i : Nat} {o : Oper} (h : opOk ops D every N i o = true) : OpOk ops D every N i o:=by
  unfold opOk at h
  simp only [Bool.and_eq_true] at h
  obtain ⟨⟨⟨⟨h1,h2⟩,h3⟩,h4⟩,h5⟩:=h
  refine ⟨vE (by simpa using h1),fun e he hb => ?_,fun d hd => ?_,fun p hp => ?_,fun t ht j oj hj hd => ?_⟩
  · have:=List.all_eq_true.1 h2 e.on (qD.2 ⟨e,he,hb,rfl⟩)
    simpa using this
  · rw [hd] at h3
    simp only [Bool.and_eq_true,decide_eq_true_eq,List.contains_iff_mem] at h3
    refine ⟨h3.1.1,h3.1.2,fun j oj hj hne => ?_⟩
    have hlt : j < ops.size:=(Array.getElem?_eq_some_iff.1 hj).1
    have:=List.all_eq_true.1 h3.2 j (List.mem_range.2 hlt)
    rw [hj] at this
    simpa [hne] using this
  · have:=List.all_eq_true.1 h4 p hp
    simp only [Bool.and_eq_true,beq_iff_eq,List.contains_iff_mem] at this
    refine ⟨?_,qD.1 this.2⟩
    obtain ⟨oj,h6,h7⟩:=Option.bind_eq_some_iff.1 this.1
    exact ⟨oj,h6,h7⟩
  · have hlt : j < ops.size:=(Array.getElem?_eq_some_iff.1 hj).1
    have:=List.all_eq_true.1 (List.all_eq_true.1 h5 t ht) j (List.mem_range.2 hlt)
    rw [hj] at this
    simp only [Option.bind_some,hd,bne_self_eq_false,Bool.false_or,Option.map_some,Option.getD_some,Bool.or_eq_true,List.contains_iff_mem] at this
    rcases this with h | h
    · exact .inl h
    · exact .inr (qD.1 h)
section
variable {P : Program} {ops : Array Oper} {Q : Exit → Act → World → Prop} {a0 : Act} {w : World} {R : List Fact} {D : List (List (Nat × Nat))} {every : List (Nat × Nat)}
structure PInv (ops : Array Oper) (R : List Fact) (a0 : Act) (w : World) (listed : Array Bool) (a : Act) (W : World) : Prop where
  size : listed.size = ops.size
  ext : Below w.heap.size w W
  defs : a.defers = a0.defers
  tsz : a.tmps.size = a0.tmps.size
  got : ∀ j oj d,ops[j]? = some oj → oj.dst = some d → listed.getD j false = true → (factAt R j).holds (a.tmps.getD d undef) W
  old : ∀ t,(∀ j oj,ops[j]? = some oj → oj.dst = some t → listed.getD j false = false) → a.tmps[t]? = a0.tmps[t]?
  shut : ∀ j oj,ops[j]? = some oj → listed.getD j false = true → ∀ e ∈ oj.after,Region.binds .any e = true → listed.getD e.on false = true
theorem qU (a : Act) (t : Nat) (h : t < a.tmps.size) : a.tmps[t]? = some (a.tmps.getD t undef):=by
  simp [h]
theorem qG : ∀ (l : List Bool) (i : Nat),l[i]? = some false → (l.set i true).count false + 1 = l.count false
  | [],i,h => by simp at h
  | b :: l,0,h => by
    simp at h;subst h
    simp
  | b :: l,i + 1,h => by
    have:=qG l i (by simpa using h)
    cases b <;> simp <;> omega
theorem qK (hok : ∀ i o,ops[i]? = some o → OpOk ops D every a0.tmps.size i o) {listed : Array Bool} (hs : listed.size = ops.size) (hr : Region.ready .any ops listed = []) :
    ∀ j,j < ops.size → listed.getD j false = true:=by
  intro j
  induction j using Nat.strongRecOn with
  | _ j ih =>
    intro hj
    cases hl : listed.getD j false
    · exfalso
      have hl2 : listed.getD j true = false:=by
        have : j < listed.size:=by omega
        simp [this] at hl ⊢;exact hl
      have hm : j ∈ Region.ready .any ops listed:=mem_ready.2 ⟨hl2,ops[j],Array.getElem?_eq_getElem hj,fun e he hb =>
        have hlt:=(hok j _ (Array.getElem?_eq_getElem hj)).back e he hb
        ih e.on hlt (by omega)⟩
      rw [hr] at hm
      cases hm
    · rfl
theorem PInv.step {listed : Array Bool} {a : Act} {W W' : World} {i : Nat} {o : Oper} {v : Value} (h : PInv ops R a0 w listed a W) (hi : ops[i]? = some o) (hok : OpOk ops D every a0.tmps.size i o)
    (hr : i ∈ Region.ready .any ops listed) (hb : Below W.heap.size W W') (hv : ∀ d,o.dst = some d → (factAt R i).holds v W') : PInv ops R a0 w (listed.setIfInBounds i true) (a.put o.dst v) W':=by
  obtain ⟨hl,o',ho',hall⟩:=mem_ready.1 hr
  have hoo : o' = o:=by rw [hi] at ho';cases ho';rfl
  subst hoo
  have hilt : i < ops.size:=(Array.getElem?_eq_some_iff.1 hi).1
  have hii : (listed.setIfInBounds i true).getD i false = true:=by
    have : i < listed.size:=by rw [h.size];exact hilt
    simp [this]
  refine ⟨by simp [h.size],h.ext.trans (hb.mono h.ext.size),(qC _ _ _).trans h.defs,(qR _ _ _).trans h.tsz,fun j oj d hj hd hlj => ?_,fun t ht => ?_,fun j oj hj hlj e he hbe => ?_⟩
  · by_cases hji : j = i
    · subst hji
      have : oj = o':=by rw [hi] at hj;cases hj;rfl
      subst this
      have hlt:=(hok.dst d hd).1
      rw [hd]
      have e1 : (a.put (some d) v).tmps.getD d undef = v:=by
        have:=lM a d d v
        rw [if_pos ⟨rfl,by rw [h.tsz];exact hlt⟩] at this
        simp [Array.getD_eq_getD_getElem?,this]
      rw [e1]
      exact hv d hd
    · have h1:=h.got j oj d hj hd (by rw [getD_set_ne false (Ne.symm hji)] at hlj;exact hlj)
      have e1 : (a.put o'.dst v).tmps.getD d undef = a.tmps.getD d undef:=by
        cases hod : o'.dst with
        | none => rfl
        | some d' =>
          have hne : d' ≠ d:=fun e => (hok.dst d' hod).2.2 j oj hj hji (by rw [e];exact hd)
          have:=lM a d' d v
          rw [if_neg (fun hh => hne hh.1)] at this
          simp [Array.getD_eq_getD_getElem?,this]
      rw [e1]
      exact (factAt R j).stays _ _ _ hb h1
  · have h1:=h.old t fun j oj hj hd => by
      have:=ht j oj hj hd
      by_cases hji : j = i
      · subst hji;rw [hii] at this;cases this
      · rwa [getD_set_ne false (Ne.symm hji)] at this
    cases hod : o'.dst with
    | none => exact h1
    | some d' =>
      have hne : d' ≠ t:=fun e => by
        have:=ht i o' hi (by rw [hod,e])
        rw [hii] at this;cases this
      rw [lM,if_neg (fun hh => hne hh.1)]
      exact h1
  · by_cases hji : j = i
    · subst hji
      have : oj = o':=by rw [hi] at hj;cases hj;rfl
      subst this
      exact getD_set_true (hall e he hbe)
    · rw [getD_set_ne false (Ne.symm hji)] at hlj
      exact getD_set_true (h.shut j oj hj hlj e he hbe)
theorem zU {listed : Array Bool} {a : Act} {W : World} {K : Act → World → Prop} {i : Nat} {o : Oper} (hi : ops[i]? = some o) (ok : OpOk ops D every a0.tmps.size i o)
    (hob : ∀ W,Below w.heap.size w W → given R W (fun a1 => wpList P ops (PartPost a0.defers W o (factAt R i)) [o] a1 W) (D.getD i []) a0)
    (h : PInv ops R a0 w listed a W) (hr : i ∈ Region.ready .any ops listed) (hK : ∀ a' W',PInv ops R a0 w (listed.setIfInBounds i true) a' W' → K a' W') : wpOp P ops Q i K a W:=by
  obtain ⟨hl,o',hi',hall'⟩:=mem_ready.1 hr
  have hall : ∀ e ∈ o.after,Region.binds .any e = true → listed.getD e.on false = true:=by
    rw [hi] at hi';cases hi';exact hall'
  have hlf : listed.getD i false = false:=by
    have : i < listed.size:=by rw [h.size];exact (Array.getElem?_eq_some_iff.1 hi).1
    simp [this] at hl ⊢;exact hl
  have hg:=lT (a:=a) (D.getD i []) a0 (hob W h.ext) fun p hp => by
    obtain ⟨⟨oj,hj,hd⟩,e,he,hb,hon⟩:=ok.deps p hp
    exact h.got p.1 oj p.2 hj hd (by rw [← hon];exact hall e he hb)
  generalize ha1 : fill a (D.getD i []) a0 = a1 at hg
  have agree : ∀ t ∈ o.looksAt ops,a.tmps[t]? = a1.tmps[t]?:=by
    intro t ht
    rw [← ha1,qF]
    by_cases hc : t ∈ (D.getD i []).map (·.2) ∧ t < a0.tmps.size
    · rw [if_pos hc,qU a t (by rw [h.tsz];exact hc.2)]
    · rw [if_neg hc]
      by_cases htl : t < a0.tmps.size
      · refine h.old t fun j oj hj hd => ?_
        rcases ok.looks t ht j oj hj hd with hin | ⟨e,he,hb,hon⟩
        · exact absurd ⟨List.mem_map.2 ⟨(j,t),hin,rfl⟩,htl⟩ hc
        · cases hlj : listed.getD j false
          · rfl
          · have:=h.shut j oj hj hlj e he hb
            rw [hon,hlf] at this;cases this
      · have n1 : a.tmps[t]? = none:=Array.getElem?_eq_none (by rw [h.tsz];exact Nat.le_of_not_lt htl)
        have n2 : a0.tmps[t]? = none:=Array.getElem?_eq_none (Nat.le_of_not_lt htl)
        rw [n1,n2]
  have hex : execOp a1.eval o = execOp a.eval o:=execOp_congr o ok.sel fun x hx => by
    cases x with
    | tmp t =>
      have:=agree t (List.mem_append_left _ (List.mem_filterMap.2 ⟨.tmp t,by simpa using hx,rfl⟩))
      simp [Act.eval,Array.getD_eq_getD_getElem?,this]
    | _ => rfl
  have hwt : Region.wanted o (yielded ops a1.tmps) = Region.wanted o (yielded ops a.tmps):=by
    unfold Region.wanted
    cases hgd : o.guard with
    | none => rfl
    | some gw =>
      obtain ⟨g,want⟩:=gw
      have hy : yielded ops a1.tmps g = yielded ops a.tmps g:=by
        unfold yielded
        cases ht : (ops[g]?).bind (·.dst) with
        | none => rfl
        | some t =>
          have:=agree t (by simp [Oper.looksAt,hgd,ht])
          simp [this]
      simp only [hy]
  have hsl : ∀ v d,o.dst = some d → slotOf o (a1.put o.dst v) = v:=by
    intro v d hd
    have hlt:=(ok.dst d hd).1
    have:=lM a1 d d v
    rw [if_pos ⟨rfl,by rw [← ha1,xH];exact hlt⟩] at this
    simp [slotOf,hd,Array.getD_eq_getD_getElem?,this]
  have done : ∀ v W',PartPost a0.defers W o (factAt R i) .normal (a1.put o.dst v) W' → K (a.put o.dst v) W':=by
    rintro v W' ⟨_,hb,hv⟩
    refine hK _ _ (h.step hi ok hr hb fun d hd => ?_)
    rw [hsl v d hd] at hv
    exact hv
  unfold wpOp
  simp only [hi]
  rw [← hwt]
  unfold wpList at hg
  by_cases hw : Region.wanted o (yielded ops a1.tmps) = true
  · rw [if_pos hw] at hg ⊢
    rcases hg with hg | ⟨_,_,_,hf⟩
    case inr => exact hf.elim
    refine .inl ?_
    unfold Oper.wp at hg ⊢
    rw [hex] at hg
    generalize (execOp a.eval o).run P W = r at *
    cases r with
    | ok n w' =>
      cases n <;> simp only [Oper.upon] at hg ⊢
      case value v => exact done v w' hg
      case skip => exact done undef w' hg
      case defer d =>
        obtain ⟨hd,_⟩:=hg
        rw [qC] at hd
        have e1 : a1.defers = a0.defers:=by rw [← ha1];exact lO _ _ _
        simp only [e1] at hd
        exact absurd hd (by simp)
      case enter f args =>
        refine Calls.mono hg fun e w'' he => ?_
        cases e with
        | returned v => exact done v w'' he
        | panicked c => exact he.elim
        | outgrown => obtain ⟨_,_,hf⟩:=he;exact hf.elim
      case row row args => exact Rows.mono hg fun v w'' he => done v w'' he
    | halt x w' =>
      cases x <;> simp only [Oper.upon] at hg ⊢
      case panic v => exact hg.elim
  · rw [if_neg hw] at hg ⊢
    exact done undef W hg
theorem uR (hok : ∀ i o,ops[i]? = some o → OpOk ops D every a0.tmps.size i o) (hev : ∀ p ∈ every,∃ oj,ops[p.1]? = some oj ∧ oj.dst = some p.2)
    (hob : ∀ i o,ops[i]? = some o → ∀ W,Below w.heap.size w W → given R W (fun a1 => wpList P ops (PartPost a0.defers W o (factAt R i)) [o] a1 W) (D.getD i []) a0)
    (hend : ∀ W,Below w.heap.size w W → given R W (fun a => Q .normal a W) every a0) :
    ∀ (fuel : Nat) (listed : Array Bool) (a : Act) (W : World),PInv ops R a0 w listed a W → listed.toList.count false ≤ fuel → wpAny P .any ops Q fuel listed a W:=by
  have fin : ∀ (listed : Array Bool) (a : Act) (W : World),PInv ops R a0 w listed a W → (∀ j,j < ops.size → listed.getD j false = true) → Q .normal a W:=by
    intro listed a W h hall
    have h1:=lT (a:=a) every a0 (hend W h.ext) fun p hp => by
      obtain ⟨oj,hj,hd⟩:=hev p hp
      exact h.got p.1 oj p.2 hj hd (hall p.1 (Array.getElem?_eq_some_iff.1 hj).1)
    have e1 : fill a every a0 = a:=by
      have e2 : (fill a every a0).tmps = a.tmps:=by
        apply Array.ext_getElem?
        intro t
        rw [qF]
        by_cases hc : t ∈ every.map (·.2) ∧ t < a0.tmps.size
        · rw [if_pos hc,qU a t (by rw [h.tsz];exact hc.2)]
        · rw [if_neg hc]
          by_cases ht : t < a0.tmps.size
          · refine (h.old t fun j oj hj hd => ?_).symm
            exfalso
            exact hc ⟨List.mem_map.2 ⟨(j,t),((hok j oj hj).dst t hd).2.1,rfl⟩,ht⟩
          · rw [Array.getElem?_eq_none (by omega),Array.getElem?_eq_none (by rw [h.tsz];omega)]
      have e3:=(lO a every a0).trans h.defs.symm
      cases hf : fill a every a0
      cases a
      rw [hf] at e2 e3
      simp only at e2 e3
      rw [e2,e3]
    rw [e1] at h1
    exact h1
  have one : ∀ (fuel : Nat) (listed : Array Bool) (a : Act) (W : World) (K : Act → World → Prop) (i : Nat),PInv ops R a0 w listed a W → i ∈ Region.ready .any ops listed →
      (∀ a' W',PInv ops R a0 w (listed.setIfInBounds i true) a' W' → K a' W') → wpOp P ops Q i K a W:=by
    intro fuel listed a W K i h hr hK
    obtain ⟨_,o,hi,_⟩:=mem_ready.1 hr
    exact zU hi (hok i o hi) (hob i o hi) h hr hK
  intro fuel
  induction fuel with
  | zero =>
    intro listed a W h hc
    have hall : ∀ j,j < ops.size → listed.getD j false = true:=by
      intro j hj
      have hn : false ∉ listed.toList:=List.count_eq_zero.1 (by omega)
      have hjl : j < listed.size:=by rw [h.size];exact hj
      cases hb : listed[j]
      · exact absurd (by rw [← hb];exact Array.getElem_mem_toList hjl) hn
      · simp [hjl,hb]
    refine ⟨?_,fin _ _ _ h hall⟩
    cases hr : Region.ready .any ops listed with
    | nil => rfl
    | cons x xs =>
      have hx : x ∈ Region.ready .any ops listed:=by rw [hr];exact List.mem_cons_self
      obtain ⟨hl,o,hi,_⟩:=mem_ready.1 hx
      have hlt : x < ops.size:=(Array.getElem?_eq_some_iff.1 hi).1
      have:=hall x hlt
      have hxl : x < listed.size:=by rw [h.size];exact hlt
      simp [hxl] at hl this
      rw [hl] at this;cases this
  | succ fuel ih =>
    intro listed a W h hc
    refine ⟨fun hr => fin _ _ _ h (qK hok h.size hr),fun i hi => one fuel listed a W _ i h hi fun a' W' h' => ih _ _ _ h' ?_⟩
    obtain ⟨hl,o,ho,_⟩:=mem_ready.1 hi
    have hil : i < listed.size:=by rw [h.size];exact (Array.getElem?_eq_some_iff.1 ho).1
    have:=qG listed.toList i (by
      simp [hil] at hl ⊢;exact hl)
    rw [Array.toList_setIfInBounds]
    omega
theorem zE {id : Nat} (R : List Fact) (D : List (List (Nat × Nat))) (every : List (Nat × Nat)) (hm : P.follows .mixedOrders = true) (hok : partsOk ops D every a0.tmps.size = true)
    (hob : ∀ i o,ops[i]? = some o → ∀ W,Below w.heap.size w W → given R W (fun a1 => wpList P ops (PartPost a0.defers W o (factAt R i)) [o] a1 W) (D.getD i []) a0)
    (hend : ∀ W,Below w.heap.size w W → given R W (fun a => Q .normal a W) every a0) : (Code.region id ops true).wp P Q a0 w:=by
  unfold partsOk at hok
  simp only [Bool.and_eq_true] at hok
  have ok : ∀ i o,ops[i]? = some o → OpOk ops D every a0.tmps.size i o:=fun i o hi => OpOk.of (by
    have:=List.all_eq_true.1 hok.1 i (List.mem_range.2 (Array.getElem?_eq_some_iff.1 hi).1)
    rw [hi] at this
    exact this)
  have hev : ∀ p ∈ every,∃ oj,ops[p.1]? = some oj ∧ oj.dst = some p.2:=fun p hp => by
    have:=List.all_eq_true.1 hok.2 p hp
    obtain ⟨oj,h6,h7⟩:=Option.bind_eq_some_iff.1 (beq_iff_eq.1 this)
    exact ⟨oj,h6,h7⟩
  refine wp_region_any hm (uR ok hev hob hend ops.size _ a0 _ ⟨by simp,⟨rfl,rfl,rfl,Nat.le_refl _,fun _ _ => rfl⟩,rfl,rfl,fun j oj d hj _ hl => ?_,fun _ _ => rfl,fun j oj hj hl => ?_⟩ (by simp))
  all_goals
    exfalso
    have hlt : j < ops.size:=(Array.getElem?_eq_some_iff.1 hj).1
    simp [hlt] at hl
def obs (P : Program) (ops : Array Oper) (R : List Fact) (D : List (List (Nat × Nat))) (w : World) (a0 : Act) : Nat → List Oper → Prop
  | _,[] => True
  | i,o :: r => (∀ W,Below w.heap.size w W → given R W (fun a1 => wpList P ops (PartPost a0.defers W o (factAt R i)) [o] a1 W) (D.getD i []) a0) ∧ obs P ops R D w a0 (i + 1) r
theorem u2 : ∀ (l : List Oper) (k : Nat),obs P ops R D w a0 k l → ∀ j o,l[j]? = some o → ∀ W,Below w.heap.size w W → given R W (fun a1 => wpList P ops (PartPost a0.defers W o (factAt R (k + j))) [o] a1 W) (D.getD (k + j) []) a0
  | [],_,_,j,o,h => by simp at h
  | x :: l,k,ho,0,o,h => by
    simp at h;subst h
    exact ho.1
  | x :: l,k,ho,j + 1,o,h => by
    have:=u2 l (k + 1) ho.2 j o (by simpa using h)
    rw [show k + (j + 1) = k + 1 + j by omega]
    exact this
theorem lY {id : Nat} {l : List Oper} (R : List Fact) (D : List (List (Nat × Nat))) (every : List (Nat × Nat)) (hm : P.follows .mixedOrders = true) (hok : partsOk l.toArray D every a0.tmps.size = true)
    (hob : obs P l.toArray R D w a0 0 l) (hend : ∀ W,Below w.heap.size w W → given R W (fun a => Q .normal a W) every a0) : (Code.region id l.toArray true).wp P Q a0 w :=
  zE R D every hm hok (fun i o hi W hW => by
    have:=u2 l 0 hob i o (by simpa using hi) W hW
    rw [Nat.zero_add] at this
    exact this) hend
end
def Fact.bytes (bs : List Nat) : Fact:=⟨fun v w => ∃ A cap,v = .slice A bs.length cap ∧ Row byteV w w.heap.size A bs.length bs,fun _ _ _ hb ⟨A,cap,hv,hr⟩ => ⟨A,cap,hv,(hr.below hb).more hb.size⟩⟩
theorem j3 {D : List Deferred} {W : World} {o : Oper} {d : Nat} {c : Value} {a : Act} (ho : o.dst = some d) (hs : a.tmps.toList[d]? = some c) (hd : a.defers = D) : PartPost D W o (Fact.is c) .normal a W:=by
  refine ⟨hd,Below.refl _ _,?_⟩
  show slotOf o a = c
  have h : a.tmps[d]? = some c:=by simpa using hs
  simp [slotOf,ho,Array.getD_eq_getD_getElem?,h]
theorem jH {D : List Deferred} {W W' : World} {o : Oper} {d : Nat} {c : Value} {R : Fact} {a : Act} (ho : o.dst = some d) (hs : a.tmps.toList[d]? = some c) (hd : a.defers = D) (hb : Below W.heap.size W W') (hr : R.holds c W') : PartPost D W o R .normal a W':=by
  refine ⟨hd,hb,?_⟩
  have h : a.tmps[d]? = some c:=by simpa using hs
  simp only [slotOf,ho,Array.getD_eq_getD_getElem?,h,Option.getD_some]
  exact hr
theorem jV (l : List Value) (ds : List Deferred) (d : Nat) (v : Value) : Act.put ⟨l.toArray,ds⟩ (some d) v = ⟨(l.set d v).toArray,ds⟩:=by simp [Act.put]
theorem lE {P : Program} {ops : Array Oper} {rest : List Oper} {o : Oper} {a : Act} {w : World} {Q : Exit → Act → World → Prop} (hgd : o.guard = none) (t : TypeId) (l c : Operand) (ho : o.op = .makeSlice t l c)
    (e : TypeId) (z : Value) (bytes : Nat) (ht : P.underlying t = some (.slice e)) (hi : (P.info? e).map (fun i => (i.zero,i.size,i.bytes)) = some (some z,1,bytes)) (hz1 : z.cells = #[z])
    (kl kc : IntKind) (n m : Nat) (hl : a.eval l = .int kl (n : Int)) (hc : a.eval c = .int kc (m : Int)) (hnm : n ≤ m) (hb : bytes * m ≤ 281474976710656) (h63 : m ≤ 9223372036854775807)
    (h : ∀ g w',w.heap.size ≤ g → Blk w' g e (List.replicate m z) → Below w.heap.size w w' → wpList P ops Q rest (a.put o.dst (.slice (some ⟨g,0,none⟩) n m)) w') : wpList P ops Q (o :: rest) a w:=by
  refine wpList_plain hgd fun K hK => ?_
  obtain ⟨i,hi0,hzz⟩:=Option.map_eq_some_iff.1 hi
  simp only [Prod.mk.injEq] at hzz
  obtain ⟨hz,hs,hbb⟩:=hzz
  have hb' : (i.bytes : Int) * (m : Int) ≤ 281474976710656:=by
    have h : ((i.bytes * m : Nat) : Int) ≤ 281474976710656:=by rw [hbb];omega
    rwa [Int.natCast_mul] at h
  have hr:=run_make (P:=P) w t e i z ht hi0 hz kl kc n m (by omega) (by omega) hb' (by omega)
  simp only [Int.toNat_natCast,hs,Nat.mul_one,hz1] at hr
  have hmc : madeCells #[z] m = (List.replicate m z).toArray:=by
    apply Array.ext
    · simp [madeCells]
    · intro k h1 h2
      simp [madeCells,Nat.mod_one]
  unfold Oper.wp
  simp [execOp,ho,hl,hc,hr,Result.andThen]
  exact hK _ _ (h _ _ (Nat.le_refl _) (Blk.newAt hmc rfl) ((Below.refl _ _).alloc (Nat.le_refl _) _))
theorem Blk.own {w : World} {g B : Nat} {e : TypeId} {cs xs : List Value} {cap : Nat} (h : Blk w g e cs) (hB : B ≤ g) (hc : cs.length = cap) (hn : xs.length ≤ cap) (hm : cap ≤ maxLen) (hx : cs.take xs.length = xs) :
    Own w B e (.slice (some ⟨g,0,none⟩) xs.length cap) xs :=
  ⟨by simp,.inr ⟨g,cap,cs.toArray,rfl,hB,h,hn,hm,by simpa using hc,by simpa using hx⟩⟩
end Go.Proofs.YtlgaefenhfmjfaaDoor
namespace Go.Proofs.YtlgaefenhfmjfaaDoor.Q
inductive Reach (R : Nat → Nat → Prop) (n : Nat) : Nat → Nat → Prop
  | one {x y : Nat} : R x y → Reach R n x y
  | more {x j y : Nat} : R x j → j < n → Reach R n j y → Reach R n x y
theorem Reach.trans {R : Nat → Nat → Prop} {n x j y : Nat} (h : Reach R n x j) (hj : j < n) (k : Reach R n j y) : Reach R n x y:=by
  induction h with
  | one h => exact .more h hj k
  | more h hl _ ih => exact .more h hl (ih hj k)
def Via (R : Nat → Nat → Prop) : Nat → Nat → Nat → Prop
  | 0 => R
  | k + 1 => fun x y => Via R k x y ∨ (Via R k x k ∧ Via R k k y)
theorem y4 {R : Nat → Nat → Prop} {x y : Nat} (h : R x y) : ∀ k,Via R k x y
  | 0 => h
  | k + 1 => .inl (y4 h k)
theorem q9 {R : Nat → Nat → Prop} : ∀ (k j x y : Nat),j < k → Via R k x j → Via R k j y → Via R k x y
  | 0,j,_,_,hj,_,_ => by omega
  | k + 1,j,x,y,hj,h1,h2 => by
    rcases Nat.lt_or_ge j k with hlt | hge
    · rcases h1 with h1 | ⟨h1,h1'⟩
      · rcases h2 with h2 | ⟨h2,h2'⟩
        · exact .inl (q9 k j x y hlt h1 h2)
        · exact .inr ⟨q9 k j x k hlt h1 h2,h2'⟩
      · rcases h2 with h2 | ⟨_,h2'⟩
        · exact .inr ⟨h1,q9 k j k y hlt h1' h2⟩
        · exact .inr ⟨h1,h2'⟩
    · have e : j = k:=by omega
      subst e
      have a : Via R j x j:=by rcases h1 with h1 | ⟨h1,_⟩ <;> exact h1
      have b : Via R j j y:=by rcases h2 with h2 | ⟨_,h2⟩ <;> exact h2
      exact .inr ⟨a,b⟩
theorem yR {R : Nat → Nat → Prop} {n x y : Nat} (h : Reach R n x y) : Via R n x y:=by
  induction h with
  | one h => exact y4 h n
  | more h hj _ ih => exact q9 n _ _ _ hj (y4 h n) ih
def mget (M : List (List Nat)) (a b : Nat) : Nat:=(M.getD a []).getD b 0
def mset (M : List (List Nat)) (a b : Nat) : List (List Nat):=M.set a ((M.getD a []).set b 1)
def qL (n : Nat) (M : List (List Nat)) : Prop:=M.length = n ∧ ∀ r ∈ M,r.length = n
theorem qL.row {n : Nat} {M : List (List Nat)} (h : qL n M) {a : Nat} (ha : a < n) : ∃ r,M[a]? = some r ∧ r.length = n ∧ M.getD a [] = r:=by
  have hl : a < M.length:=by rw [h.1];exact ha
  exact ⟨M[a],List.getElem?_eq_getElem hl,h.2 _ (List.getElem_mem hl),by rw [List.getD_eq_getElem?_getD,List.getElem?_eq_getElem hl];rfl⟩
theorem v6 {n : Nat} {M : List (List Nat)} (h : qL n M) {a b : Nat} (ha : a < n) : qL n (mset M a b):=by
  obtain ⟨r,_,hr,e⟩:=h.row ha
  refine ⟨by unfold mset;rw [List.length_set];exact h.1,fun x hx => ?_⟩
  unfold mset at hx
  rcases List.mem_or_eq_of_mem_set hx with hx | hx
  · exact h.2 x hx
  · rw [hx,List.length_set,e,hr]
theorem xB {n : Nat} {M : List (List Nat)} (h : qL n M) {a b : Nat} (ha : a < n) (hb : b < n) (x y : Nat) : mget (mset M a b) x y = if x = a ∧ y = b then 1 else mget M x y:=by
  obtain ⟨r,hra,hr,e⟩:=h.row ha
  have hl : a < M.length:=by rw [h.1];exact ha
  unfold mget mset
  rw [e]
  by_cases hx : x = a
  · subst hx
    have h1 : (M.set x (r.set b 1)).getD x [] = r.set b 1:=by rw [List.getD_eq_getElem?_getD,List.getElem?_set_self hl];rfl
    rw [h1,e]
    by_cases hy : y = b
    · subst hy
      rw [if_pos ⟨rfl,rfl⟩,List.getD_eq_getElem?_getD,List.getElem?_set_self (by rw [hr];exact hb)]
      rfl
    · rw [if_neg (by intro h;exact hy h.2),List.getD_eq_getElem?_getD,List.getElem?_set_ne (by omega),← List.getD_eq_getElem?_getD]
  · have h2 : (M.set a (r.set b 1)).getD x [] = M.getD x []:=by rw [List.getD_eq_getElem?_getD,List.getElem?_set_ne (by omega),← List.getD_eq_getElem?_getD]
    rw [if_neg (by intro h;exact hx h.1),h2]
structure Closing (R : Nat → Nat → Prop) (n k a b : Nat) (M : List (List Nat)) : Prop where
  sq : qL n M
  sound : ∀ x y,x < n → y < n → mget M x y = 1 → Reach R n x y
  base : ∀ x y,x < n → y < n → Via R k x y → mget M x y = 1
  done : ∀ x y,x < n → y < n → (x < a ∨ (x = a ∧ y < b)) → Via R k x k → Via R k k y → mget M x y = 1
theorem Closing.set {R : Nat → Nat → Prop} {n k a b : Nat} {M : List (List Nat)} (h : Closing R n k a b M) (hk : k < n) (ha : a < n) (hb : b < n) (h1 : mget M a k = 1) (h2 : mget M k b = 1) : Closing R n k a (b + 1) (mset M a b):=by
  refine ⟨v6 h.sq ha,fun x y hx hy e => ?_,fun x y hx hy v => ?_,fun x y hx hy hlt v1 v2 => ?_⟩
  · rw [xB h.sq ha hb] at e
    split at e
    · rename_i hxy
      rw [hxy.1,hxy.2]
      exact (h.sound a k ha hk h1).trans hk (h.sound k b hk hb h2)
    · exact h.sound x y hx hy e
  · rw [xB h.sq ha hb]
    split
    · rfl
    · exact h.base x y hx hy v
  · rw [xB h.sq ha hb]
    split
    · rfl
    · rename_i hxy
      exact h.done x y hx hy (by omega) v1 v2
theorem Closing.skip {R : Nat → Nat → Prop} {n k a b : Nat} {M : List (List Nat)} (h : Closing R n k a b M) (hk : k < n) (h1 : ¬ (mget M a k = 1 ∧ mget M k b = 1)) : Closing R n k a (b + 1) M:=by
  refine ⟨h.sq,h.sound,h.base,fun x y hx hy hlt v1 v2 => ?_⟩
  by_cases e : x = a ∧ y = b
  · exfalso
    obtain ⟨rfl,rfl⟩:=e
    exact h1 ⟨h.base x k hx hk v1,h.base k y hk hy v2⟩
  · exact h.done x y hx hy (by omega) v1 v2
theorem Closing.line {R : Nat → Nat → Prop} {n k a : Nat} {M : List (List Nat)} (h : Closing R n k a n M) : Closing R n k (a + 1) 0 M :=
  ⟨h.sq,h.sound,h.base,fun x y hx hy _ v1 v2 => h.done x y hx hy (by omega) v1 v2⟩
theorem Closing.round {R : Nat → Nat → Prop} {n k : Nat} {M : List (List Nat)} (h : Closing R n k n 0 M) : Closing R n (k + 1) 0 0 M :=
  ⟨h.sq,h.sound,fun x y hx hy v => by
    rcases v with v | ⟨v1,v2⟩
    · exact h.base x y hx hy v
    · exact h.done x y hx hy (by omega) v1 v2,fun x y _ _ hlt _ _ => by omega⟩
theorem Closing.end_ {R : Nat → Nat → Prop} {n : Nat} {M : List (List Nat)} (h : Closing R n n 0 0 M) (x y : Nat) (hx : x < n) (hy : y < n) : mget M x y = 1 ↔ Reach R n x y :=
  ⟨h.sound x y hx hy,fun r => h.base x y hx hy (yR r)⟩
theorem Closing.start {R : Nat → Nat → Prop} {n : Nat} {M : List (List Nat)} (hs : qL n M) (h : ∀ x y,x < n → y < n → (mget M x y = 1 ↔ R x y)) : Closing R n 0 0 0 M :=
  ⟨hs,fun x y hx hy e => .one ((h x y hx hy).1 e),fun x y hx hy v => (h x y hx hy).2 v,fun x y _ _ hlt _ _ => by omega⟩
end Go.Proofs.YtlgaefenhfmjfaaDoor.Q
namespace Go.Proofs.YtlgaefenhfmjfaaDoor
open Go.RowKit
def rowV (n : Nat) (g : Nat) : Value:=.slice (some ⟨g,0,none⟩) n n
structure Mat (w : World) (C : Nat) (e e2 : TypeId) (v : Value) (n : Nat) (gs : List Nat) (M : List (List Nat)) : Prop where
  own : Own w C e v (gs.map (rowV n))
  len : gs.length = M.length
  blk : ∀ (i g : Nat) (r : List Nat),gs[i]? = some g → M[i]? = some r → Blk w g e2 (r.map natV) ∧ r.length = n
  lo : ∀ g ∈ gs,C ≤ g
  apart : ∀ g ∈ gs,v.ownBlock ≠ some g
  nodup : gs.Nodup
section
variable {w w' : World} {C : Nat} {e e2 : TypeId} {v : Value} {n : Nat} {gs : List Nat} {M : List (List Nat)}
theorem Mat.nil (w : World) (C : Nat) (e e2 : TypeId) (n : Nat) : Mat w C e e2 (.slice none 0 0) n [] [] :=
  ⟨Own.nil _ _ _,rfl,fun i g r h => by simp at h,by simp,by simp,List.nodup_nil⟩
theorem Mat.below (h : Mat w C e e2 v n gs M) (hb : Below w.heap.size w w') : Mat w' C e e2 v n gs M :=
  ⟨h.own.below hb (Nat.le_refl _),h.len,fun i g r hg hr => ⟨(h.blk i g r hg hr).1.below hb (h.blk i g r hg hr).1.lt,(h.blk i g r hg hr).2⟩,h.lo,h.apart,h.nodup⟩
theorem Mat.drewN (h : Mat w C e e2 v n gs M) (k : Nat) : Mat (w.drewN k) C e e2 v n gs M:=h.below (below_drewN (Below.refl _ _) k)
theorem Mat.less (h : Mat w C e e2 v n gs M) {C' : Nat} (hC : C' ≤ C) : Mat w C' e e2 v n gs M :=
  ⟨h.own.less hC,h.len,h.blk,fun g hg => Nat.le_trans hC (h.lo g hg),h.apart,h.nodup⟩
theorem Mat.get (h : Mat w C e e2 v n gs M) {a : Nat} (ha : a < M.length) :
    ∃ (ad : Addr) (g cap : Nat) (r : List Nat),v = .slice (some ad) M.length cap ∧ ad.block < w.heap.size ∧ gs[a]? = some g ∧ M[a]? = some r ∧ r.length = n ∧ w.cell? (ad.add a) = some (.slice (some ⟨g,0,none⟩) n n) ∧ Blk w g e2 (r.map natV) ∧ C ≤ g ∧ v.ownBlock ≠ some g ∧ M.length ≤ cap ∧ cap ≤ maxLen:=by
  obtain ⟨A,cap,hv,hc,hm,hr⟩:=Own.readsN h.own h.len
  obtain ⟨ad,g,e1,hb,hg,hcell⟩:=hr.get (k:=a) ha
  obtain ⟨r,hra⟩ : ∃ r,M[a]? = some r:=⟨_,List.getElem?_eq_getElem ha⟩
  obtain ⟨k1,k2⟩:=h.blk a g r hg hra
  exact ⟨ad,g,cap,r,by rw [hv,e1],hb,hg,hra,k2,hcell,k1,h.lo g (List.mem_of_getElem? hg),h.apart g (List.mem_of_getElem? hg),hc,hm⟩
theorem Mat.set (h : Mat w C e e2 v n gs M) {a b g : Nat} (hg : gs[a]? = some g) : Mat (w.setCell ⟨g,b,none⟩ (natV 1)) C e e2 v n gs (Q.mset M a b):=by
  have hal : a < gs.length:=(List.getElem?_eq_some_iff.1 hg).1
  have haM : a < M.length:=by rw [← h.len];exact hal
  have hgr : w.grownBy (w.setCell ⟨g,b,none⟩ (natV 1)) (some g):=jK (jG _ _)
  refine ⟨h.own.far hgr ?_,by unfold Q.mset;rw [List.length_set];exact h.len,fun i x q hx hq => ?_,h.lo,h.apart,h.nodup⟩
  · exact .inr (h.apart g (List.mem_of_getElem? hg))
  · unfold Q.mset at hq
    by_cases hi : a = i
    · subst hi
      rw [hg] at hx;cases hx
      rw [List.getElem?_set_self haM] at hq
      cases hq
      obtain ⟨k1,k2⟩:=h.blk a g _ hg (List.getElem?_eq_getElem haM)
      have e1 : M.getD a [] = M[a]:=by rw [List.getD_eq_getElem?_getD,List.getElem?_eq_getElem haM];rfl
      rw [e1]
      refine ⟨?_,by rw [List.length_set];exact k2⟩
      have:=k1.set b (natV 1)
      rw [List.map_set]
      exact this
    · rw [List.getElem?_set_ne hi] at hq
      obtain ⟨k1,k2⟩:=h.blk i x q hx hq
      refine ⟨k1.other _ _ ?_,k2⟩
      intro e1
      have hil : i < gs.length:=(List.getElem?_eq_some_iff.1 hx).1
      have h1 : gs[i]'hil = x:=(List.getElem?_eq_some_iff.1 hx).2
      have h2 : gs[a]'hal = g:=(List.getElem?_eq_some_iff.1 hg).2
      have h3 : gs[i]'hil = gs[a]'hal:=by rw [h1,h2];exact e1
      have hp:=List.pairwise_iff_getElem.1 h.nodup
      rcases Nat.lt_or_gt_of_ne hi with hlt | hlt
      · exact hp a i hal hil hlt h3.symm
      · exact hp i a hil hal hlt h3
end
end Go.Proofs.YtlgaefenhfmjfaaDoor
namespace Go.Proofs.YtlgaefenhfmjfaaDoor.Q
open Classical in
noncomputable def firstIdx (P : Nat → Prop) : Nat → Option Nat
  | 0 => none
  | n + 1 => match firstIdx P n with
    | some i => some i
    | none => if P n then some n else none
theorem firstIdx_none {P : Nat → Prop} : ∀ n,(∀ i,i < n → ¬ P i) → firstIdx P n = none
  | 0,_ => rfl
  | n + 1,h => by
    have h1:=firstIdx_none n fun i hi => h i (by omega)
    have h2:=h n (by omega)
    simp only [firstIdx,h1,if_neg h2]
theorem jX {P : Nat → Prop} {i : Nat} (hP : P i) : ∀ n,i < n → (∀ j,j < i → ¬ P j) → firstIdx P n = some i
  | 0,hi,_ => by omega
  | n + 1,hi,h => by
    by_cases hin : i < n
    · have h1:=jX hP n hin h
      simp only [firstIdx,h1]
    · have e : i = n:=by omega
      subst e
      have h1:=firstIdx_none i h
      simp only [firstIdx,h1,if_pos hP]
def badNode (p : Pg) (fn : Fn) (i : Nat) : Prop:=∃ nd,fn.nodes[i]? = some nd ∧ may p.g p.l p.s p.len nd fn.nodes.length = false
noncomputable def fnFault (p : Pg) (fn : Fn) : Int × Nat :=
  if fn.nodes.length = 0 then (-1,1) else if 64 < fn.nodes.length then (-1,4) else match firstIdx (badNode p fn) fn.nodes.length with
    | some i => ((i : Int),3)
    | none => (0,0)
def badFn (p : Pg) (f : Nat) : Prop:=∃ fn,p.fns[f]? = some fn ∧ (fnFault p fn).2 ≠ 0
def roundAt (p : Pg) (f i : Nat) : Prop:=∃ fn nd,p.fns[f]? = some fn ∧ fn.nodes[i]? = some nd ∧ nd.kind = 7 ∧ ∃ k : Nat,nd.arg = (k : Int) ∧ k < p.fns.length ∧ (k = f ∨ Reach (calls p) p.fns.length k f)
noncomputable def roundIn (p : Pg) (f : Nat) : Option Nat:=firstIdx (roundAt p f) 64
def badRound (p : Pg) (f : Nat) : Prop:=∃ i,roundAt p f i
noncomputable def check (p : Pg) : Int × Int × Nat :=
  if p.g < 0 ∨ p.l < 0 ∨ p.s < 0 ∨ p.fns.length = 0 then (-1,-1,1)
  else if 16 < p.g ∨ 16 < p.l ∨ 8 < p.s ∨ 16 < p.fns.length then (-1,-1,4)
  else match firstIdx (badFn p) p.fns.length with
    | some f => ((f : Int),(fnFault p (p.fns.getD f default)).1,(fnFault p (p.fns.getD f default)).2)
    | none => match firstIdx (badRound p) p.fns.length with
      | some f => ((f : Int),(((roundIn p f).getD 0 : Nat) : Int),8)
      | none => (0,0,0)
theorem fault_empty (p : Pg) (fn : Fn) (h : fn.nodes.length = 0) : fnFault p fn = (-1,1):=by unfold fnFault;rw [if_pos h]
theorem fault_long (p : Pg) (fn : Fn) (h : 64 < fn.nodes.length) : fnFault p fn = (-1,4):=by unfold fnFault;rw [if_neg (by omega),if_pos h]
theorem fault_node (p : Pg) (fn : Fn) (i : Nat) (h0 : fn.nodes.length ≠ 0) (h64 : fn.nodes.length ≤ 64) (hi : badNode p fn i) (hlt : i < fn.nodes.length) (hp : ∀ j,j < i → ¬ badNode p fn j) : fnFault p fn = ((i : Int),3):=by
  unfold fnFault
  rw [if_neg h0,if_neg (by omega),jX hi _ hlt hp]
theorem fault_none (p : Pg) (fn : Fn) (h0 : fn.nodes.length ≠ 0) (h64 : fn.nodes.length ≤ 64) (hp : ∀ j,j < fn.nodes.length → ¬ badNode p fn j) : fnFault p fn = (0,0):=by
  unfold fnFault
  rw [if_neg h0,if_neg (by omega),firstIdx_none _ hp]
structure Counts (p : Pg) : Prop where
  g : 0 ≤ p.g ∧ p.g ≤ 16
  l : 0 ≤ p.l ∧ p.l ≤ 16
  s : 0 ≤ p.s ∧ p.s ≤ 8
  f : 0 < p.fns.length ∧ p.fns.length ≤ 16
theorem check_fn {p : Pg} (hc : Counts p) {f : Nat} {fn : Fn} (hf : p.fns[f]? = some fn) (hb : (fnFault p fn).2 ≠ 0) (hp : ∀ j,j < f → ¬ badFn p j) : check p = ((f : Int),(fnFault p fn).1,(fnFault p fn).2):=by
  have hlt : f < p.fns.length:=(List.getElem?_eq_some_iff.1 hf).1
  unfold check
  rw [if_neg (by have:=hc.g;have:=hc.l;have:=hc.s;have:=hc.f;omega),if_neg (by have:=hc.g;have:=hc.l;have:=hc.s;have:=hc.f;omega),jX ⟨fn,hf,hb⟩ _ hlt hp]
  have e : p.fns.getD f default = fn:=by rw [List.getD_eq_getElem?_getD,hf];rfl
  simp only [e]
theorem check_round {p : Pg} (hc : Counts p) (hn : ∀ j,j < p.fns.length → ¬ badFn p j) {f i : Nat} (hr : roundAt p f i) (hi : i < 64) (hlt : f < p.fns.length) (hp : ∀ j,j < f → ¬ badRound p j) (hpi : ∀ j,j < i → ¬ roundAt p f j) : check p = ((f : Int),(i : Int),8):=by
  unfold check
  rw [if_neg (by have:=hc.g;have:=hc.l;have:=hc.s;have:=hc.f;omega),if_neg (by have:=hc.g;have:=hc.l;have:=hc.s;have:=hc.f;omega),firstIdx_none _ hn]
  simp only
  rw [jX ⟨i,hr⟩ _ hlt hp]
  have e : roundIn p f = some i:=jX hr _ hi hpi
  simp only [e,Option.getD_some]
theorem check_fine {p : Pg} (hc : Counts p) (hn : ∀ j,j < p.fns.length → ¬ badFn p j) (hp : ∀ j,j < p.fns.length → ¬ badRound p j) : check p = (0,0,0):=by
  unfold check
  rw [if_neg (by have:=hc.g;have:=hc.l;have:=hc.s;have:=hc.f;omega),if_neg (by have:=hc.g;have:=hc.l;have:=hc.s;have:=hc.f;omega),firstIdx_none _ hn]
  simp only
  rw [firstIdx_none _ hp]
theorem fine_fn {p : Pg} {f : Nat} {fn : Fn} (hf : p.fns[f]? = some fn) (h : ¬ badFn p f) : 0 < fn.nodes.length ∧ fn.nodes.length ≤ 64 ∧ ∀ (i : Nat) (nd : Nd),fn.nodes[i]? = some nd → may p.g p.l p.s p.len nd fn.nodes.length = true:=by
  have h2 : (fnFault p fn).2 = 0:=by
    cases e : (fnFault p fn).2 with
    | zero => rfl
    | succ k => exact absurd ⟨fn,hf,by omega⟩ h
  by_cases h0 : fn.nodes.length = 0
  · rw [fault_empty p fn h0] at h2;cases h2
  · by_cases h64 : 64 < fn.nodes.length
    · rw [fault_long p fn h64] at h2;cases h2
    · refine ⟨by omega,by omega,fun i nd hnd => ?_⟩
      cases hm : may p.g p.l p.s p.len nd fn.nodes.length with
      | true => rfl
      | false =>
        exfalso
        have hb : badNode p fn i:=⟨nd,hnd,hm⟩
        have hil : i < fn.nodes.length:=(List.getElem?_eq_some_iff.1 hnd).1
        -- some first one
        have hex : ∃ i,i < fn.nodes.length ∧ badNode p fn i ∧ ∀ j,j < i → ¬ badNode p fn j:=by
          have : ∀ n,(∃ i,i ≤ n ∧ badNode p fn i) → ∃ i,i ≤ n ∧ badNode p fn i ∧ ∀ j,j < i → ¬ badNode p fn j:=by
            intro n
            induction n with
            | zero => rintro ⟨i,hi,hb⟩;exact ⟨i,hi,hb,fun j hj => by omega⟩
            | succ n ih =>
              rintro ⟨i,hi,hb⟩
              by_cases h : ∃ j,j ≤ n ∧ badNode p fn j
              · obtain ⟨j,h1,h2⟩:=ih h
                exact ⟨j,by omega,h2⟩
              · exact ⟨i,hi,hb,fun j hj hbj => h ⟨j,by omega,hbj⟩⟩
          obtain ⟨j,h1,h2⟩:=this i ⟨i,Nat.le_refl _,hb⟩
          exact ⟨j,by omega,h2⟩
        obtain ⟨j,h1,h3,h4⟩:=hex
        rw [fault_node p fn j h0 (by omega) h3 h1 h4] at h2
        cases h2
end Go.Proofs.YtlgaefenhfmjfaaDoor.Q
namespace Go.Proofs.YtlgaefenhfmjfaaDoor.Q
structure Clo (R : Nat → Nat → Prop) (n k a b : Nat) (G : Nat → Nat → Prop) : Prop where
  sound : ∀ x y,x < n → y < n → G x y → Reach R n x y
  base : ∀ x y,x < n → y < n → Via R k x y → G x y
  done : ∀ x y,x < n → y < n → (x < a ∨ (x = a ∧ y < b)) → Via R k x k → Via R k k y → G x y
section
variable {R : Nat → Nat → Prop} {n k a b : Nat} {G G' : Nat → Nat → Prop}
theorem Clo.step (h : Clo R n k a b G) (hk : k < n) (ha : a < n) (hb : b < n) (hG : ∀ x y,x < n → y < n → (G' x y ↔ G x y ∨ (x = a ∧ y = b ∧ G a k ∧ G k b))) : Clo R n k a (b + 1) G':=by
  refine ⟨fun x y hx hy e => ?_,fun x y hx hy v => (hG x y hx hy).2 (.inl (h.base x y hx hy v)),fun x y hx hy hlt v1 v2 => ?_⟩
  · rcases (hG x y hx hy).1 e with e | ⟨rfl,rfl,g1,g2⟩
    · exact h.sound x y hx hy e
    · exact (h.sound x k hx hk g1).trans hk (h.sound k y hk hy g2)
  · by_cases e : x = a ∧ y = b
    · obtain ⟨rfl,rfl⟩:=e
      exact (hG x y hx hy).2 (.inr ⟨rfl,rfl,h.base x k hx hk v1,h.base k y hk hy v2⟩)
    · exact (hG x y hx hy).2 (.inl (h.done x y hx hy (by omega) v1 v2))
theorem Clo.line (h : Clo R n k a n G) : Clo R n k (a + 1) 0 G :=
  ⟨h.sound,h.base,fun x y hx hy _ v1 v2 => h.done x y hx hy (by omega) v1 v2⟩
theorem Clo.round (h : Clo R n k n 0 G) : Clo R n (k + 1) 0 0 G :=
  ⟨h.sound,fun x y hx hy v => by
    rcases v with v | ⟨v1,v2⟩
    · exact h.base x y hx hy v
    · exact h.done x y hx hy (by omega) v1 v2,fun x y _ _ hlt _ _ => by omega⟩
theorem Clo.end_ (h : Clo R n n 0 0 G) (x y : Nat) (hx : x < n) (hy : y < n) : G x y ↔ Reach R n x y :=
  ⟨h.sound x y hx hy,fun r => h.base x y hx hy (yR r)⟩
theorem Clo.start (h : ∀ x y,x < n → y < n → (G x y ↔ R x y)) : Clo R n 0 0 0 G :=
  ⟨fun x y hx hy e => .one ((h x y hx hy).1 e),fun x y hx hy v => (h x y hx hy).2 v,fun x y _ _ hlt _ _ => by omega⟩
end
def ent (L : List Bool) (x y : Nat) : Prop:=L.getD (x * 16 + y) false = true
theorem ent_set {L : List Bool} (hL : L.length = 256) {a b : Nat} (ha : a < 16) (hb : b < 16) (v : Bool) (x y : Nat) (_hx : x < 16) (hy : y < 16) : ent (L.set (a * 16 + b) v) x y ↔ if x = a ∧ y = b then v = true else ent L x y:=by
  unfold ent
  by_cases e : x = a ∧ y = b
  · obtain ⟨rfl,rfl⟩:=e
    rw [if_pos ⟨rfl,rfl⟩,List.getD_eq_getElem?_getD,List.getElem?_set_self (by omega)]
    simp
  · rw [if_neg e,List.getD_eq_getElem?_getD,List.getElem?_set_ne (by omega),← List.getD_eq_getElem?_getD]
theorem ent_zero (x y : Nat) : ¬ ent (List.replicate 256 false) x y:=by
  unfold ent
  rw [List.getD_eq_getElem?_getD,List.getElem?_replicate]
  split <;> simp
theorem ent_at {L : List Bool} (hL : L.length = 256) {x y : Nat} (hx : x < 16) (hy : y < 16) : ∃ v,L[x * 16 + y]? = some v ∧ (ent L x y ↔ v = true):=by
  have h : x * 16 + y < L.length:=by omega
  refine ⟨L[x * 16 + y],List.getElem?_eq_getElem h,?_⟩
  unfold ent
  rw [List.getD_eq_getElem?_getD,List.getElem?_eq_getElem h]
  rfl
theorem reach_less {R : Nat → Nat → Prop} {n m : Nat} (hR : ∀ x y,R x y → y < m) {x y : Nat} (h : Reach R n x y) : Reach R m x y:=by
  induction h with
  | one h => exact .one h
  | more h _ _ ih => exact .more h (hR _ _ h) ih
theorem reach_more {R : Nat → Nat → Prop} {n m : Nat} (hnm : m ≤ n) {x y : Nat} (h : Reach R m x y) : Reach R n x y:=by
  induction h with
  | one h => exact .one h
  | more h hj _ ih => exact .more h (by omega) ih
theorem calls_lt {p : Pg} (h : CallsFit p) (x y : Nat) (hc : calls p x y) : y < p.len:=by
  obtain ⟨f,hf,nd,hnd,h7,ha⟩:=hc
  have:=h f (List.mem_of_getElem? hf) nd hnd h7
  omega
end Go.Proofs.YtlgaefenhfmjfaaDoor.Q
