/- GraphBits, GraphMore, KillMath, Slice, Own, Held, GraphP1, KillP1, OrderMath, HeapMath. -/
import Derived.Test.YtoekiejipdabmaaDoorPk1
import Derived.Test.YtoekiejipdabmaaDoorPk2
import Derived.Test.YtoekiejipdabmaaDoorGraphRef4
import Derived.Test.YtoekiejipdabmaaDoorPk4
import Derived.Laws.Slices
import Derived.Test.YtoekiejipdabmaaDoorProgRef5
import Derived.Laws.BitsAllLaws
import Derived.Test.YtoekiejipdabmaaDoorPk3
namespace Go.Proofs.YtoekiejipdabmaaDoor
open Go.RowKit
def BitsAre (m : Nat) (P : Nat → Prop) : Prop:=m < 4294967296 ∧ ∀ id,id < 32 → (m.testBit id = true ↔ P id)
theorem BitsAre.uniq {m m' : Nat} {P : Nat → Prop} (h : BitsAre m P) (h' : BitsAre m' P) : m = m' :=
  S.eq_of_bits m m' h.1 h'.1 fun i hi => by
    have h1:=h.2 i hi
    have h2:=h'.2 i hi
    cases e : m.testBit i <;> cases e' : m'.testBit i <;> simp_all
theorem BitsAre.congr {m : Nat} {P P' : Nat → Prop} (h : BitsAre m P) (hp : ∀ id,id < 32 → (P id ↔ P' id)) : BitsAre m P':=⟨h.1,fun id hi => (h.2 id hi).trans (hp id hi)⟩
theorem qC : BitsAre 0 (fun _ => False):=⟨by omega,fun id _ => by simp⟩
theorem vV {a b : Nat} {P P' : Nat → Prop} (h : BitsAre a P) (h' : BitsAre b P') : BitsAre (a ||| b) (fun id => P id ∨ P' id) :=
  ⟨Nat.or_lt_two_pow (n:=32) h.1 h'.1,fun id hi => by rw [Nat.testBit_or,Bool.or_eq_true,h.2 id hi,h'.2 id hi]⟩
theorem vJ (q : Nat → Bool) : ∀ n,S.mask ((List.range n).filter q) < 2 ^ n ∧ ∀ i,(S.mask ((List.range n).filter q)).testBit i = (decide (i < n) && q i)
  | 0 => ⟨by simp [S.mask],fun i => by simp [S.mask]⟩
  | n + 1 => by
    obtain ⟨h1,h2⟩:=vJ q n
    rw [List.range_succ,List.filter_append]
    by_cases hq : q n = true
    · rw [show [n].filter q = [n] by simp [hq],S.mask_snoc]
      generalize S.mask ((List.range n).filter q) = x at *
      have hp : 2 ^ (n + 1) = 2 ^ n * 2:=Nat.pow_succ ..
      refine ⟨by omega,fun i => ?_⟩
      rw [Nat.add_comm x]
      rcases Nat.lt_trichotomy i n with h | h | h
      · rw [Nat.testBit_two_pow_add_gt h,h2]
        simp [h,Nat.lt_succ_of_lt h]
      · subst h
        rw [Nat.testBit_two_pow_add_eq,Nat.testBit_lt_two_pow h1]
        simp [hq]
      · have hlt : 2 ^ n + x < 2 ^ i:=by
          have h3 : 2 ^ (n + 1) ≤ 2 ^ i:=Nat.pow_le_pow_right (by omega) h
          omega
        rw [Nat.testBit_lt_two_pow hlt]
        have h4 : ¬ i < n + 1:=by omega
        simp [h4]
    · rw [show [n].filter q = [] by simp [hq],List.append_nil]
      have hp : 2 ^ (n + 1) = 2 ^ n * 2:=Nat.pow_succ ..
      refine ⟨by omega,fun i => ?_⟩
      rw [h2]
      rcases Nat.lt_trichotomy i n with h | h | h
      · simp [h,Nat.lt_succ_of_lt h]
      · subst h;simp [hq]
      · have h4 : ¬ i < n + 1:=by omega
        have h5 : ¬ i < n:=by omega
        simp [h4,h5]
theorem Q1 (q : Nat → Bool) (n : Nat) (hn : n ≤ 32) : BitsAre (S.mask ((List.range n).filter q)) (fun id => id < n ∧ q id = true):=by
  obtain ⟨h1,h2⟩:=vJ q n
  have h3 : 2 ^ n ≤ 2 ^ 32:=Nat.pow_le_pow_right (by omega) hn
  have h4 : (2 : Nat) ^ 32 = 4294967296:=by decide
  refine ⟨by omega,fun id _ => ?_⟩
  rw [h2 id,Bool.and_eq_true,decide_eq_true_eq]
def Names (l : List Nd) (kind : Int) (id : Nat) : Prop:=∃ nd ∈ l,nd.kind = kind ∧ nd.arg = (id : Int)
theorem LX {p : Pg} {F F' : Nat → Prop} (h : ∀ j,F j ↔ F' j) (f : Nat) : Comes p F f ↔ Comes p F' f:=by
  unfold Comes
  rw [h f]
  constructor
  · rintro ⟨h1,h2 | ⟨j,h3,h4⟩⟩
    · exact ⟨h1,.inl h2⟩
    · exact ⟨h1,.inr ⟨j,(h j).1 h3,h4⟩⟩
  · rintro ⟨h1,h2 | ⟨j,h3,h4⟩⟩
    · exact ⟨h1,.inl h2⟩
    · exact ⟨h1,.inr ⟨j,(h j).2 h3,h4⟩⟩
open Classical in
noncomputable def reachL (p : Pg) (F : Nat → Prop) : List Nat:=trueTo (fun i => decide (Comes p F i)) p.len
open Classical in
theorem QO {p : Pg} {F : Nat → Prop} {o : Nat → Bool} (h : ∀ i,i < p.len → (o i = true ↔ Comes p F i)) : trueTo o p.len = reachL p F:=by
  unfold reachL trueTo
  refine List.filter_congr fun i hi => ?_
  have:=h i (List.mem_range.1 hi)
  cases e : o i
  · rw [e] at this
    symm
    exact decide_eq_false fun hc => by have:=this.2 hc;cases this
  · rw [e] at this
    symm
    exact decide_eq_true (this.1 rfl)
theorem ids_in {m x : Nat} (hm : m < 4294967296) : x ∈ S.ids m 32 ↔ m.testBit x = true:=by
  rw [S.ids_mem]
  constructor
  · exact fun h => h.2
  · intro h
    refine ⟨?_,h⟩
    rcases Nat.lt_or_ge x 32 with hx | hx
    · exact hx
    · rw [S.bit_high m x hm hx] at h;cases h
end Go.Proofs.YtoekiejipdabmaaDoor
namespace Go.Proofs.YtoekiejipdabmaaDoor
open Go.RowKit
theorem Fn.Ok.more {f : Fn} {w : World} {B B' : Nat} (h : f.Ok w B) (hB : B ≤ B') : f.Ok w B':=⟨⟨h.nodes.1.more hB,h.nodes.2⟩,h.lc,h.cm,h.nil⟩
theorem Pg.Ok.more {p : Pg} {w : World} {B B' : Nat} (h : p.Ok w B) (hB : B ≤ B') : p.Ok w B':=⟨h.g,h.l,h.s,h.row.more hB,fun f hf => (h.fns f hf).more hB,h.lc,h.cm,h.nil⟩
theorem LW {p : Pg} {F G : Nat → Prop} (h : ∀ j,F j → j < p.len → Comes p G j) {i : Nat} (hc : Comes p F i) : Comes p G i:=by
  obtain ⟨hi,h1 | ⟨j,hj,hjl,hr⟩⟩:=hc
  · exact h i h1 hi
  · have hj':=h j hj hjl
    refine ⟨hi,.inr ?_⟩
    obtain ⟨_,h2 | ⟨k,hk,hkl,hr2⟩⟩:=hj'
    · exact ⟨j,h2,hjl,hr⟩
    · exact ⟨k,hk,hkl,hr2.trans hjl hr⟩
theorem zO {p : Pg} {F : Nat → Prop} {j : Nat} (h : F j) (hj : j < p.len) : Comes p F j:=⟨hj,.inl h⟩
end Go.Proofs.YtoekiejipdabmaaDoor
namespace Go.Proofs.YtoekiejipdabmaaDoor
open Go.RowKit
def Tl (a b : Int) (x : Nd) (id : Nat) : Prop:=(x.kind = a ∨ x.kind = b) ∧ x.arg = (id : Int)
def MayDo (p : Pg) (a b : Int) (f id : Nat) : Prop:=∃ g fn,Comes p (fun x => x = f) g ∧ p.fns[g]? = some fn ∧ ∃ x ∈ fn.nodes,Tl a b x id
theorem y7 {p : Pg} {f g : Nat} (hf : f < p.len) : Comes p (fun x => x = f) g ↔ g < p.len ∧ (g = f ∨ ∃ y,CallIn p f y ∧ Comes p (fun x => x = y) g):=by
  constructor
  · rintro ⟨hg,h | ⟨j,rfl,hj,hr⟩⟩
    · exact ⟨hg,.inl h⟩
    · refine ⟨hg,.inr ?_⟩
      cases hr with
      | one h => exact ⟨g,h,zO rfl hg⟩
      | more h hk hr => exact ⟨_,h,hg,.inr ⟨_,rfl,hk,hr⟩⟩
  · rintro ⟨hg,rfl | ⟨y,hy,h⟩⟩
    · exact zO rfl hg
    · refine LW (fun j hj _ => ?_) h
      subst hj
      exact uU (zO rfl hf) hy
theorem uL {p : Pg} {a b : Int} {f : Nat} {fn : Fn} (hl : p.fns.length = p.len) (hfn : p.fns[f]? = some fn) (id : Nat) :
    MayDo p a b f id ↔ (∃ x ∈ fn.nodes,Tl a b x id) ∨ ∃ y,CallIn p f y ∧ MayDo p a b y id:=by
  have hf : f < p.len:=by rw [← hl];exact (List.getElem?_eq_some_iff.1 hfn).1
  unfold MayDo
  constructor
  · rintro ⟨g,fn',hc,hg,h⟩
    rcases (y7 hf).1 hc with ⟨_,rfl | ⟨y,hy,h2⟩⟩
    · rw [hfn] at hg;cases hg;exact .inl h
    · exact .inr ⟨y,hy,g,fn',h2,hg,h⟩
  · rintro (h | ⟨y,hy,g,fn',h2,hg,h⟩)
    · exact ⟨f,fn,zO rfl hf,hfn,h⟩
    · exact ⟨g,fn',(y7 hf).2 ⟨h2.1,.inr ⟨y,hy,h2⟩⟩,hg,h⟩
theorem QV {p : Pg} {a b : Int} {f y id : Nat} (hf : f < p.len) (hy : CallIn p f y) (h : MayDo p a b y id) : MayDo p a b f id:=by
  obtain ⟨g,fn,h2,hg,h⟩:=h
  exact ⟨g,fn,(y7 hf).2 ⟨h2.1,.inr ⟨y,hy,h2⟩⟩,hg,h⟩
theorem YG {p : Pg} {a b : Int} {f id : Nat} {fn : Fn} {x : Nd} (hl : p.fns.length = p.len) (hfn : p.fns[f]? = some fn) (hx : x ∈ fn.nodes) (h : Tl a b x id) : MayDo p a b f id :=
  (uL hl hfn id).2 (.inl ⟨x,hx,h⟩)
open Classical in
noncomputable def setL (P : Nat → Prop) : List Nat:=(List.range 32).filter fun id => decide (P id)
open Classical in
theorem x9 (P : Nat → Prop) : BitsAre (S.mask (setL P)) P :=
  (Q1 (fun id => decide (P id)) 32 (Nat.le_refl _)).congr fun id hid => by simp [hid]
theorem setL_len (P : Nat → Prop) : (setL P).length ≤ 32:=by
  unfold setL
  refine Nat.le_trans (List.length_filter_le _ _) ?_
  simp
theorem JY {P : Nat → Prop} {id : Nat} : id ∈ setL P ↔ id < 32 ∧ P id:=by simp [setL]
noncomputable def killL (p : Pg) (a b : Int) : List Nat:=(List.range p.len).map fun f => S.mask (setL (MayDo p a b f))
theorem yH (p : Pg) (a b : Int) : (killL p a b).length = p.len:=by simp [killL]
theorem uN {p : Pg} {a b : Int} {f : Nat} (hf : f < p.len) : (killL p a b)[f]? = some (S.mask (setL (MayDo p a b f))):=by
  unfold killL
  rw [List.getElem?_map,List.getElem?_range hf]
  rfl
theorem X0 {p : Pg} {a b : Int} {f m : Nat} (h : (killL p a b)[f]? = some m) : BitsAre m (MayDo p a b f):=by
  have hf : f < p.len:=by rw [← yH p a b];exact (List.getElem?_eq_some_iff.1 h).1
  rw [uN hf] at h
  cases h
  exact x9 _
theorem killL_is {p : Pg} {a b : Int} {ms : List Nat} (hl : ms.length = p.len) (h : ∀ f m,ms[f]? = some m → BitsAre m (MayDo p a b f)) : ms = killL p a b:=by
  refine List.ext_getElem? fun f => ?_
  by_cases hf : f < p.len
  · rw [uN hf,List.getElem?_eq_getElem (by omega)]
    exact congrArg some ((h f _ (List.getElem?_eq_getElem (by omega))).uniq (x9 _))
  · rw [List.getElem?_eq_none (by omega),List.getElem?_eq_none (by rw [yH];omega)]
noncomputable def killA (p : Pg) (a b : Int) (c : Nat) : List Nat:=if c = 0 then killL p a b else []
theorem uO (p : Pg) (a b : Int) : killA p a b 0 = killL p a b:=rfl
theorem uP {c : Nat} (p : Pg) (a b : Int) (h : c ≠ 0) : killA p a b c = []:=if_neg h
structure GaInv (p : Pg) (a b : Int) (l ms : List Nat) (k : Nat) : Prop where
  len : ms.length = p.len
  done : ∀ g m,ms[g]? = some m → g ∈ l.take k → BitsAre m (MayDo p a b g)
  todo : ∀ g m,ms[g]? = some m → g ∉ l.take k → m = 0
theorem GaInv.start (p : Pg) (a b : Int) (l : List Nat) : GaInv p a b l (List.replicate p.len 0) 0 :=
  ⟨by simp,fun g m _ h => by simp at h,fun g m h _ => by
    rw [List.getElem?_replicate] at h
    split at h
    · cases h;rfl
    · cases h⟩
theorem GaInv.step {p : Pg} {a b : Int} {l ms : List Nat} {k f m : Nat} (h : GaInv p a b l ms k) (hf : l[k]? = some f) (hfl : f < p.len) (hm : BitsAre m (MayDo p a b f)) : GaInv p a b l (ms.set f m) (k + 1):=by
  refine ⟨by rw [List.length_set];exact h.len,fun g m' hg hin => ?_,fun g m' hg hin => ?_⟩
  · by_cases e : f = g
    · subst e
      rw [List.getElem?_set_self (by rw [h.len];exact hfl)] at hg
      cases hg;exact hm
    · rw [List.getElem?_set_ne e] at hg
      rw [List.take_add_one,hf] at hin
      simp only [Option.toList_some,List.mem_append,List.mem_singleton] at hin
      rcases hin with h1 | rfl
      · exact h.done g m' hg h1
      · exact absurd rfl e
  · rw [List.take_add_one,hf] at hin
    simp only [Option.toList_some,List.mem_append,List.mem_singleton,not_or] at hin
    rw [List.getElem?_set_ne (fun e => hin.2 e.symm)] at hg
    exact h.todo g m' hg hin.1
def NoInv (a b : Int) (l : List Nd) (m i : Nat) : Prop:=BitsAre m (fun id => ∃ x ∈ l.take i,Tl a b x id)
theorem NoInv.start (a b : Int) (l : List Nd) : NoInv a b l 0 0:=qC.congr fun id _ => by simp
theorem NoInv.step {a b : Int} {l : List Nd} {m i n : Nat} {x : Nd} (h : NoInv a b l m i) (hx : l[i]? = some x) (hn : BitsAre n (Tl a b x)) : NoInv a b l (m ||| n) (i + 1) :=
  (vV h hn).congr fun id _ => by
    rw [List.take_add_one,hx]
    simp only [Option.toList_some,List.mem_append,List.mem_singleton]
    constructor
    · rintro (⟨y,h1,h2⟩ | h1)
      · exact ⟨y,.inl h1,h2⟩
      · exact ⟨x,.inr rfl,h1⟩
    · rintro ⟨y,h1 | rfl,h2⟩
      · exact .inl ⟨y,h1,h2⟩
      · exact .inr h2
theorem NoInv.end_ {a b : Int} {l : List Nd} {m i : Nat} (h : NoInv a b l m i) (hi : l.length ≤ i) : BitsAre m (fun id => ∃ x ∈ l,Tl a b x id):=by
  unfold NoInv at h
  rwa [List.take_of_length_le hi] at h
def CaInv (p : Pg) (a b : Int) (l : List Nd) (cs : List Nat) (m j : Nat) : Prop:=BitsAre m (fun id => (∃ x ∈ l,Tl a b x id) ∨ ∃ y ∈ cs.take j,MayDo p a b y id)
theorem CaInv.start {p : Pg} {a b : Int} {l : List Nd} {m : Nat} (cs : List Nat) (h : BitsAre m (fun id => ∃ x ∈ l,Tl a b x id)) : CaInv p a b l cs m 0:=h.congr fun id _ => by simp
theorem CaInv.step {p : Pg} {a b : Int} {l : List Nd} {cs : List Nat} {m j n y : Nat} (h : CaInv p a b l cs m j) (hy : cs[j]? = some y) (hn : BitsAre n (MayDo p a b y)) : CaInv p a b l cs (m ||| n) (j + 1) :=
  (vV h hn).congr fun id _ => by
    rw [List.take_add_one,hy]
    simp only [Option.toList_some,List.mem_append,List.mem_singleton]
    constructor
    · rintro ((h1 | ⟨z,h1,h2⟩) | h1)
      · exact .inl h1
      · exact .inr ⟨z,.inl h1,h2⟩
      · exact .inr ⟨y,.inr rfl,h1⟩
    · rintro (h1 | ⟨z,h1 | rfl,h2⟩)
      · exact .inl (.inl h1)
      · exact .inl (.inr ⟨z,h1,h2⟩)
      · exact .inr h2
theorem CaInv.end_ {p : Pg} {a b : Int} {cs : List Nat} {m j f cm : Nat} {fn : Fn} (h : CaInv p a b fn.nodes cs m j) (hj : cs.length ≤ j) (hl : p.fns.length = p.len) (h32 : p.len ≤ 32) (hfn : p.fns[f]? = some fn) (hcm : BitsAre cm (Names fn.nodes 7)) (hcs : S.ids cm 32 = cs) (hin : ∀ y,Q.calls p f y → y < p.len) : BitsAre m (MayDo p a b f):=by
  unfold CaInv at h
  rw [List.take_of_length_le hj] at h
  refine h.congr fun id _ => ?_
  rw [uL hl hfn id]
  have key : ∀ y,y ∈ cs ↔ CallIn p f y:=fun y => by
    rw [← hcs,ids_in hcm.1]
    constructor
    · intro h1
      have hy : y < 32:=by
        rcases Nat.lt_or_ge y 32 with h2 | h2
        · exact h2
        · rw [S.bit_high cm y hcm.1 h2] at h1;cases h1
      obtain ⟨nd,h2,h3,h4⟩:=(hcm.2 y hy).1 h1
      have hc : Q.calls p f y:=⟨fn,hfn,nd,h2,h3,h4⟩
      exact ⟨hc,hin y hc⟩
    · rintro ⟨⟨fn',h1,nd,h2,h3,h4⟩,hy⟩
      rw [hfn] at h1;cases h1
      exact (hcm.2 y (by omega)).2 ⟨nd,h2,h3,h4⟩
  constructor
  · rintro (h1 | ⟨y,h1,h2⟩)
    · exact .inl h1
    · exact .inr ⟨y,(key y).1 h1,h2⟩
  · rintro (h1 | ⟨y,h1,h2⟩)
    · exact .inl h1
    · exact .inr ⟨y,(key y).2 h1,h2⟩
theorem YE {p : Pg} {l : List Nat} {k f cm : Nat} {fn : Fn} (h : IsOrd p l) (hk : l[k]? = some f) (hfn : p.fns[f]? = some fn) (hcm : BitsAre cm (Names fn.nodes 7)) {y : Nat} (hy : y ∈ S.ids cm 32) : y ∈ l.take k ∧ y ≠ f:=by
  have hf:=(h k f hk).2.1
  rw [ids_in hcm.1] at hy
  have hy2 : y < 32:=by
    rcases Nat.lt_or_ge y 32 with h2 | h2
    · exact h2
    · rw [S.bit_high cm y hcm.1 h2] at hy;cases hy
  obtain ⟨nd,h2,h3,h4⟩:=(hcm.2 y hy2).1 hy
  have h5:=hf.2 y ⟨fn,hfn,nd,h2,h3,h4⟩
  exact ⟨h5,fun e => hf.1 (e ▸ h5)⟩
theorem ord_all {p : Pg} {l : List Nat} (h : IsOrd p l) (hl : p.fns.length = p.len) (hlen : l.length = p.len) {g : Nat} (hg : g < p.len) : g ∈ l:=by
  refine Classical.byContradiction fun hno => ?_
  have h1 : (g :: l).Nodup:=List.nodup_cons.2 ⟨hno,J5 h⟩
  have h2 : (g :: l) ⊆ List.range p.len:=fun x hx => by
    rcases List.mem_cons.1 hx with rfl | hx
    · exact List.mem_range.2 hg
    · obtain ⟨k,hk⟩:=List.mem_iff_getElem?.1 hx
      exact List.mem_range.2 (by rw [← hl];exact (h k x hk).1)
  have h3:=h1.length_le_of_subset h2
  simp at h3
  omega
end Go.Proofs.YtoekiejipdabmaaDoor
namespace Go.Proofs.YtoekiejipdabmaaDoor
open Go.RowKit
theorem Own.split {w : World} {B n : Nat} {e : TypeId} {v : Value} {bs : List Nat} (h : Own w B e v (bs.map byteV)) (hn : bs.length = n) :
    ∃ (A : Option Addr) (c : Nat),v = .slice A n c ∧ n ≤ c ∧ c ≤ maxLen ∧ Row byteV w w.heap.size A n bs ∧ (∀ ad : Addr,A = some ad → B ≤ ad.block ∧ ad.block < w.heap.size) ∧
      (0 < n → ∃ (g : Nat) (cur : List Value),A = some ⟨g,0,none⟩ ∧ Blk w g e cur ∧ n ≤ cur.length ∧ ∀ (k x : Nat),bs[k]? = some x → cur[k]? = some (byteV x)):=by
  obtain ⟨A,c,rfl,hc,hm,hr⟩:=h.bytesN hn
  refine ⟨A,c,rfl,hc,hm,hr,fun ad e1 => ?_,fun h0 => ?_⟩
  · subst e1
    exact h.block ad.block rfl
  · rcases h.2 with ⟨hv,hz⟩ | ⟨g,cap,cur,hv,_,hg,_,_,_,ht⟩
    · rw [List.length_map] at hz;omega
    · injection hv with e1 e2 e3
      subst e1
      refine ⟨g,cur.toList,rfl,by unfold Blk;simpa using hg,?_,fun k x hx => ?_⟩
      · have:=congrArg List.length ht
        rw [List.length_take,List.length_map] at this
        omega
      · have hk : k < n:=by rw [← hn];exact (List.getElem?_eq_some_iff.1 hx).1
        have h2 : (List.map byteV bs)[k]? = some (byteV x):=by rw [List.getElem?_map,hx];rfl
        rw [← ht,List.getElem?_take,List.length_map,hn,Nat.mul_one,if_pos hk] at h2
        exact h2
theorem yQ {P : Program} {ops : Array Oper} {rest : List Oper} {o : Oper} {a : Act} {w : World} {Q : Exit → Act → World → Prop} (hgd : Region.wanted o (yielded ops a.tmps) = true) (ty : TypeId) (x hi : Operand) (ho : o.op = .slice ty x none (some hi) none)
    (e : TypeId) (hu : P.underlying ty = some (.slice e)) (hsz : (P.info? e).map (·.size) = some 1) (A : Option Addr) (n c : Nat) (hx : a.eval x = .slice A n c) (k : IntKind) (m : Nat) (hl : a.eval hi = .int k (m : Int)) (hmc : m ≤ c)
    (h : wpList P ops Q rest (a.put o.dst (.slice A m c)) w) : wpList P ops Q (o :: rest) a w:=by
  refine BigFrame.wpList_want hgd fun K hK => ?_
  have hel : P.elem ty = e:=by simp [Program.elem,hu]
  have h1:=run_slice_h (P:=P) w ty A n c (by rw [hel];exact hu) k (m : Int) (by omega) (by omega)
  have h2:=run_sliceAt_slice (P:=P) w ty (.slice A n c) none (some (.int k (m : Int))) none (by rw [hel];exact hu)
  rw [h1] at h2
  cases hq : P.info? e with
  | none => simp [hq] at hsz
  | some ie =>
    have hs : ie.size = 1:=by simpa [hq] using hsz
    have hso : (sizeOf e).run P w = .ok 1 w:=by simp [sizeOf,typeInfo,hq,hs]
    have hk:=hK _ _ h
    have e0 : (if c = 0 then A else Option.map (fun x => x.add 0) A) = A:=by
      split
      · rfl
      · cases A <;> simp [Addr.add]
    unfold Oper.wp execOp
    simp only [ho,hx,hl,Option.map_some,Option.map_none,h2,Sem.run_bind,Sem.run_pure,hel,hso,sliced,Result.andThen_ok,Int.toNat_natCast,Nat.zero_mul,Nat.sub_zero,e0]
    exact hk
structure Held (S : Nat → Prop) (w w' : World) : Prop where
  os : w'.os = w.os
  tape : w'.tape = w.tape
  output : w'.output = w.output
  size : w.heap.size ≤ w'.heap.size
  block : ∀ k,S k → w'.heap[k]? = w.heap[k]?
theorem Held.refl (S : Nat → Prop) (w : World) : Held S w w:=⟨rfl,rfl,rfl,Nat.le_refl _,fun _ _ => rfl⟩
theorem Held.trans {S : Nat → Prop} {w w1 w2 : World} (h : Held S w w1) (k : Held S w1 w2) : Held S w w2 :=
  ⟨k.os.trans h.os,k.tape.trans h.tape,k.output.trans h.output,Nat.le_trans h.size k.size,fun i hi => (k.block i hi).trans (h.block i hi)⟩
theorem Held.less {S S' : Nat → Prop} {w w' : World} (h : Held S w w') (hS : ∀ k,S' k → S k) : Held S' w w':=⟨h.os,h.tape,h.output,h.size,fun k hk => h.block k (hS k hk)⟩
theorem Held.below {B : Nat} {w w' : World} (h : Held (· < B) w w') : Below B w w':=⟨h.os,h.tape,h.output,h.size,h.block⟩
theorem Held.of_below {S : Nat → Prop} {B : Nat} {w w' : World} (h : Below B w w') (hS : ∀ k,S k → k < B) : Held S w w':=⟨h.os,h.tape,h.output,h.size,fun k hk => h.block k (hS k hk)⟩
theorem Held.of_grown {S : Nat → Prop} {row : Option Nat} {w w' : World} (h : w.grownBy w' row) (hS : ∀ k,S k → k < w.heap.size ∧ some k ≠ row) : Held S w w' :=
  ⟨h.os,h.tape,h.output,h.size,fun k hk => h.block k (hS k hk).1 (hS k hk).2⟩
theorem Held.cell {S : Nat → Prop} {w w' : World} (h : Held S w w') (p : Addr) (hp : S p.block) : w'.cell? p = w.cell? p:=World.cell?_of_block (w:=w) (h.block p.block hp)
theorem Held.drewN {S : Nat → Prop} {w w' : World} (h : Held S w w') (n : Nat) : Held S w (w'.drewN n):=⟨h.os,h.tape,h.output,h.size,h.block⟩
theorem Row.heldAt {α : Type} {f : α → Value} {w w' : World} {B n : Nat} {A : Option Addr} {l : List α} {S : Nat → Prop} (h : Row f w B A n l) (hb : Held S w w') (hS : ∀ ad,0 < n → A = some ad → S ad.block) : Row f w' B A n l :=
  ⟨h.len,fun hn => by
    obtain ⟨ad,e,hB,hc⟩:=h.cells hn
    exact ⟨ad,e,hB,fun k hlt => (hb.cell _ (by rw [add_block];exact hS ad hn e)).trans (hc k hlt)⟩⟩
theorem Blk.held {S : Nat → Prop} {w w' : World} {g : Nat} {t : TypeId} {cs : List Value} (h : Blk w g t cs) (hb : Held S w w') (hg : S g) : Blk w' g t cs:=by
  unfold Blk;rw [hb.block g hg];exact h
theorem Own.heldAt {S : Nat → Prop} {w w' : World} {B : Nat} {e : TypeId} {v : Value} {xs : List Value} (h : Own w B e v xs) (hb : Held S w w') (hS : ∀ k,v.ownBlock = some k → S k) : Own w' B e v xs:=by
  refine ⟨h.1,?_⟩
  rcases h.2 with h1 | ⟨g,cap,cur,hv,hB,hg,rest⟩
  · exact .inl h1
  · exact .inr ⟨g,cap,cur,hv,hB,by rw [hb.block g (hS g (by rw [hv];rfl))];exact hg,rest⟩
theorem Own.front {w : World} {B : Nat} {e : TypeId} {A : Option Addr} {n c : Nat} {xs : List Value} (h : Own w B e (.slice A n c) xs) {m : Nat} (hm : m ≤ n) : Own w B e (.slice A m c) (xs.take m):=by
  have hl : xs.length = n:=by
    rcases h.2 with ⟨hv,hz⟩ | ⟨g,cap,cur,hv,_,_,_,_,_,_⟩
    · injection hv with _ e2 _;omega
    · injection hv with _ e2 _;omega
  rcases h.2 with ⟨hv,hz⟩ | ⟨g,cap,cur,hv,hB,hg,hn,hcm,hs,ht⟩
  · injection hv with e1 e2 e3
    have h0 : m = 0:=by omega
    subst e1 e3 h0
    rw [List.take_zero]
    exact Own.nil w B e
  · injection hv with e1 e2 e3
    subst e1 e3
    refine ⟨by simp,.inr ⟨g,c,cur,?_,hB,hg,?_,hcm,hs,?_⟩⟩
    · rw [List.length_take,Nat.min_eq_left (by omega)]
    · rw [List.length_take];omega
    · rw [Nat.mul_one,List.length_take,Nat.min_eq_left (by omega)]
      rw [Nat.mul_one] at ht
      rw [← ht,List.take_take,Nat.min_eq_left (by omega)]
theorem Own.blk {w : World} {B : Nat} {e : TypeId} {v : Value} {xs : List Value} (h : Own w B e v xs) (h0 : 0 < xs.length) :
    ∃ (r c : Nat) (cur : List Value),v = .slice (some ⟨r,0,none⟩) xs.length c ∧ Blk w r e cur ∧ cur.length = c ∧ xs.length ≤ c ∧ c ≤ maxLen ∧ cur.take xs.length = xs ∧ B ≤ r:=by
  rcases h.2 with ⟨_,hz⟩ | ⟨g,cap,cur,hv,hB,hg,hn,hcm,hs,ht⟩
  · omega
  · exact ⟨g,cap,cur.toList,hv,by unfold Blk;simpa using hg,by simpa using hs,hn,hcm,by simpa using ht,hB⟩
def Var (w : World) (S : Nat → Prop) (g : Nat) (t e : TypeId) (xs : List Value) : Prop :=
  ∃ v,Blk w g t [v] ∧ Own w 0 e v xs ∧ v.ownBlock ≠ some g ∧ ¬ S g ∧ (∀ k,v.ownBlock = some k → ¬ S k) ∧ ∀ k,S k → k < w.heap.size
theorem Var.kept {w w' : World} {S S' : Nat → Prop} {g : Nat} {t e : TypeId} {xs : List Value} {row : Option Nat} (h : Var w S g t e xs) (hg : w.grownBy w' row) (hr : ∀ k,row = some k → S k) (hS : ∀ k,S' k → S k ∨ (w.heap.size ≤ k ∧ k < w'.heap.size)) : Var w' S' g t e xs:=by
  obtain ⟨v,h1,h2,h3,h4,h5,h6⟩:=h
  have hgl:=h1.lt
  refine ⟨v,h1.grown hg (fun e1 => h4 (hr g e1.symm)),h2.far hg ?_,h3,fun hs => ?_,fun k hk hs => ?_,fun k hk => ?_⟩
  · cases hv : v.ownBlock with
    | none => exact .inl rfl
    | some k => exact .inr fun e1 => h5 k hv (hr k e1.symm)
  · rcases hS g hs with h | h
    · exact h4 h
    · omega
  · have:=(h2.block k hk).2
    rcases hS k hs with h | h
    · exact h5 k hk h
    · omega
  · have:=hg.size
    rcases hS k hk with h | h
    · have:=h6 k h;omega
    · exact h.2
theorem Var.below {w w' : World} {S S' : Nat → Prop} {g : Nat} {t e : TypeId} {xs : List Value} (h : Var w S g t e xs) (hb : Below w.heap.size w w') (hS : ∀ k,S' k → S k ∨ (w.heap.size ≤ k ∧ k < w'.heap.size)) : Var w' S' g t e xs :=
  h.kept (q8 hb none) (fun k hk => by cases hk) hS
theorem Var.less {w : World} {S S' : Nat → Prop} {g : Nat} {t e : TypeId} {xs : List Value} (h : Var w S g t e xs) (hS : ∀ k,S' k → S k) : Var w S' g t e xs:=by
  obtain ⟨v,h1,h2,h3,h4,h5,h6⟩:=h
  exact ⟨v,h1,h2,h3,fun h => h4 (hS _ h),fun k hk h => h5 k hk (hS _ h),fun k h => h6 k (hS _ h)⟩
theorem Var.drewN {w : World} {S : Nat → Prop} {g : Nat} {t e : TypeId} {xs : List Value} (h : Var w S g t e xs) (n : Nat) : Var (w.drewN n) S g t e xs:=h.below (below_drewN (Below.refl _ _) n) fun _ h => .inl h
theorem Var.not {w : World} {S : Nat → Prop} {g : Nat} {t e : TypeId} {xs : List Value} (h : Var w S g t e xs) : ¬ S g:=by
  obtain ⟨v,_,_,_,h4,_⟩:=h
  exact h4
theorem Var.lt {w : World} {S : Nat → Prop} {g : Nat} {t e : TypeId} {xs : List Value} (h : Var w S g t e xs) : ∀ k,S k → k < w.heap.size:=by
  obtain ⟨v,_,_,_,_,_,h6⟩:=h
  exact h6
theorem Var.opens {α : Type} {f : α → Value} {w : World} {S : Nat → Prop} {g : Nat} {t e : TypeId} {l : List α} {n : Nat} (h : Var w S g t e (l.map f)) (hn : l.length = n) :
    ∃ A c,w.cell? ⟨g,0,none⟩ = some (.slice A n c) ∧ Blk w g t [.slice A n c] ∧ n ≤ c ∧ c ≤ maxLen ∧ Row f w w.heap.size A n l ∧ Own w 0 e (.slice A n c) (l.map f) ∧
      (0 < n → ∃ r cur,A = some ⟨r,0,none⟩ ∧ Blk w r e cur ∧ cur.length = c ∧ cur.take n = l.map f ∧ r ≠ g ∧ ¬ S r):=by
  obtain ⟨v,h1,h2,h3,h4,h5,h6⟩:=h
  obtain ⟨A,c,rfl,hc,hm,hr⟩:=h2.readsN hn
  refine ⟨A,c,h1.cell 0,h1,hc,hm,hr,h2,fun h0 => ?_⟩
  obtain ⟨r,c2,cur,hv,hb,hcl,_,_,ht,_⟩:=h2.blk (by rw [List.length_map];omega)
  injection hv with e1 e2 e3
  subst e1 e3
  rw [List.length_map,hn] at ht
  exact ⟨r,cur,rfl,hb,hcl,ht,fun e1 => h3 (by rw [e1];rfl),h5 r rfl⟩
def argsL (l : List Nd) (kind : Int) : List Int:=(l.filter fun x => x.kind == kind).map (·.arg)
theorem args_snoc {l : List Nd} {i : Nat} {x : Nd} (kind : Int) (h : l[i]? = some x) : argsL (l.take (i + 1)) kind = argsL (l.take i) kind ++ (if x.kind = kind then [x.arg] else []):=by
  unfold argsL
  rw [List.take_add_one,h,Option.toList_some,List.filter_append,List.map_append]
  by_cases hk : x.kind = kind
  · rw [if_pos hk];simp [hk]
  · rw [if_neg hk];simp [hk]
theorem Q6 (l : List Nd) (kind : Int) : (argsL l kind).length ≤ l.length:=by
  unfold argsL
  rw [List.length_map]
  exact List.length_filter_le _ _
theorem Q5 {l : List Nd} {kind y : Int} : y ∈ argsL l kind ↔ ∃ nd ∈ l,nd.kind = kind ∧ nd.arg = y:=by
  unfold argsL
  rw [List.mem_map]
  constructor
  · rintro ⟨nd,h,rfl⟩
    obtain ⟨h1,h2⟩:=List.mem_filter.1 h
    exact ⟨nd,h1,by simpa using h2,rfl⟩
  · rintro ⟨nd,h1,h2,h3⟩
    exact ⟨nd,List.mem_filter.2 ⟨h1,by simpa using h2⟩,h3⟩
theorem XD {l : List Nd} {kind : Int} (id : Nat) : (id : Int) ∈ argsL l kind ↔ Names l kind id:=Q5
set_option maxRecDepth 100000 in
set_option maxHeartbeats 1600000 in
theorem LQ (B : Nat) (A : Option Addr) (n c : Nat) (l : List Nd) (kind : Int) (w : World) (hr : Nodes w B A n l) (hn : n ≤ 1000000) (hB : B ≤ w.heap.size) :
    Calls Tryd.prog 74 #[.slice A n c,.int .i64 kind] w fun e w' => ∃ v,e = .returned v ∧ Own w' w.heap.size 3 v ((argsL l kind).map intV) ∧ Below w.heap.size w w':=by
  have HR:=kp hr
  have HLn:=kp hr.1.len
  clear hr
  go_enter Tryd.func74,Tryd.ntmps74
  go_wp2
  go_loopw [5,10] (fun v5 v10 wr => ∃ i : Nat,i ≤ n ∧ v10 = .int .i64 i ∧ Own wr w.heap.size 3 v5 ((argsL (l.take i) kind).map intV) ∧ Below w.heap.size w wr) (fun _ v10 _ => n - (intOf v10).toNat)
  case atStart => exact ⟨0,by omega,rfl,Own.nil _ _ _,Below.refl _ _⟩
  case round =>
    obtain ⟨i,hi,rfl,hown,hbw⟩:=hrel
    have HOwn:=kp hown;have HBw:=kp hbw
    have hsz:=hbw.size
    have hal:=Q6 (l.take i) kind
    rw [List.length_take,HLn.out] at hal
    by_cases hlt : i < n
    · obtain ⟨ad,x,rfl,_,hx,_,hn0,hn1,hn2,hn3⟩:=(HR.out.keep (w':=wr) fun p hp => hbw.cell (by omega)).get hlt
      have HS:=kp (args_snoc kind hx)
      clear hown hbw hx
      by_cases hk : x.kind = kind
      · have hkb : (x.kind == kind) = true:=by simpa using hk
        have HE : Kept (argsL (l.take (i + 1)) kind = argsL (l.take i) kind ++ [x.arg]):=kp (by rw [HS.out,if_pos hk])
        clear hk HS
        go_wp2_with (first
          | ((with_reducible show Sl 7);go_must (refine j7 rfl 66 rfl (ndC ⟨0,0,0,0⟩) jU ?_);intro g5 w6 hg5 hk6 hw6;have HG5:=kp hg5;have HK6:=kp hk6;have HW6:=kp hw6;clear hg5 hk6 hw6)
          | ((with_reducible show Sn);go_must (refine j5 rfl 66 (.tmp 7) (.tmp 13) rfl g5 (ndC x) rfl rfl _ _ HK6.out jD rfl (jK x) ?_);intro w7 hk7 hg7 hs7
             obtain ⟨hx0,hx1,hx2,hx3⟩:=jB hk7
             have HBq7:=kp (HW6.out.grown hg7 HW6.out.size (fun k hk => by cases hk;exact HG5.out))
             have HO7:=kp (HOwn.out.below HBq7.out (Nat.le_refl _))
             have HB7:=kp (HBw.out.trans (HBq7.out.mono hsz))
             have hsz7:=HB7.out.size
             clear hk7 hg7 hs7 hn0 hn1 hn2 hn3)
          | (at_builtin;go_must (refine jO rfl (.tmp 18) (.tmp 21) 76 rfl w.heap.size 3 _ _ Tryd.underlying76 q6 rfl _ _ _ _ rfl HO7.out _ 1 rfl rfl rfl (by simp [maxLen];omega) (by simp;omega) hsz7 ?_);intro v1 w8 hown1 hg1;have HO8:=kp hown1;clear hown1;have HG8:=kp hg1;clear hg1))
        go_roundw
        case rel => exact ⟨i + 1,by omega,by go_num,by rw [HE.out,List.map_append];exact HO8.out,HG8.out.below HB7.out HO7.out hsz7⟩
        case measure => simp [intOf];omega
      · have hkb : (x.kind == kind) = false:=by simpa using hk
        have HE : Kept (argsL (l.take (i + 1)) kind = argsL (l.take i) kind):=kp (by rw [HS.out,if_neg hk,List.append_nil])
        clear hk HS
        go_wp2_with (first
          | ((with_reducible show Sl 7);go_must (refine j7 rfl 66 rfl (ndC ⟨0,0,0,0⟩) jU ?_);intro g5 w6 hg5 hk6 hw6;have HG5:=kp hg5;have HK6:=kp hk6;have HW6:=kp hw6;clear hg5 hk6 hw6)
          | ((with_reducible show Sn);go_must (refine j5 rfl 66 (.tmp 7) (.tmp 13) rfl g5 (ndC x) rfl rfl _ _ HK6.out jD rfl (jK x) ?_);intro w7 hk7 hg7 hs7
             obtain ⟨hx0,hx1,hx2,hx3⟩:=jB hk7
             have HBq7:=kp (HW6.out.grown hg7 HW6.out.size (fun k hk => by cases hk;exact HG5.out))
             have HO7:=kp (HOwn.out.below HBq7.out (Nat.le_refl _))
             have HB7:=kp (HBw.out.trans (HBq7.out.mono hsz))
             clear hk7 hg7 hs7 hn0 hn1 hn2 hn3))
        go_roundw
        case rel => exact ⟨i + 1,by omega,by go_num,by rw [HE.out];exact HO7.out,HB7.out⟩
        case measure => simp [intOf];omega
    · have HE : Kept (argsL (l.take i) kind = argsL l kind):=kp (by rw [List.take_of_length_le (by rw [HLn.out];omega)])
      have hge : n ≤ i:=by omega
      clear hown hbw hlt
      go_wp2
      go_ret
      exact ⟨_,rfl,by rw [← HE.out];exact HOwn.out,HBw.out⟩
theorem xC (x : Int) : BitsAre (S.one x) (fun id => (id : Int) = x):=by
  refine ⟨S.one_lt x,fun id hid => ?_⟩
  by_cases h : 0 ≤ x ∧ x ≤ 31
  · obtain ⟨k,rfl⟩ : ∃ k : Nat,x = (k : Int):=⟨x.toNat,by omega⟩
    rw [S.one_nat k (by omega),Nat.testBit_two_pow,decide_eq_true_eq]
    omega
  · rw [S.one_out x (by omega),Nat.zero_testBit]
    constructor
    · intro h2;cases h2
    · intro h2;omega
set_option maxRecDepth 100000 in
set_option maxHeartbeats 800000 in
theorem LP (B : Nat) (A : Option Addr) (n c : Nat) (l : List Int) (w : World) (hr : Row intV w B A n l) (hl : ∀ x ∈ l,I64 x) (hn : n ≤ 1000000) :
    Calls Tryd.prog 73 #[.slice A n c] w fun e w' => ∃ m : Nat,e = .returned (.int .u32 (m : Int)) ∧ BitsAre m (fun id => (id : Int) ∈ l) ∧ w = w':=by
  have HR:=kp hr;have HL:=kp hl
  have HLn:=kp hr.len
  clear hr hl
  go_enter Tryd.func73,Tryd.ntmps73
  go_wp2
  go_loop [3,8] (fun v3 v8 => ∃ i q : Nat,i ≤ n ∧ v8 = .int .i64 i ∧ v3 = .int .u32 (q : Int) ∧ BitsAre q (fun id => (id : Int) ∈ l.take i)) (fun _ v8 => n - (intOf v8).toNat)
  case atStart => exact ⟨0,0,by omega,rfl,rfl,qC.congr fun id _ => by simp⟩
  case round =>
    obtain ⟨i,q,hi,rfl,rfl,hq⟩:=hrel
    have HQ:=kp hq
    have hqlt : q < 4294967296:=hq.1
    clear hq
    by_cases hlt : i < n
    · obtain ⟨ad,x,rfl,_,hx,hcx⟩:=HR.out.get hlt
      rw [y4] at hcx
      have HX:=kp hx
      have HX64:=kp (HL.out x (List.mem_of_getElem? hx))
      obtain ⟨o,ho⟩ : ∃ o,S.one x = o:=⟨_,rfl⟩
      have holt : o < 4294967296:=by rw [← ho];exact S.one_lt x
      have HBt : Kept (bits .or .u32 (q : Int) (o : Int) = ((q ||| o : Nat) : Int)):=kp <| u32_or_nat q o hqlt holt
      have HO:=kp ho
      have HN : Kept (BitsAre (q ||| o) (fun id => (id : Int) ∈ l.take (i + 1))):=kp <| by
        rw [← ho]
        refine (vV HQ.out (xC x)).congr fun id _ => ?_
        rw [List.take_add_one,hx,Option.toList_some,List.mem_append,List.mem_singleton]
      clear ho hx
      go_wp2_with (go_at_call 35;go_must (refine (lS x HX64.out o HO.out _).mono ?_);rintro e' w' ⟨rfl,rfl⟩)
      go_round
      case rel => exact ⟨i + 1,q ||| o,by omega,by go_num,by rw [HBt.out],HN.out⟩
      case measure => simp [intOf];omega
    · have HE : Kept (l.take i = l):=kp (List.take_of_length_le (by rw [HLn.out];omega))
      have hge : n ≤ i:=by omega
      clear hlt
      go_wp2
      go_ret
      exact ⟨q,rfl,by rw [← HE.out];exact HQ.out,rfl⟩
theorem one_tl {a b : Int} {x : Nd} (h : x.kind = a ∨ x.kind = b) : BitsAre (S.one x.arg) (Tl a b x) :=
  (xC x.arg).congr fun id _ => by
    unfold Tl
    constructor
    · intro e;exact ⟨h,e.symm⟩
    · intro e;exact e.2.symm
theorem none_tl {a b : Int} {x : Nd} (h : ¬ (x.kind = a ∨ x.kind = b)) : BitsAre 0 (Tl a b x):=qC.congr fun id _ => by simp [Tl,h]
set_option maxRecDepth 100000 in
set_option maxHeartbeats 800000 in
theorem QZ (x : Nd) (hx : x.Ok) (w : World) :
    Calls Tryd.prog 37 #[ndA x] w fun e w' => ∃ m : Nat,e = .returned (.int .u32 (m : Int)) ∧ BitsAre m (Tl 5 5 x) ∧ Below w.heap.size w w':=by
  rw [show ndA x = .agg (ndC x).toArray from rfl]
  by_cases h : x.kind = 5
  · have hk : (x.kind == 5) = true:=by simpa using h
    have HB:=kp (one_tl (a:=5) (b:=5) (x:=x) (.inl h))
    clear h
    go_enter Tryd.func37,Tryd.ntmps37
    go_wp2_with (first
      | ((with_reducible refine j4 rfl 66 (.tmp 0) rfl (ndC x) rfl ?_);intro g1 w1 hg1 hk1 hw1;obtain ⟨hc0,hc1,hc2,hc3⟩:=jB hk1;have HW1:=kp hw1;clear hg1 hk1 hw1)
      | (go_at_call 35;go_must (refine (lS x.arg hx.arg _ rfl _).mono ?_);rintro e w2 ⟨rfl,rfl⟩))
    go_ret
    exact ⟨_,rfl,HB.out,HW1.out⟩
  · have hk : (x.kind == 5) = false:=by simpa using h
    have HB:=kp (none_tl (a:=5) (b:=5) (x:=x) (by omega))
    clear h
    go_enter Tryd.func37,Tryd.ntmps37
    go_wp2_with ((with_reducible refine j4 rfl 66 (.tmp 0) rfl (ndC x) rfl ?_);intro g1 w1 hg1 hk1 hw1;obtain ⟨hc0,hc1,hc2,hc3⟩:=jB hk1;have HW1:=kp hw1;clear hg1 hk1 hw1)
    go_ret
    exact ⟨0,rfl,HB.out,HW1.out⟩
def Teller (F : Nat) (a b : Int) : Prop:=F = 37 ∧ a = 5 ∧ b = 5
theorem YN {F : Nat} {a b : Int} (hF : Teller F a b) (x : Nd) (hx : x.Ok) (n : Nat) (hn : BitsAre n (Tl a b x)) (w : World) :
    Calls Tryd.prog F #[ndA x] w fun e w' => e = .returned (.int .u32 (n : Int)) ∧ Below w.heap.size w w':=by
  obtain ⟨rfl,rfl,rfl⟩:=hF
  refine (QZ x hx w).mono ?_
  rintro e w' ⟨m,rfl,hm,hb⟩
  rw [hm.uniq hn]
  exact ⟨rfl,hb⟩
def HOk (p : Pg) (l : List Nat) (h : List Int) : Prop:=h.Nodup ∧ (∀ x ∈ h,∃ g : Nat,x = (g : Int) ∧ g < p.len ∧ Free p l g) ∧ ∀ g : Nat,g < p.len → Free p l g → (g : Int) ∈ h
def HAt (p : Pg) (l : List Nat) (f : Nat) (h : List Int) (k : Nat) : Prop:=h.Nodup ∧ (∀ x ∈ h,∃ g : Nat,x = (g : Int) ∧ g < p.len ∧ Free p (l ++ [f]) g ∧ (g < k ∨ Free p l g)) ∧ ∀ g : Nat,g < p.len → Free p (l ++ [f]) g → (g < k ∨ Free p l g) → (g : Int) ∈ h
def MsAt (p : Pg) (l : List Nat) (f : Nat) (ms : List Nat) (k : Nat) : Prop:=ms.length = p.len ∧ ∀ g m : Nat,ms[g]? = some m → BitsAre m (fun y => Q.calls p g y ∧ y ∉ if g < k then l ++ [f] else l)
def MsOk (p : Pg) (l : List Nat) (ms : List Nat) : Prop:=ms.length = p.len ∧ ∀ g m : Nat,ms[g]? = some m → BitsAre m (fun y => Q.calls p g y ∧ y ∉ l)
def HFirst (p : Pg) (h : List Int) (i : Nat) : Prop:=h.Nodup ∧ (∀ x ∈ h,∃ g : Nat,x = (g : Int) ∧ g < p.len ∧ Free p [] g ∧ g < i) ∧ ∀ g : Nat,g < p.len → Free p [] g → g < i → (g : Int) ∈ h
theorem JH {h : List Int} {n : Nat} (hn : h.Nodup) (hm : ∀ x ∈ h,∃ g : Nat,x = (g : Int) ∧ g < n) : h.length ≤ n:=by
  have h1:=hn.length_le_of_subset (l₂:=(List.range n).map fun g : Nat => (g : Int)) (fun x hx => by
    obtain ⟨g,rfl,hg⟩:=hm x hx
    exact List.mem_map.2 ⟨g,List.mem_range.2 hg,rfl⟩)
  simpa using h1
theorem HOk.len {p : Pg} {l : List Nat} {h : List Int} (k : HOk p l h) : h.length ≤ p.len:=JH k.1 fun x hx => by
  obtain ⟨g,e,hg,_⟩:=k.2.1 x hx
  exact ⟨g,e,hg⟩
theorem HAt.len {p : Pg} {l : List Nat} {f : Nat} {h : List Int} {i : Nat} (k : HAt p l f h i) : h.length ≤ p.len:=JH k.1 fun x hx => by
  obtain ⟨g,e,hg,_⟩:=k.2.1 x hx
  exact ⟨g,e,hg⟩
theorem HFirst.len {p : Pg} {h : List Int} {i : Nat} (k : HFirst p h i) : h.length ≤ p.len:=JH k.1 fun x hx => by
  obtain ⟨g,e,hg,_⟩:=k.2.1 x hx
  exact ⟨g,e,hg⟩
theorem XK {p : Pg} {l : List Nat} (hlen : p.fns.length = p.len) (h : IsOrd p l) : l.length ≤ p.len:=by
  have h1:=(J5 h).length_le_of_subset (l₂:=List.range p.len) (fun x hx => by
    obtain ⟨k,hk⟩:=List.mem_iff_getElem?.1 hx
    have:=(h k x hk).1
    exact List.mem_range.2 (by omega))
  simpa using h1
theorem free_nil {p : Pg} {g : Nat} : Free p [] g ↔ ∀ y,¬ Q.calls p g y:=by
  unfold Free
  simp
theorem XU {m : Nat} {P : Nat → Prop} (h : BitsAre m P) (hP : ∀ y,P y → y < 32) : m = 0 ↔ ∀ y,¬ P y:=by
  constructor
  · rintro rfl y hy
    have:=(h.2 y (hP y hy)).2 hy
    rw [Nat.zero_testBit] at this;cases this
  · intro hno
    exact h.uniq (qC.congr fun y _ => ⟨False.elim,fun hy => hno y hy⟩)
theorem HFirst.start (p : Pg) : HFirst p [] 0:=⟨List.nodup_nil,fun x hx => (by cases hx),fun g _ _ hg => by omega⟩
theorem HFirst.push {p : Pg} {h h' : List Int} {i : Nat} (k : HFirst p h i) (hp : h'.Perm ((i : Int) :: h)) (hi : i < p.len) (hf : Free p [] i) : HFirst p h' (i + 1):=by
  refine ⟨hp.symm.nodup (List.nodup_cons.2 ⟨fun hm => ?_,k.1⟩),fun x hx => ?_,fun g hg hfg hgi => hp.mem_iff.2 (List.mem_cons.2 ?_)⟩
  · obtain ⟨g,e,_,_,hlt⟩:=k.2.1 _ hm
    omega
  · rcases List.mem_cons.1 (hp.mem_iff.1 hx) with rfl | hx
    · exact ⟨i,rfl,hi,hf,by omega⟩
    · obtain ⟨g,e,hg,hf,hlt⟩:=k.2.1 x hx
      exact ⟨g,e,hg,hf,by omega⟩
  · by_cases e : g = i
    · subst e;exact .inl rfl
    · exact .inr (k.2.2 g hg hfg (by omega))
theorem HFirst.skip {p : Pg} {h : List Int} {i : Nat} (k : HFirst p h i) (hn : ¬ Free p [] i) : HFirst p h (i + 1):=by
  refine ⟨k.1,fun x hx => ?_,fun g hg hf hgi => ?_⟩
  · obtain ⟨g,e,hg,hf,hlt⟩:=k.2.1 x hx
    exact ⟨g,e,hg,hf,by omega⟩
  · by_cases e : g = i
    · subst e;exact absurd hf hn
    · exact k.2.2 g hg hf (by omega)
theorem HFirst.done {p : Pg} {h : List Int} (k : HFirst p h p.len) : HOk p [] h:=⟨k.1,fun x hx => by
    obtain ⟨g,e,hg,hf,_⟩:=k.2.1 x hx
    exact ⟨g,e,hg,hf⟩,fun g hg hf => k.2.2 g hg hf hg⟩
theorem YP {p : Pg} {l : List Nat} {f g : Nat} (h : Free p l g) (hne : g ≠ f) : Free p (l ++ [f]) g :=
  ⟨fun hm => by
    rcases List.mem_append.1 hm with h1 | h1
    · exact h.1 h1
    · exact hne (List.mem_singleton.1 h1),fun y hy => List.mem_append_left _ (h.2 y hy)⟩
theorem HAt.start {p : Pg} {l : List Nat} {f : Nat} {h h' : List Int} (k : HOk p l h) (hp : h.Perm ((f : Int) :: h')) : HAt p l f h' 0:=by
  have hnd:=List.nodup_cons.1 (hp.nodup k.1)
  refine ⟨hnd.2,fun x hx => ?_,fun g hg hf h0 => ?_⟩
  · obtain ⟨g,e,hg,hf⟩:=k.2.1 x (hp.mem_iff.2 (List.mem_cons_of_mem _ hx))
    exact ⟨g,e,hg,YP hf (fun e2 => hnd.1 (by rw [← e2,← e];exact hx)),.inr hf⟩
  · have h1:=h0.resolve_left (by omega)
    have h2:=hp.mem_iff.1 (k.2.2 g hg h1)
    rcases List.mem_cons.1 h2 with h2 | h2
    · exfalso
      have : g = f:=by omega
      subst this
      exact hf.1 (List.mem_append_right _ (List.mem_singleton.2 rfl))
    · exact h2
theorem HAt.push {p : Pg} {l : List Nat} {f : Nat} {h h' : List Int} {i : Nat} (k : HAt p l f h i) (hp : h'.Perm ((i : Int) :: h)) (hi : i < p.len) (hf : Free p (l ++ [f]) i) (hn : ¬ Free p l i) : HAt p l f h' (i + 1):=by
  refine ⟨hp.symm.nodup (List.nodup_cons.2 ⟨fun hm => ?_,k.1⟩),fun x hx => ?_,fun g hg hfg hgi => hp.mem_iff.2 (List.mem_cons.2 ?_)⟩
  · obtain ⟨g,e,_,_,hlt⟩:=k.2.1 _ hm
    have : g = i:=by omega
    subst this
    rcases hlt with hlt | hlt
    · omega
    · exact hn hlt
  · rcases List.mem_cons.1 (hp.mem_iff.1 hx) with rfl | hx
    · exact ⟨i,rfl,hi,hf,.inl (by omega)⟩
    · obtain ⟨g,e,hg,hf,hlt⟩:=k.2.1 x hx
      exact ⟨g,e,hg,hf,hlt.imp_left fun h => by omega⟩
  · by_cases e : g = i
    · subst e;exact .inl rfl
    · exact .inr (k.2.2 g hg hfg (hgi.imp_left fun h => by omega))
theorem HAt.skip {p : Pg} {l : List Nat} {f : Nat} {h : List Int} {i : Nat} (k : HAt p l f h i) (hn : ¬ (Free p (l ++ [f]) i ∧ ¬ Free p l i)) : HAt p l f h (i + 1):=by
  refine ⟨k.1,fun x hx => ?_,fun g hg hfg hgi => ?_⟩
  · obtain ⟨g,e,hg,hf,hlt⟩:=k.2.1 x hx
    exact ⟨g,e,hg,hf,hlt.imp_left fun h => by omega⟩
  · by_cases e : g = i
    · subst e
      refine k.2.2 g hg hfg (.inr (Classical.byContradiction fun h2 => hn ⟨hfg,h2⟩))
    · exact k.2.2 g hg hfg (hgi.imp_left fun h => by omega)
theorem HAt.done {p : Pg} {l : List Nat} {f : Nat} {h : List Int} (k : HAt p l f h p.len) : HOk p (l ++ [f]) h:=⟨k.1,fun x hx => by
    obtain ⟨g,e,hg,hf,_⟩:=k.2.1 x hx
    exact ⟨g,e,hg,hf⟩,fun g hg hf => k.2.2 g hg hf (.inl hg)⟩
theorem one_left {p : Pg} {l : List Nat} {f k m : Nat} (hfine : Fine p) (hlen : p.fns.length = p.len) (hord : IsOrd p (l ++ [f])) (hm : BitsAre m (fun y => Q.calls p k y ∧ y ∉ l)) : m = S.one (f : Int) ↔ Free p (l ++ [f]) k ∧ ¬ Free p l k:=by
  have hf16 : p.fns.length ≤ 16:=hfine.counts.f.2
  have hlast:=hord l.length f (by simp)
  rw [List.take_left' rfl] at hlast
  have hff : Free p l f:=hlast.2.1
  have hf32 : f < 32:=by have:=hlast.1;omega
  have hcl : ∀ y,Q.calls p k y → y < 32:=fun y hy => by have:=x6 hfine hlen hy;omega
  constructor
  · rintro rfl
    have hb : ∀ y,y < 32 → (Q.calls p k y ∧ y ∉ l ↔ y = f):=fun y hy => (hm.2 y hy).symm.trans (((xC (f : Int)).2 y hy).trans (by omega))
    have hkf:=(hb f hf32).2 rfl
    refine ⟨⟨fun hk => ?_,fun y hy => ?_⟩,fun h => hkf.2 (h.2 f hkf.1)⟩
    · rcases List.mem_append.1 hk with hk | hk
      · obtain ⟨j,hj⟩:=List.mem_iff_getElem?.1 hk
        have hjl:=(List.getElem?_eq_some_iff.1 hj).1
        have h1:=hord j k (by rw [List.getElem?_append_left hjl];exact hj)
        have h2:=h1.2.1.2 f hkf.1
        rw [List.take_append_of_le_length (by omega)] at h2
        exact hkf.2 (List.mem_of_mem_take h2)
      · have : k = f:=List.mem_singleton.1 hk
        subst this
        exact hkf.2 (hff.2 k hkf.1)
    · by_cases hyl : y ∈ l
      · exact List.mem_append_left _ hyl
      · exact List.mem_append_right _ (List.mem_singleton.2 ((hb y (hcl y hy)).1 ⟨hy,hyl⟩))
  · rintro ⟨h1,h2⟩
    have hkl : k ∉ l:=fun h => h1.1 (List.mem_append_left _ h)
    have hy : ∃ y,Q.calls p k y ∧ y ∉ l:=Classical.byContradiction fun hno => h2 ⟨hkl,fun y hy => Classical.byContradiction fun hyl => hno ⟨y,hy,hyl⟩⟩
    obtain ⟨y,hy,hyl⟩:=hy
    have only : ∀ z,Q.calls p k z → z ∉ l → z = f:=fun z hz hzl => by
      rcases List.mem_append.1 (h1.2 z hz) with h | h
      · exact absurd h hzl
      · exact List.mem_singleton.1 h
    have hyf:=only y hy hyl
    subst hyf
    refine hm.uniq ((xC (y : Int)).congr fun z _ => ?_)
    constructor
    · intro e
      have : z = y:=by omega
      subst this
      exact ⟨hy,hyl⟩
    · rintro ⟨h3,h4⟩
      rw [only z h3 h4]
theorem MsOk.start {p : Pg} {ms : List Nat} (hl : ms.length = p.len) (hlen : p.fns.length = p.len) (h : ∀ (f : Nat) (fn : Fn) (m : Nat),p.fns[f]? = some fn → ms[f]? = some m → BitsAre m (Names fn.nodes 7)) : MsOk p [] ms:=by
  refine ⟨hl,fun g m hm => ?_⟩
  have hg : g < p.fns.length:=by have:=(List.getElem?_eq_some_iff.1 hm).1;omega
  have hfn : p.fns[g]? = some p.fns[g]:=List.getElem?_eq_getElem hg
  refine (h g _ m hfn hm).congr fun y _ => ?_
  constructor
  · rintro h1
    exact ⟨⟨_,hfn,h1⟩,by simp⟩
  · rintro ⟨⟨f',h1,h2⟩,_⟩
    rw [hfn] at h1;cases h1
    exact h2
theorem MsAt.start {p : Pg} {l : List Nat} {ms : List Nat} (f : Nat) (h : MsOk p l ms) : MsAt p l f ms 0:=⟨h.1,fun g m hm => (h.2 g m hm).congr fun y _ => by rw [if_neg (by omega)]⟩
theorem MsAt.done {p : Pg} {l : List Nat} {f : Nat} {ms : List Nat} (h : MsAt p l f ms p.len) : MsOk p (l ++ [f]) ms:=⟨h.1,fun g m hm => (h.2 g m hm).congr fun y _ => by rw [if_pos (by have:=(List.getElem?_eq_some_iff.1 hm).1;rw [h.1] at this;exact this)]⟩
theorem JR {m : Nat} {P : Nat → Prop} (h : BitsAre m P) (x : Int) : BitsAre (m &&& (4294967295 - S.one x)) (fun id => P id ∧ (id : Int) ≠ x):=by
  have ho:=S.one_lt x
  refine ⟨Nat.lt_of_le_of_lt Nat.and_le_left h.1,fun id hid => ?_⟩
  rw [Nat.testBit_and,Bool.and_eq_true,h.2 id hid]
  have e : 4294967295 - S.one x = 2 ^ 32 - (S.one x + 1):=by omega
  rw [e,Nat.testBit_two_pow_sub_succ ho,Bool.and_eq_true,decide_eq_true_eq,Bool.not_eq_true']
  have h1:=(xC x).2 id hid
  constructor
  · rintro ⟨h2,_,h3⟩
    exact ⟨h2,fun e2 => by rw [h1.2 e2] at h3;cases h3⟩
  · rintro ⟨h2,h3⟩
    refine ⟨h2,hid,?_⟩
    cases hb : (S.one x).testBit id
    · rfl
    · exact absurd (h1.1 hb) h3
theorem MsAt.step {p : Pg} {l : List Nat} {f k m : Nat} {ms : List Nat} (h : MsAt p l f ms k) (hk : ms[k]? = some m) : MsAt p l f (ms.set k (m &&& (4294967295 - S.one (f : Int)))) (k + 1):=by
  refine ⟨by rw [List.length_set];exact h.1,fun g m' hm' => ?_⟩
  rw [List.getElem?_set] at hm'
  by_cases e : k = g
  · subst e
    have hkl:=(List.getElem?_eq_some_iff.1 hk).1
    rw [if_pos rfl,if_pos hkl] at hm'
    cases hm'
    have h1:=h.2 k m hk
    refine (JR h1 (f : Int)).congr fun y _ => ?_
    rw [if_neg (show ¬ k < k by omega),if_pos (show k < k + 1 by omega),List.mem_append,List.mem_singleton]
    constructor
    · rintro ⟨⟨h2,h3⟩,h4⟩
      exact ⟨h2,fun h5 => h5.elim h3 fun e => h4 (by rw [e])⟩
    · rintro ⟨h2,h3⟩
      exact ⟨⟨h2,fun h4 => h3 (.inl h4)⟩,fun e => h3 (.inr (by omega))⟩
  · rw [if_neg e] at hm'
    refine (h.2 g m' hm').congr fun y _ => ?_
    by_cases h2 : g < k
    · rw [if_pos h2,if_pos (show g < k + 1 by omega)]
    · rw [if_neg h2,if_neg (show ¬ g < k + 1 by omega)]
end Go.Proofs.YtoekiejipdabmaaDoor
namespace Go.Proofs.YtoekiejipdabmaaDoor
namespace H
def at_ (l : List Int) (i : Nat) : Int:=l.getD i 0
def swap (l : List Int) (i j : Nat) : List Int:=(l.set i (at_ l j)).set j (at_ l i)
theorem swap_len (l : List Int) (i j : Nat) : (swap l i j).length = l.length:=by simp [swap]
theorem at_some {l : List Int} {i : Nat} (h : i < l.length) : l[i]? = some (at_ l i):=by
  unfold at_
  rw [List.getD_eq_getElem?_getD,List.getElem?_eq_getElem h];rfl
theorem at_of {l : List Int} {i : Nat} {x : Int} (h : l[i]? = some x) : at_ l i = x:=by
  unfold at_
  rw [List.getD_eq_getElem?_getD,h];rfl
theorem at_swap {l : List Int} {i j : Nat} (hi : i < l.length) (hj : j < l.length) (k : Nat) : at_ (swap l i j) k = if k = j then at_ l i else if k = i then at_ l j else at_ l k:=by
  unfold swap
  by_cases hk : k < l.length
  · have h1 : k < ((l.set i (at_ l j)).set j (at_ l i)).length:=by simpa using hk
    have h2:=at_some h1
    rw [List.getElem?_set,List.getElem?_set] at h2
    by_cases hkj : k = j
    · subst hkj
      rw [if_pos rfl,if_pos (by simpa using hk)] at h2
      rw [if_pos rfl]
      exact (Option.some.inj h2).symm
    · rw [if_neg (fun e => hkj e.symm)] at h2
      rw [if_neg hkj]
      by_cases hki : k = i
      · subst hki
        rw [if_pos rfl,if_pos hk] at h2
        rw [if_pos rfl]
        exact (Option.some.inj h2).symm
      · rw [if_neg (fun e => hki e.symm)] at h2
        rw [if_neg hki]
        exact (at_of h2)▸ rfl
  · rw [if_neg (by omega),if_neg (by omega)]
    have none_ : ∀ q : List Int,q.length ≤ k → at_ q k = 0:=fun q hq => by
      unfold at_
      rw [List.getD_eq_getElem?_getD,List.getElem?_eq_none hq];rfl
    rw [none_ _ (by simp;omega),none_ _ (by omega)]
theorem swap_perm {l : List Int} {i j : Nat} (hi : i < l.length) (hj : j < l.length) : (swap l i j).Perm l:=by
  have h1 : at_ l i = l[i]:=by unfold at_;rw [List.getD_eq_getElem?_getD,List.getElem?_eq_getElem hi];rfl
  have h2 : at_ l j = l[j]:=by unfold at_;rw [List.getD_eq_getElem?_getD,List.getElem?_eq_getElem hj];rfl
  unfold swap
  rw [h1,h2]
  exact List.set_set_perm hi hj
theorem swap_drop {l : List Int} {i j n : Nat} (hi : i < n) (hj : j < n) : (swap l i j).drop n = l.drop n:=by
  unfold swap
  rw [List.drop_set_of_lt hj,List.drop_set_of_lt hi]
def Heap (l : List Int) (n : Nat) : Prop:=∀ k,0 < k → k < n → at_ l ((k - 1) / 2) ≤ at_ l k
def Up (l : List Int) (n j : Nat) : Prop:=(∀ k,0 < k → k < n → k ≠ j → at_ l ((k - 1) / 2) ≤ at_ l k) ∧ ∀ k,0 < k → k < n → (k - 1) / 2 = j → 0 < j → at_ l ((j - 1) / 2) ≤ at_ l k
def Down (l : List Int) (n i : Nat) : Prop:=(∀ k,0 < k → k < n → (k - 1) / 2 ≠ i → at_ l ((k - 1) / 2) ≤ at_ l k) ∧ ∀ k,0 < k → k < n → (k - 1) / 2 = i → 0 < i → at_ l ((i - 1) / 2) ≤ at_ l k
theorem heap_nil (l : List Int) : Heap l 0:=fun k _ h => by omega
theorem up_zero {l : List Int} {n : Nat} (h : Up l n 0) : Heap l n:=fun k h0 hk => h.1 k h0 hk (by omega)
theorem up_done {l : List Int} {n j : Nat} (h : Up l n j) (hle : at_ l ((j - 1) / 2) ≤ at_ l j) : Heap l n:=fun k h0 hk => by
  by_cases hkj : k = j
  · subst hkj;exact hle
  · exact h.1 k h0 hk hkj
theorem up_step {l : List Int} {n i j : Nat} (h : Up l n j) (h0 : 0 < j) (hj : j < n) (hn : n ≤ l.length) (hi : i = (j - 1) / 2) (hlt : at_ l j < at_ l i) : Up (swap l i j) n i:=by
  have hij : i < j:=by omega
  have sw:=at_swap (l:=l) (i:=i) (j:=j) (by omega) (by omega)
  subst hi
  refine ⟨fun k hk0 hk hki => ?_,fun k hk0 hk hp hi0 => ?_⟩
  · rw [sw k,sw ((k - 1) / 2)]
    by_cases hkj : k = j
    · subst hkj
      rw [if_neg (by omega),if_pos rfl,if_pos rfl]
      omega
    · rw [if_neg hkj,if_neg hki]
      have h1:=h.1 k hk0 hk hkj
      by_cases hpj : (k - 1) / 2 = j
      · rw [if_pos hpj]
        exact h.2 k hk0 hk hpj h0
      · rw [if_neg hpj]
        by_cases hpi : (k - 1) / 2 = (j - 1) / 2
        · rw [if_pos hpi]
          rw [hpi] at h1
          omega
        · rw [if_neg hpi];exact h1
  · rw [sw k,sw (((j - 1) / 2 - 1) / 2),if_neg (by omega),if_neg (by omega)]
    have h1:=h.1 ((j - 1) / 2) hi0 (by omega) (by omega)
    by_cases hkj : k = j
    · rw [if_pos hkj];exact h1
    · rw [if_neg hkj,if_neg (by omega)]
      have h2:=h.1 k hk0 hk hkj
      rw [hp] at h2
      omega
theorem down_none {l : List Int} {n i : Nat} (h : Down l n i) (hn : n ≤ 2 * i + 1) : Heap l n:=fun k h0 hk => h.1 k h0 hk (by omega)
def Child (l : List Int) (n i j : Nat) : Prop:=j < n ∧ 0 < j ∧ (j - 1) / 2 = i ∧ ∀ k,0 < k → k < n → (k - 1) / 2 = i → at_ l j ≤ at_ l k
theorem child_left {l : List Int} {n i : Nat} (h1 : 2 * i + 1 < n) (h2 : n ≤ 2 * i + 2 ∨ at_ l (2 * i + 1) ≤ at_ l (2 * i + 2)) : Child l n i (2 * i + 1):=by
  refine ⟨h1,by omega,by omega,fun k h0 hk hp => ?_⟩
  by_cases hk1 : k = 2 * i + 1
  · subst hk1;omega
  · have : k = 2 * i + 2:=by omega
    subst this
    omega
theorem child_right {l : List Int} {n i : Nat} (h1 : 2 * i + 2 < n) (h2 : at_ l (2 * i + 2) < at_ l (2 * i + 1)) : Child l n i (2 * i + 2):=by
  refine ⟨h1,by omega,by omega,fun k h0 hk hp => ?_⟩
  by_cases hk1 : k = 2 * i + 1
  · subst hk1;omega
  · have : k = 2 * i + 2:=by omega
    subst this
    omega
theorem down_done {l : List Int} {n i j : Nat} (h : Down l n i) (hc : Child l n i j) (hle : at_ l i ≤ at_ l j) : Heap l n:=fun k h0 hk => by
  by_cases hp : (k - 1) / 2 = i
  · have:=hc.2.2.2 k h0 hk hp
    rw [hp];omega
  · exact h.1 k h0 hk hp
theorem down_step {l : List Int} {n i j : Nat} (h : Down l n i) (hc : Child l n i j) (hn : n ≤ l.length) (hlt : at_ l j < at_ l i) : Down (swap l i j) n j:=by
  obtain ⟨hjn,hj0,hji,hmin⟩:=hc
  have hij : i < j:=by omega
  have sw:=at_swap (l:=l) (i:=i) (j:=j) (by omega) (by omega)
  refine ⟨fun k hk0 hk hkp => ?_,fun k hk0 hk hp _ => ?_⟩
  · rw [sw k,sw ((k - 1) / 2),if_neg hkp]
    by_cases hkj : k = j
    · subst hkj
      rw [if_pos hji,if_pos rfl]
      omega
    · rw [if_neg hkj]
      by_cases hki : k = i
      · subst hki
        rw [if_neg (by omega),if_pos rfl]
        exact h.2 j hj0 hjn hji hk0
      · rw [if_neg hki]
        by_cases hpi : (k - 1) / 2 = i
        · rw [if_pos hpi]
          exact hmin k hk0 hk hpi
        · rw [if_neg hpi]
          exact h.1 k hk0 hk hpi
  · rw [hji,sw k,sw i,if_neg (by omega),if_pos rfl,if_neg (by omega),if_neg (by omega)]
    have h1:=h.1 k hk0 hk (by omega)
    rw [hp] at h1
    exact h1
theorem heap_min {l : List Int} {n : Nat} (h : Heap l n) : ∀ m k,k < m → k < n → at_ l 0 ≤ at_ l k:=by
  intro m
  induction m with
  | zero => intro k hk;omega
  | succ m ih =>
    intro k hkm hk
    by_cases h0 : k = 0
    · subst h0;omega
    · have h1:=h k (by omega) hk
      have h2:=ih ((k - 1) / 2) (by omega) (by omega)
      omega
theorem XS {l : List Int} {x : Int} {k : Nat} (h : k < l.length) : at_ (l ++ [x]) k = at_ l k:=by
  unfold at_
  rw [List.getD_eq_getElem?_getD,List.getD_eq_getElem?_getD,List.getElem?_append_left h]
theorem push_up {l : List Int} {n : Nat} (h : Heap l n) (hn : l.length = n) (x : Int) : Up (l ++ [x]) (n + 1) n:=by
  refine ⟨fun k h0 hk hkn => ?_,fun k h0 hk hp hn0 => by omega⟩
  rw [XS (by omega),XS (by omega)]
  exact h k h0 (by omega)
theorem pop_down {l : List Int} {n : Nat} (h : Heap l (n + 1)) (hn : l.length = n + 1) : Down (swap l 0 n) n 0:=by
  refine ⟨fun k h0 hk hkn => ?_,fun k h0 hk hp hn0 => by omega⟩
  have sw:=at_swap (l:=l) (i:=0) (j:=n) (by omega) (by omega)
  rw [sw k,sw ((k - 1) / 2),if_neg (by omega),if_neg (by omega),if_neg (by omega),if_neg (by omega)]
  exact h k h0 (by omega)
theorem heap_take {l : List Int} {n m : Nat} (h : Heap l n) (hn : n ≤ m) : Heap (l.take m) n:=fun k h0 hk => by
  have e : ∀ j,j < n → at_ (l.take m) j = at_ l j:=fun j hj => by
    unfold at_
    rw [List.getD_eq_getElem?_getD,List.getD_eq_getElem?_getD,List.getElem?_take,if_pos (by omega)]
  rw [e _ (by omega),e _ hk]
  exact h k h0 hk
end H
end Go.Proofs.YtoekiejipdabmaaDoor
