/- GraphBits, SetMath2, GraphMore, KillMath, MustMath, MustP1, SetP1, MustP2, Slice, Own, Held. -/
import Derived.Test.YtlgaefenhfmjfaaDoorPu4
import Derived.Test.YtlgaefenhfmjfaaDoorGraphRef4
import Derived.Test.YtlgaefenhfmjfaaDoorPu1
import Derived.Laws.BitsAllLaws
import Derived.Test.YtlgaefenhfmjfaaDoorPu2
import Derived.Laws.Slices
namespace Go.Proofs.YtlgaefenhfmjfaaDoor
open Go.RowKit
def BitsAre (m : Nat) (P : Nat → Prop) : Prop:=m < 4294967296 ∧ ∀ id,id < 32 → (m.testBit id = true ↔ P id)
theorem BitsAre.uniq {m m' : Nat} {P : Nat → Prop} (h : BitsAre m P) (h' : BitsAre m' P) : m = m' :=
  S.eq_of_bits m m' h.1 h'.1 fun i hi => by
    have h1:=h.2 i hi
    have h2:=h'.2 i hi
    cases e : m.testBit i <;> cases e' : m'.testBit i <;> simp_all
theorem BitsAre.congr {m : Nat} {P P' : Nat → Prop} (h : BitsAre m P) (hp : ∀ id,id < 32 → (P id ↔ P' id)) : BitsAre m P':=⟨h.1,fun id hi => (h.2 id hi).trans (hp id hi)⟩
theorem lG : BitsAre 0 (fun _ => False):=⟨by omega,fun id _ => by simp⟩
theorem y1 {a b : Nat} {P P' : Nat → Prop} (h : BitsAre a P) (h' : BitsAre b P') : BitsAre (a ||| b) (fun id => P id ∨ P' id) :=
  ⟨Nat.or_lt_two_pow (n:=32) h.1 h'.1,fun id hi => by rw [Nat.testBit_or,Bool.or_eq_true,h.2 id hi,h'.2 id hi]⟩
theorem xO (q : Nat → Bool) : ∀ n,S.mask ((List.range n).filter q) < 2 ^ n ∧ ∀ i,(S.mask ((List.range n).filter q)).testBit i = (decide (i < n) && q i)
  | 0 => ⟨by simp [S.mask],fun i => by simp [S.mask]⟩
  | n + 1 => by
    obtain ⟨h1,h2⟩:=xO q n
    rw [List.range_succ,List.filter_append]
    by_cases hq : q n = true
    · rw [show [n].filter q = [n] by simp [hq],S.mask_snoc]
      generalize S.mask ((List.range n).filter q) = x at *
      have hp : 2 ^ (n + 1) = 2 ^ n * 2:=Nat.pow_succ ..
      refine ⟨by omega,fun i => ?_⟩
      rw [Nat.add_comm x]
      rcases Nat.lt_trichotomy i n with h | h | h
      · rw [Nat.testBit_two_pow_add_gt h,h2]
        simp [h,Nat.lt_succ_of_lt h]
      · subst h
        rw [Nat.testBit_two_pow_add_eq,Nat.testBit_lt_two_pow h1]
        simp [hq]
      · have hlt : 2 ^ n + x < 2 ^ i:=by
          have h3 : 2 ^ (n + 1) ≤ 2 ^ i:=Nat.pow_le_pow_right (by omega) h
          omega
        rw [Nat.testBit_lt_two_pow hlt]
        have h4 : ¬ i < n + 1:=by omega
        simp [h4]
    · rw [show [n].filter q = [] by simp [hq],List.append_nil]
      have hp : 2 ^ (n + 1) = 2 ^ n * 2:=Nat.pow_succ ..
      refine ⟨by omega,fun i => ?_⟩
      rw [h2]
      rcases Nat.lt_trichotomy i n with h | h | h
      · simp [h,Nat.lt_succ_of_lt h]
      · subst h;simp [hq]
      · have h4 : ¬ i < n + 1:=by omega
        have h5 : ¬ i < n:=by omega
        simp [h4,h5]
theorem vP (q : Nat → Bool) (n : Nat) (hn : n ≤ 32) : BitsAre (S.mask ((List.range n).filter q)) (fun id => id < n ∧ q id = true):=by
  obtain ⟨h1,h2⟩:=xO q n
  have h3 : 2 ^ n ≤ 2 ^ 32:=Nat.pow_le_pow_right (by omega) hn
  have h4 : (2 : Nat) ^ 32 = 4294967296:=by decide
  refine ⟨by omega,fun id _ => ?_⟩
  rw [h2 id,Bool.and_eq_true,decide_eq_true_eq]
def Names (l : List Nd) (kind : Int) (id : Nat) : Prop:=∃ nd ∈ l,nd.kind = kind ∧ nd.arg = (id : Int)
theorem JW {m x : Nat} (hm : m < 4294967296) : x ∈ S.ids m 32 ↔ m.testBit x = true:=by
  rw [S.ids_mem]
  constructor
  · exact fun h => h.2
  · intro h
    refine ⟨?_,h⟩
    rcases Nat.lt_or_ge x 32 with hx | hx
    · exact hx
    · rw [S.bit_high m x hm hx] at h;cases h
end Go.Proofs.YtlgaefenhfmjfaaDoor
namespace Go.Proofs.YtlgaefenhfmjfaaDoor.S
def rest (m : Nat) : Nat:=m &&& (m - 1)
theorem uX : ∀ m : Nat,0 < m → ∃ k q,m = 2 ^ (k + 1) * q + 2 ^ k:=by
  intro m
  induction m using Nat.strongRecOn with
  | _ m ih =>
    intro h
    by_cases ho : m % 2 = 1
    · exact ⟨0,m / 2,by omega⟩
    · obtain ⟨k,q,e⟩:=ih (m / 2) (by omega) (by omega)
      refine ⟨k + 1,q,?_⟩
      have e1 : 2 ^ (k + 1 + 1) * q = 2 * (2 ^ (k + 1) * q):=by rw [Nat.pow_succ 2 (k + 1)];rw [Nat.mul_comm (2 ^ (k + 1)) 2,Nat.mul_assoc]
      have e2 : 2 ^ (k + 1) = 2 * 2 ^ k:=by rw [Nat.pow_succ];omega
      rw [e1]
      generalize 2 ^ (k + 1) * q = z at *
      omega
theorem xJ (k q i : Nat) : (2 ^ (k + 1) * q + 2 ^ k).testBit i = (decide (i = k) || (decide (k < i) && q.testBit (i - (k + 1)))):=by
  have h2 : 2 ^ k < 2 ^ (k + 1):=Nat.pow_lt_pow_right (by decide) (by omega)
  rw [Nat.testBit_two_pow_mul_add q h2]
  by_cases hi : i < k + 1
  · rw [if_pos hi,Nat.testBit_two_pow,decide_eq_false (by omega : ¬ k < i)]
    simp [eq_comm]
  · rw [if_neg hi,decide_eq_false (by omega : ¬ i = k),decide_eq_true (by omega : k < i)]
    simp
theorem vQ (k q i : Nat) : (2 ^ (k + 1) * q + 2 ^ k - 1).testBit i = (decide (i < k) || (decide (k < i) && q.testBit (i - (k + 1)))):=by
  have h1 : 0 < 2 ^ k:=Nat.pow_pos (by decide)
  have h2 : 2 ^ k - 1 < 2 ^ (k + 1):=by have : 2 ^ k < 2 ^ (k + 1):=Nat.pow_lt_pow_right (by decide) (by omega);omega
  rw [show 2 ^ (k + 1) * q + 2 ^ k - 1 = 2 ^ (k + 1) * q + (2 ^ k - 1) by omega,Nat.testBit_two_pow_mul_add q h2]
  by_cases hi : i < k + 1
  · rw [if_pos hi,Nat.testBit_two_pow_sub_one,decide_eq_false (by omega : ¬ k < i)]
    simp
  · rw [if_neg hi,decide_eq_false (by omega : ¬ i < k),decide_eq_true (by omega : k < i)]
    simp
theorem zO (k q i : Nat) : (rest (2 ^ (k + 1) * q + 2 ^ k)).testBit i = (decide (k < i) && q.testBit (i - (k + 1))):=by
  unfold rest
  rw [Nat.testBit_and,xJ,vQ]
  by_cases h : k < i
  · rw [decide_eq_true h,decide_eq_false (by omega : ¬ i = k)];cases q.testBit (i - (k + 1)) <;> simp
  · rw [decide_eq_false h]
    by_cases h2 : i = k
    · rw [decide_eq_true h2,decide_eq_false (by omega : ¬ i < k)];simp
    · rw [decide_eq_false h2];simp
theorem yW (k q : Nat) : ∀ n,ids (2 ^ (k + 1) * q + 2 ^ k) n = if k < n then k :: ids (rest (2 ^ (k + 1) * q + 2 ^ k)) n else ids (rest (2 ^ (k + 1) * q + 2 ^ k)) n
  | 0 => by simp [ids]
  | n + 1 => by
    rw [vF,vF,yW k q n,zO,xJ]
    by_cases h1 : k < n
    · rw [if_pos h1,if_pos (by omega : k < n + 1),decide_eq_false (by omega : ¬ n = k)];rfl
    · rw [if_neg h1]
      by_cases h2 : n = k
      · subst h2
        have e : ids (rest (2 ^ (n + 1) * q + 2 ^ n)) n = []:=by
          unfold ids
          rw [List.filter_eq_nil_iff]
          intro i hi
          have:=List.mem_range.1 hi
          rw [zO,decide_eq_false (by omega)];simp
        rw [e];simp
      · rw [decide_eq_false h2,decide_eq_false h1,if_neg (show ¬ k < n + 1 by omega)];rfl
theorem LG (k q : Nat) (hm : 2 ^ (k + 1) * q + 2 ^ k < 4294967296) : ((2 ^ (k + 1) * q + 2 ^ k) &&& (4294967296 - (2 ^ (k + 1) * q + 2 ^ k))) = 2 ^ k:=by
  have h1 : 0 < 2 ^ k:=Nat.pow_pos (by decide)
  apply Nat.eq_of_testBit_eq
  intro j
  have e : 4294967296 - (2 ^ (k + 1) * q + 2 ^ k) = 2 ^ 32 - ((2 ^ (k + 1) * q + 2 ^ k - 1) + 1):=by
    have : 4294967296 = 2 ^ 32:=by decide
    omega
  rw [Nat.testBit_and,e,Nat.testBit_two_pow_sub_succ (by omega),xJ,vQ,Nat.testBit_two_pow]
  by_cases h2 : j = k
  · subst h2
    have : j < 32:=by
      rcases Nat.lt_or_ge j 32 with h | h
      · exact h
      · have:=Nat.pow_le_pow_right (by decide : 0 < 2) h
        omega
    simp [this]
  · rw [decide_eq_false h2,decide_eq_false (by omega : ¬ k = j)]
    by_cases h3 : k < j
    · rw [decide_eq_true h3,decide_eq_false (by omega : ¬ j < k)]
      cases q.testBit (j - (k + 1)) <;> simp
    · rw [decide_eq_false h3];simp
theorem low (m : Nat) (h0 : m ≠ 0) (hm : m < 4294967296) : ∃ k,k ≤ 31 ∧ ids m 32 = k :: ids (rest m) 32 ∧ (m &&& (4294967296 - m)) = 2 ^ k ∧ rest m < m:=by
  obtain ⟨k,q,rfl⟩:=uX m (by omega)
  have h1 : 0 < 2 ^ k:=Nat.pow_pos (by decide)
  have hk : k < 32:=by
    rcases Nat.lt_or_ge k 32 with h | h
    · exact h
    · have:=Nat.pow_le_pow_right (by decide : 0 < 2) h
      omega
  refine ⟨k,by omega,?_,LG k q hm,?_⟩
  · have:=yW k q 32
    rw [if_pos hk] at this
    exact this
  · unfold rest
    exact Nat.lt_of_le_of_lt Nat.and_le_right (by omega)
theorem ids_zero (n : Nat) : ids 0 n = []:=by simp [ids]
theorem count_zero : count 0 = 0:=by simp [count,ids_zero]
theorem count_rest (m : Nat) (h0 : m ≠ 0) (hm : m < 4294967296) : count m = count (rest m) + 1:=by
  obtain ⟨k,_,h,_⟩:=low m h0 hm
  unfold count
  rw [h];rfl
theorem count_le (m : Nat) : count m ≤ 32:=ids_len m 32
theorem least_low (m k : Nat) (l : List Nat) (h : ids m 32 = k :: l) : least m = k:=by unfold least;rw [h]
theorem within_not (a b : Nat) (ha : a < 4294967296) (hb : b < 4294967296) : within a b 32 = decide ((a &&& (4294967295 - b)) = 0):=by
  have hbit : ∀ i,(4294967295 - b).testBit i = (decide (i < 32) && !b.testBit i):=fun i => by
    have:=Nat.testBit_two_pow_sub_succ (n:=32) (x:=b) hb i
    rw [← this,show 2 ^ 32 - (b + 1) = 4294967295 - b by omega]
  rw [Bool.eq_iff_iff,within_iff,decide_eq_true_iff]
  constructor
  · intro h
    apply Nat.eq_of_testBit_eq
    intro i
    rw [Nat.testBit_and,hbit,Nat.zero_testBit]
    rcases Nat.lt_or_ge i 32 with hi | hi
    · cases h1 : a.testBit i
      · rfl
      · rw [h i hi h1];simp
    · rw [bit_high a i ha hi];rfl
  · intro h i hi h1
    have:=congrArg (·.testBit i) h
    simp only [Nat.testBit_and,hbit,h1,Nat.zero_testBit,decide_eq_true hi,Bool.true_and] at this
    simpa using this
theorem has_one (m : Nat) (id : Int) : has m id = decide ((m &&& one id) ≠ 0):=by
  by_cases h : 0 ≤ id ∧ id ≤ 31
  · obtain ⟨n,rfl⟩ : ∃ n : Nat,id = (n : Int):=⟨id.toNat,by omega⟩
    have hn : n ≤ 31:=by omega
    rw [has_in m n hn,one_nat n hn,Bool.eq_iff_iff,decide_eq_true_iff]
    constructor
    · intro h1 h2
      have:=congrArg (·.testBit n) h2
      simp [Nat.testBit_and,h1] at this
    · intro h1
      cases h2 : m.testBit n
      · exfalso
        apply h1
        apply Nat.eq_of_testBit_eq
        intro i
        rw [Nat.testBit_and,Nat.testBit_two_pow,Nat.zero_testBit]
        by_cases hi : n = i
        · subst hi;rw [h2];rfl
        · rw [decide_eq_false hi,Bool.and_false]
      · rfl
  · rw [LL m id (by omega),one_out id (by omega)];simp
end Go.Proofs.YtlgaefenhfmjfaaDoor.S
namespace Go.Proofs.YtlgaefenhfmjfaaDoor
open Go.RowKit
theorem Fn.Ok.more {f : Fn} {w : World} {B B' : Nat} (h : f.Ok w B) (hB : B ≤ B') : f.Ok w B':=⟨⟨h.nodes.1.more hB,h.nodes.2⟩,h.lc,h.cm,h.nil⟩
theorem Pg.Ok.more {p : Pg} {w : World} {B B' : Nat} (h : p.Ok w B) (hB : B ≤ B') : p.Ok w B':=⟨h.g,h.l,h.s,h.row.more hB,fun f hf => (h.fns f hf).more hB,h.lc,h.cm,h.nil⟩
theorem vK {p : Pg} {F G : Nat → Prop} (h : ∀ j,F j → j < p.len → Comes p G j) {i : Nat} (hc : Comes p F i) : Comes p G i:=by
  obtain ⟨hi,h1 | ⟨j,hj,hjl,hr⟩⟩:=hc
  · exact h i h1 hi
  · have hj':=h j hj hjl
    refine ⟨hi,.inr ?_⟩
    obtain ⟨_,h2 | ⟨k,hk,hkl,hr2⟩⟩:=hj'
    · exact ⟨j,h2,hjl,hr⟩
    · exact ⟨k,hk,hkl,hr2.trans hjl hr⟩
theorem qY {p : Pg} {F : Nat → Prop} {j : Nat} (h : F j) (hj : j < p.len) : Comes p F j:=⟨hj,.inl h⟩
end Go.Proofs.YtlgaefenhfmjfaaDoor
namespace Go.Proofs.YtlgaefenhfmjfaaDoor
open Go.RowKit
def Tl (a b : Int) (x : Nd) (id : Nat) : Prop:=(x.kind = a ∨ x.kind = b) ∧ x.arg = (id : Int)
def MayDo (p : Pg) (a b : Int) (f id : Nat) : Prop:=∃ g fn,Comes p (fun x => x = f) g ∧ p.fns[g]? = some fn ∧ ∃ x ∈ fn.nodes,Tl a b x id
theorem xU {p : Pg} {f g : Nat} (hf : f < p.len) : Comes p (fun x => x = f) g ↔ g < p.len ∧ (g = f ∨ ∃ y,CallIn p f y ∧ Comes p (fun x => x = y) g):=by
  constructor
  · rintro ⟨hg,h | ⟨j,rfl,hj,hr⟩⟩
    · exact ⟨hg,.inl h⟩
    · refine ⟨hg,.inr ?_⟩
      cases hr with
      | one h => exact ⟨g,h,qY rfl hg⟩
      | more h hk hr => exact ⟨_,h,hg,.inr ⟨_,rfl,hk,hr⟩⟩
  · rintro ⟨hg,rfl | ⟨y,hy,h⟩⟩
    · exact qY rfl hg
    · refine vK (fun j hj _ => ?_) h
      subst hj
      exact yF (qY rfl hf) hy
theorem u5 {p : Pg} {a b : Int} {f : Nat} {fn : Fn} (hl : p.fns.length = p.len) (hfn : p.fns[f]? = some fn) (id : Nat) :
    MayDo p a b f id ↔ (∃ x ∈ fn.nodes,Tl a b x id) ∨ ∃ y,CallIn p f y ∧ MayDo p a b y id:=by
  have hf : f < p.len:=by rw [← hl];exact (List.getElem?_eq_some_iff.1 hfn).1
  unfold MayDo
  constructor
  · rintro ⟨g,fn',hc,hg,h⟩
    rcases (xU hf).1 hc with ⟨_,rfl | ⟨y,hy,h2⟩⟩
    · rw [hfn] at hg;cases hg;exact .inl h
    · exact .inr ⟨y,hy,g,fn',h2,hg,h⟩
  · rintro (h | ⟨y,hy,g,fn',h2,hg,h⟩)
    · exact ⟨f,fn,qY rfl hf,hfn,h⟩
    · exact ⟨g,fn',(xU hf).2 ⟨h2.1,.inr ⟨y,hy,h2⟩⟩,hg,h⟩
open Classical in
noncomputable def setL (P : Nat → Prop) : List Nat:=(List.range 32).filter fun id => decide (P id)
open Classical in
theorem x7 (P : Nat → Prop) : BitsAre (S.mask (setL P)) P :=
  (vP (fun id => decide (P id)) 32 (Nat.le_refl _)).congr fun id hid => by simp [hid]
noncomputable def killL (p : Pg) (a b : Int) : List Nat:=(List.range p.len).map fun f => S.mask (setL (MayDo p a b f))
theorem xD (p : Pg) (a b : Int) : (killL p a b).length = p.len:=by simp [killL]
theorem vD {p : Pg} {a b : Int} {f : Nat} (hf : f < p.len) : (killL p a b)[f]? = some (S.mask (setL (MayDo p a b f))):=by
  unfold killL
  rw [List.getElem?_map,List.getElem?_range hf]
  rfl
theorem u9 {p : Pg} {a b : Int} {f m : Nat} (h : (killL p a b)[f]? = some m) : BitsAre m (MayDo p a b f):=by
  have hf : f < p.len:=by rw [← xD p a b];exact (List.getElem?_eq_some_iff.1 h).1
  rw [vD hf] at h
  cases h
  exact x7 _
theorem vC {p : Pg} {a b : Int} {ms : List Nat} (hl : ms.length = p.len) (h : ∀ f m,ms[f]? = some m → BitsAre m (MayDo p a b f)) : ms = killL p a b:=by
  refine List.ext_getElem? fun f => ?_
  by_cases hf : f < p.len
  · rw [vD hf,List.getElem?_eq_getElem (by omega)]
    exact congrArg some ((h f _ (List.getElem?_eq_getElem (by omega))).uniq (x7 _))
  · rw [List.getElem?_eq_none (by omega),List.getElem?_eq_none (by rw [xD];omega)]
noncomputable def killA (p : Pg) (a b : Int) (c : Nat) : List Nat:=if c = 0 then killL p a b else []
theorem yC (p : Pg) (a b : Int) : killA p a b 0 = killL p a b:=rfl
theorem JV {c : Nat} (p : Pg) (a b : Int) (h : c ≠ 0) : killA p a b c = []:=if_neg h
structure GaInv (p : Pg) (a b : Int) (l ms : List Nat) (k : Nat) : Prop where
  len : ms.length = p.len
  done : ∀ g m,ms[g]? = some m → g ∈ l.take k → BitsAre m (MayDo p a b g)
  todo : ∀ g m,ms[g]? = some m → g ∉ l.take k → m = 0
theorem GaInv.start (p : Pg) (a b : Int) (l : List Nat) : GaInv p a b l (List.replicate p.len 0) 0 :=
  ⟨by simp,fun g m _ h => by simp at h,fun g m h _ => by
    rw [List.getElem?_replicate] at h
    split at h
    · cases h;rfl
    · cases h⟩
theorem GaInv.step {p : Pg} {a b : Int} {l ms : List Nat} {k f m : Nat} (h : GaInv p a b l ms k) (hf : l[k]? = some f) (hfl : f < p.len) (hm : BitsAre m (MayDo p a b f)) : GaInv p a b l (ms.set f m) (k + 1):=by
  refine ⟨by rw [List.length_set];exact h.len,fun g m' hg hin => ?_,fun g m' hg hin => ?_⟩
  · by_cases e : f = g
    · subst e
      rw [List.getElem?_set_self (by rw [h.len];exact hfl)] at hg
      cases hg;exact hm
    · rw [List.getElem?_set_ne e] at hg
      rw [List.take_add_one,hf] at hin
      simp only [Option.toList_some,List.mem_append,List.mem_singleton] at hin
      rcases hin with h1 | rfl
      · exact h.done g m' hg h1
      · exact absurd rfl e
  · rw [List.take_add_one,hf] at hin
    simp only [Option.toList_some,List.mem_append,List.mem_singleton,not_or] at hin
    rw [List.getElem?_set_ne (fun e => hin.2 e.symm)] at hg
    exact h.todo g m' hg hin.1
def NoInv (a b : Int) (l : List Nd) (m i : Nat) : Prop:=BitsAre m (fun id => ∃ x ∈ l.take i,Tl a b x id)
theorem NoInv.start (a b : Int) (l : List Nd) : NoInv a b l 0 0:=lG.congr fun id _ => by simp
theorem NoInv.step {a b : Int} {l : List Nd} {m i n : Nat} {x : Nd} (h : NoInv a b l m i) (hx : l[i]? = some x) (hn : BitsAre n (Tl a b x)) : NoInv a b l (m ||| n) (i + 1) :=
  (y1 h hn).congr fun id _ => by
    rw [List.take_add_one,hx]
    simp only [Option.toList_some,List.mem_append,List.mem_singleton]
    constructor
    · rintro (⟨y,h1,h2⟩ | h1)
      · exact ⟨y,.inl h1,h2⟩
      · exact ⟨x,.inr rfl,h1⟩
    · rintro ⟨y,h1 | rfl,h2⟩
      · exact .inl ⟨y,h1,h2⟩
      · exact .inr h2
theorem NoInv.end_ {a b : Int} {l : List Nd} {m i : Nat} (h : NoInv a b l m i) (hi : l.length ≤ i) : BitsAre m (fun id => ∃ x ∈ l,Tl a b x id):=by
  unfold NoInv at h
  rwa [List.take_of_length_le hi] at h
def CaInv (p : Pg) (a b : Int) (l : List Nd) (cs : List Nat) (m j : Nat) : Prop:=BitsAre m (fun id => (∃ x ∈ l,Tl a b x id) ∨ ∃ y ∈ cs.take j,MayDo p a b y id)
theorem CaInv.start {p : Pg} {a b : Int} {l : List Nd} {m : Nat} (cs : List Nat) (h : BitsAre m (fun id => ∃ x ∈ l,Tl a b x id)) : CaInv p a b l cs m 0:=h.congr fun id _ => by simp
theorem CaInv.step {p : Pg} {a b : Int} {l : List Nd} {cs : List Nat} {m j n y : Nat} (h : CaInv p a b l cs m j) (hy : cs[j]? = some y) (hn : BitsAre n (MayDo p a b y)) : CaInv p a b l cs (m ||| n) (j + 1) :=
  (y1 h hn).congr fun id _ => by
    rw [List.take_add_one,hy]
    simp only [Option.toList_some,List.mem_append,List.mem_singleton]
    constructor
    · rintro ((h1 | ⟨z,h1,h2⟩) | h1)
      · exact .inl h1
      · exact .inr ⟨z,.inl h1,h2⟩
      · exact .inr ⟨y,.inr rfl,h1⟩
    · rintro (h1 | ⟨z,h1 | rfl,h2⟩)
      · exact .inl (.inl h1)
      · exact .inl (.inr ⟨z,h1,h2⟩)
      · exact .inr h2
theorem CaInv.end_ {p : Pg} {a b : Int} {cs : List Nat} {m j f cm : Nat} {fn : Fn} (h : CaInv p a b fn.nodes cs m j) (hj : cs.length ≤ j) (hl : p.fns.length = p.len) (h32 : p.len ≤ 32) (hfn : p.fns[f]? = some fn) (hcm : BitsAre cm (Names fn.nodes 7)) (hcs : S.ids cm 32 = cs) (hin : ∀ y,Q.calls p f y → y < p.len) : BitsAre m (MayDo p a b f):=by
  unfold CaInv at h
  rw [List.take_of_length_le hj] at h
  refine h.congr fun id _ => ?_
  rw [u5 hl hfn id]
  have key : ∀ y,y ∈ cs ↔ CallIn p f y:=fun y => by
    rw [← hcs,JW hcm.1]
    constructor
    · intro h1
      have hy : y < 32:=by
        rcases Nat.lt_or_ge y 32 with h2 | h2
        · exact h2
        · rw [S.bit_high cm y hcm.1 h2] at h1;cases h1
      obtain ⟨nd,h2,h3,h4⟩:=(hcm.2 y hy).1 h1
      have hc : Q.calls p f y:=⟨fn,hfn,nd,h2,h3,h4⟩
      exact ⟨hc,hin y hc⟩
    · rintro ⟨⟨fn',h1,nd,h2,h3,h4⟩,hy⟩
      rw [hfn] at h1;cases h1
      exact (hcm.2 y (by omega)).2 ⟨nd,h2,h3,h4⟩
  constructor
  · rintro (h1 | ⟨y,h1,h2⟩)
    · exact .inl h1
    · exact .inr ⟨y,(key y).1 h1,h2⟩
  · rintro (h1 | ⟨y,h1,h2⟩)
    · exact .inl h1
    · exact .inr ⟨y,(key y).2 h1,h2⟩
theorem uU {p : Pg} {l : List Nat} {k f cm : Nat} {fn : Fn} (h : IsOrd p l) (hk : l[k]? = some f) (hfn : p.fns[f]? = some fn) (hcm : BitsAre cm (Names fn.nodes 7)) {y : Nat} (hy : y ∈ S.ids cm 32) : y ∈ l.take k ∧ y ≠ f:=by
  have hf:=(h k f hk).2.1
  rw [JW hcm.1] at hy
  have hy2 : y < 32:=by
    rcases Nat.lt_or_ge y 32 with h2 | h2
    · exact h2
    · rw [S.bit_high cm y hcm.1 h2] at hy;cases hy
  obtain ⟨nd,h2,h3,h4⟩:=(hcm.2 y hy2).1 hy
  have h5:=hf.2 y ⟨fn,hfn,nd,h2,h3,h4⟩
  exact ⟨h5,fun e => hf.1 (e ▸ h5)⟩
theorem LE {p : Pg} {l : List Nat} (h : IsOrd p l) (hl : p.fns.length = p.len) (hlen : l.length = p.len) {g : Nat} (hg : g < p.len) : g ∈ l:=by
  refine Classical.byContradiction fun hno => ?_
  have h1 : (g :: l).Nodup:=List.nodup_cons.2 ⟨hno,yS h⟩
  have h2 : (g :: l) ⊆ List.range p.len:=fun x hx => by
    rcases List.mem_cons.1 hx with rfl | hx
    · exact List.mem_range.2 hg
    · obtain ⟨k,hk⟩:=List.mem_iff_getElem?.1 hx
      exact List.mem_range.2 (by rw [← hl];exact (h k x hk).1)
  have h3:=h1.length_le_of_subset h2
  simp at h3
  omega
end Go.Proofs.YtlgaefenhfmjfaaDoor
namespace Go.Proofs.YtlgaefenhfmjfaaDoor
open Go.RowKit
namespace Mu
def behind (us : List Nat) (ls : List Sc) (n : Nd) (h : Nat) : Nat :=
  if n.kind = 3 then h ||| S.one n.arg
  else if n.kind = 4 then h &&& (4294967295 - S.one n.arg)
  else if n.kind = 7 then (h &&& (4294967295 - us.getD n.arg.toNat 0)) ||| (ls.getD n.arg.toNat default).ex
  else h
def badTo (us : List Nat) (ls : List Sc) (s : Sc) (n : Nd) (h : Nat) (to : Int) : Bool:=!S.within (s.held.z.getD to.toNat 0) (behind us ls n h) 32
def node (us : List Nat) (ls : List Sc) (s : Sc) (n : Nd) (h : Nat) : Nat :=
  if n.kind = 7 ∧ S.within (ls.getD n.arg.toNat default).en h 32 = false then 5
  else if n.kind = 9 ∧ S.within s.ex h 32 = false then 4
  else if (Q.succ n).any (badTo us ls s n h) = true then 3 else 0
def first (g : Nat → Nat) : Nat → Nat × Nat
  | 0 => (0,0)
  | n + 1 => if (first g n).2 ≠ 0 then first g n else if g n ≠ 0 then (n,g n) else (0,0)
theorem lI (g : Nat → Nat) : ∀ n,(∀ i,i < n → g i = 0) → first g n = (0,0)
  | 0,_ => rfl
  | n + 1,h => by
    have h1:=lI g n fun i hi => h i (by omega)
    unfold first
    rw [h1,if_neg (by simp),if_neg (by rw [h n (by omega)];simp)]
theorem xG (g : Nat → Nat) {k : Nat} (h0 : ∀ i,i < k → g i = 0) (hk : g k ≠ 0) : ∀ n,k < n → first g n = (k,g k)
  | 0,h => absurd h (by omega)
  | n + 1,h => by
    unfold first
    by_cases e : k = n
    · subst e
      rw [lI g k h0,if_neg (by simp),if_pos hk]
    · rw [xG g h0 hk n (by omega),if_pos hk]
theorem first_zero (g : Nat → Nat) : ∀ n,(first g n).2 = 0 → ∀ i,i < n → g i = 0
  | 0,_,i,hi => absurd hi (by omega)
  | n + 1,h,i,hi => by
    unfold first at h
    by_cases h1 : (first g n).2 ≠ 0
    · rw [if_pos h1] at h;exact absurd h h1
    · rw [if_neg h1] at h
      by_cases h2 : g n ≠ 0
      · rw [if_pos h2] at h;exact absurd h h2
      · by_cases e : i = n
        · subst e;omega
        · exact first_zero g n (by omega) i (by omega)
def at_ (us : List Nat) (ls : List Sc) (s : Sc) (l : List Nd) (i : Nat) : Nat:=node us ls s (l.getD i default) (s.held.z.getD i 0)
def func (us : List Nat) (ls : List Sc) (b : Bool) (s : Sc) (l : List Nd) : Int × Nat :=
  if b = true ∧ s.en ≠ 0 then (-1,2)
  else if S.within (s.held.z.getD 0 0) s.en 32 = false then (-1,3)
  else (((first (at_ us ls s l) l.length).1 : Int),(first (at_ us ls s l) l.length).2)
def bare (p : Pg) (f : Nat) : Bool:=decide (f = 0) || p.fns.any fun fn => fn.nodes.any (names 5 f)
theorem bare_iff {p : Pg} {f : Nat} : bare p f = true ↔ f = 0 ∨ ∃ fn ∈ p.fns,Names fn.nodes 5 f:=by
  unfold bare Names
  rw [Bool.or_eq_true,decide_eq_true_eq]
  refine or_congr Iff.rfl ?_
  rw [List.any_eq_true]
  refine exists_congr fun fn => and_congr Iff.rfl ?_
  rw [List.any_eq_true]
  refine exists_congr fun nd => and_congr Iff.rfl ?_
  unfold names
  rw [Bool.and_eq_true,decide_eq_true_eq,decide_eq_true_eq]
def sec (ls : List Sc) (f : Nat) : Sc:=ls.getD f default
def fn (p : Pg) (f : Nat) : Fn:=p.fns.getD f default
def fun_ (p : Pg) (us : List Nat) (ls : List Sc) (f : Nat) : Int × Nat:=func us ls (bare p f) (sec ls f) (fn p f).nodes
def shapedAt (p : Pg) (ls : List Sc) (f : Nat) : Bool:=decide ((sec ls f).held.len = (fn p f).len) && decide ((sec ls f).live.len = (fn p f).len)
def shaped (p : Pg) (ls : List Sc) : Bool:=decide (ls.length = p.len) && (List.range p.len).all (shapedAt p ls)
theorem shaped_iff {p : Pg} {ls : List Sc} : shaped p ls = true ↔ ls.length = p.len ∧ ∀ f,f < p.len → shapedAt p ls f = true:=by
  unfold shaped
  rw [Bool.and_eq_true,decide_eq_true_eq,List.all_eq_true]
  simp only [List.mem_range]
def check (p : Pg) (us : List Nat) (ls : List Sc) : Int × Int × Nat :=
  if shaped p ls = false then (-1,-1,1)
  else if (first (fun f => (fun_ p us ls f).2) p.len).2 = 0 then (0,0,0)
  else (((first (fun f => (fun_ p us ls f).2) p.len).1 : Int),(fun_ p us ls (first (fun f => (fun_ p us ls f).2) p.len).1).1,(first (fun f => (fun_ p us ls f).2) p.len).2)
theorem check_shape {p : Pg} {us : List Nat} {ls : List Sc} (h : shaped p ls = false) : check p us ls = (-1,-1,1):=if_pos h
theorem check_none {p : Pg} {us : List Nat} {ls : List Sc} (h : shaped p ls = true) (h0 : ∀ f,f < p.len → (fun_ p us ls f).2 = 0) : check p us ls = (0,0,0):=by
  unfold check
  rw [if_neg (by rw [h];simp),lI _ _ h0,if_pos rfl]
theorem check_hit {p : Pg} {us : List Nat} {ls : List Sc} (h : shaped p ls = true) {k : Nat} (hk : k < p.len) (h0 : ∀ f,f < k → (fun_ p us ls f).2 = 0) {a : Int} {c : Nat} (hc : fun_ p us ls k = (a,c)) (hcz : c ≠ 0) : check p us ls = ((k : Int),a,c):=by
  unfold check
  have h1:=xG (fun f => (fun_ p us ls f).2) h0 (by show (fun_ p us ls k).2 ≠ 0;rw [hc];exact hcz) p.len hk
  rw [if_neg (by rw [h];simp),h1]
  simp only [hc]
  rw [if_neg hcz]
theorem check_fine {p : Pg} {us : List Nat} {ls : List Sc} (h : (check p us ls).2.2 = 0) : shaped p ls = true ∧ ∀ f,f < p.len → (fun_ p us ls f).2 = 0:=by
  unfold check at h
  by_cases h1 : shaped p ls = false
  · rw [if_pos h1] at h;cases h
  · rw [if_neg h1] at h
    refine ⟨by simpa using h1,?_⟩
    by_cases h2 : (first (fun f => (fun_ p us ls f).2) p.len).2 = 0
    · exact first_zero _ _ h2
    · rw [if_neg h2] at h;exact absurd h h2
theorem xE {us : List Nat} {ls : List Sc} {b : Bool} {s : Sc} {l : List Nd} : (func us ls b s l).2 = 0 ↔ (b = true → s.en = 0) ∧ S.within (s.held.z.getD 0 0) s.en 32 = true ∧ ∀ i,i < l.length → at_ us ls s l i = 0:=by
  unfold func
  by_cases h1 : b = true ∧ s.en ≠ 0
  · rw [if_pos h1]
    constructor
    · intro h;cases h
    · rintro ⟨h,_⟩;exact absurd (h h1.1) h1.2
  · rw [if_neg h1]
    have h1' : b = true → s.en = 0:=fun hb => Classical.byContradiction fun hn => h1 ⟨hb,hn⟩
    by_cases h2 : S.within (s.held.z.getD 0 0) s.en 32 = false
    · rw [if_pos h2]
      constructor
      · intro h;cases h
      · rintro ⟨_,h,_⟩;rw [h2] at h;cases h
    · rw [if_neg h2]
      have h2' : S.within (s.held.z.getD 0 0) s.en 32 = true:=by simpa using h2
      constructor
      · intro h;exact ⟨h1',h2',first_zero _ _ h⟩
      · rintro ⟨_,_,h⟩;rw [lI _ _ h]
theorem func_entry {us : List Nat} {ls : List Sc} {b : Bool} {s : Sc} {l : List Nd} (hb : b = true) (h : s.en ≠ 0) : func us ls b s l = (-1,2):=if_pos ⟨hb,h⟩
theorem func_held {us : List Nat} {ls : List Sc} {b : Bool} {s : Sc} {l : List Nd} (hb : ¬ (b = true ∧ s.en ≠ 0)) (h : S.within (s.held.z.getD 0 0) s.en 32 = false) : func us ls b s l = (-1,3):=by
  unfold func;rw [if_neg hb,if_pos h]
theorem func_none {us : List Nat} {ls : List Sc} {b : Bool} {s : Sc} {l : List Nd} (hb : ¬ (b = true ∧ s.en ≠ 0)) (h : S.within (s.held.z.getD 0 0) s.en 32 = true) (h0 : ∀ i,i < l.length → at_ us ls s l i = 0) : func us ls b s l = (0,0):=by
  unfold func;rw [if_neg hb,if_neg (by rw [h];simp),lI _ _ h0];rfl
theorem func_hit {us : List Nat} {ls : List Sc} {b : Bool} {s : Sc} {l : List Nd} (hb : ¬ (b = true ∧ s.en ≠ 0)) (h : S.within (s.held.z.getD 0 0) s.en 32 = true) {k : Nat} (hk : k < l.length) (h0 : ∀ i,i < k → at_ us ls s l i = 0) (hc : at_ us ls s l k ≠ 0) : func us ls b s l = ((k : Int),at_ us ls s l k):=by
  unfold func;rw [if_neg hb,if_neg (by rw [h];simp),xG _ h0 hc _ hk]
theorem node_call {us : List Nat} {ls : List Sc} {s : Sc} {n : Nd} {h : Nat} (h7 : n.kind = 7) (hw : S.within (ls.getD n.arg.toNat default).en h 32 = false) : node us ls s n h = 5:=if_pos ⟨h7,hw⟩
theorem node_exit {us : List Nat} {ls : List Sc} {s : Sc} {n : Nd} {h : Nat} (h9 : n.kind = 9) (hw : S.within s.ex h 32 = false) : node us ls s n h = 4:=by
  unfold node;rw [if_neg (by rw [h9];simp),if_pos ⟨h9,hw⟩]
def Past (ls : List Sc) (s : Sc) (n : Nd) (h : Nat) : Prop:=¬ (n.kind = 7 ∧ S.within (ls.getD n.arg.toNat default).en h 32 = false) ∧ ¬ (n.kind = 9 ∧ S.within s.ex h 32 = false)
theorem node_bad {us : List Nat} {ls : List Sc} {s : Sc} {n : Nd} {h : Nat} (hp : Past ls s n h) {to : Int} (ht : to ∈ Q.succ n) (hb : badTo us ls s n h to = true) : node us ls s n h = 3:=by
  unfold node;rw [if_neg hp.1,if_neg hp.2,if_pos (List.any_eq_true.2 ⟨to,ht,hb⟩)]
theorem node_fine {us : List Nat} {ls : List Sc} {s : Sc} {n : Nd} {h : Nat} (hp : Past ls s n h) (hb : ∀ to ∈ Q.succ n,badTo us ls s n h to = false) : node us ls s n h = 0:=by
  unfold node
  rw [if_neg hp.1,if_neg hp.2,if_neg]
  intro h1
  obtain ⟨to,h2,h3⟩:=List.any_eq_true.1 h1
  rw [hb to h2] at h3
  cases h3
theorem xA {us : List Nat} {ls : List Sc} {s : Sc} {n : Nd} {h : Nat} : node us ls s n h = 0 ↔
    (n.kind = 7 → S.within (ls.getD n.arg.toNat default).en h 32 = true) ∧ (n.kind = 9 → S.within s.ex h 32 = true) ∧ ∀ to ∈ Q.succ n,S.within (s.held.z.getD to.toNat 0) (behind us ls n h) 32 = true:=by
  constructor
  · intro h0
    by_cases h1 : n.kind = 7 ∧ S.within (ls.getD n.arg.toNat default).en h 32 = false
    · rw [node_call h1.1 h1.2] at h0;cases h0
    by_cases h2 : n.kind = 9 ∧ S.within s.ex h 32 = false
    · rw [node_exit h2.1 h2.2] at h0;cases h0
    refine ⟨fun h7 => ?_,fun h9 => ?_,fun to ht => ?_⟩
    · cases e : S.within (ls.getD n.arg.toNat default).en h 32 with
      | true => rfl
      | false => exact absurd ⟨h7,e⟩ h1
    · cases e : S.within s.ex h 32 with
      | true => rfl
      | false => exact absurd ⟨h9,e⟩ h2
    · cases e : S.within (s.held.z.getD to.toNat 0) (behind us ls n h) 32 with
      | true => rfl
      | false => rw [node_bad ⟨h1,h2⟩ ht (by unfold badTo;rw [e];rfl)] at h0;cases h0
  · rintro ⟨h7,h9,hs⟩
    refine node_fine ⟨fun h1 => ?_,fun h1 => ?_⟩ fun to ht => by unfold badTo;rw [hs to ht];rfl
    · rw [h7 h1.1] at h1;cases h1.2
    · rw [h9 h1.1] at h1;cases h1.2
end Mu
end Go.Proofs.YtlgaefenhfmjfaaDoor
namespace Go.Proofs.YtlgaefenhfmjfaaDoor
open Go.RowKit
theorem zD {ls : List Sc} {f : Nat} {x : Sc} (h : ls[f]? = some x) : Mu.sec ls f = x:=by unfold Mu.sec;rw [List.getD_eq_getElem?_getD,h];rfl
theorem JR {p : Pg} {f : Nat} {x : Fn} (h : p.fns[f]? = some x) : Mu.fn p f = x:=by unfold Mu.fn;rw [List.getD_eq_getElem?_getD,h];rfl
theorem qA {p : Pg} {ls : List Sc} {f : Nat} {x : Sc} {fn : Fn} (h : ls[f]? = some x) (hf : p.fns[f]? = some fn) : Mu.shapedAt p ls f = (decide (x.held.len = fn.len) && decide (x.live.len = fn.len)):=by
  unfold Mu.shapedAt;rw [zD h,JR hf]
theorem yQ {p : Pg} {ls : List Sc} {f : Nat} (hf : f < p.len) (h : Mu.shapedAt p ls f = false) : Mu.shaped p ls = false:=by
  cases e : Mu.shaped p ls with
  | false => rfl
  | true => have:=(Mu.shaped_iff.1 e).2 f hf;rw [h] at this;cases this
set_option maxRecDepth 100000 in
set_option maxHeartbeats 1600000 in
theorem zY (B : Nat) (p : Pg) (w : World) (hp : p.Ok w B) (hB : B ≤ w.heap.size) (lA : Option Addr) (ll lc : Nat) (ls : List Sc) (hl : Secs w B lA ll ls) (hlc : ll ≤ lc) (hlm : lc ≤ maxLen) (r : Bool) (hr : Mu.shaped p ls = r) :
    Calls Tryd.prog 11 #[pgA p,.slice lA ll lc] w fun e w' => e = .returned (.bool r) ∧ Below w.heap.size w w':=by
  have HP:=kp hp;have HL:=kp hl;have HR:=kp hr
  have HLl:=kp hl.len_
  have HLen:=kp hp.row.len
  have hpc:=hp.lc;have hpm:=hp.cm
  unfold maxLen at hpm hlm
  clear hp hl hr
  rw [jT]
  go_enter Tryd.func11,Tryd.ntmps11
  by_cases hlen : ll = p.len
  rotate_left
  · have hb : ((ll : Int) != (p.len : Int)) = true:=by simp;omega
    have HE : Kept (false = r):=kp (by
      rw [← HR.out]
      cases e : Mu.shaped p ls with
      | false => rfl
      | true => have h1:=(Mu.shaped_iff.1 e).1;rw [HLl.out] at h1;exact absurd h1 hlen)
    clear hlen
    go_wp2_with (first
      | ((with_reducible refine j4 rfl 24 (.tmp 0) rfl (pgC p) rfl ?_);intro g1 w1 hg1 hk1 hw1;have HW1:=kp hw1;obtain ⟨hc0,hc1,hc2,hc3⟩:=j8 hk1;clear hg1 hk1 hw1))
    go_ret
    exact ⟨jC HE.out,HW1.out⟩
  subst hlen
  have hb : ((p.len : Int) != (p.len : Int)) = false:=by simp
  go_wp2_with (first
    | ((with_reducible refine j4 rfl 24 (.tmp 0) rfl (pgC p) rfl ?_);intro g1 w1 hg1 hk1 hw1;have HW1:=kp hw1;obtain ⟨hc0,hc1,hc2,hc3⟩:=j8 hk1;have HP1:=kp (HP.out.below (hw1.mono hB));have HL1:=kp (HL.out.below (hw1.mono hB));clear hg1 hk1 hw1))
  go_loop [16] (fun v16 => ∃ i : Nat,i ≤ p.len ∧ v16 = .int .i64 i ∧ ∀ f,f < i → Mu.shapedAt p ls f = true) (fun v16 => p.len - (intOf v16).toNat)
  case atStart => exact ⟨0,by omega,rfl,fun f hf => by omega⟩
  case round =>
    obtain ⟨i,hi,rfl,hall⟩:=hrel
    have HAll:=kp hall
    clear hall hc0 hc1 hc2 hc3
    by_cases hlt : i < p.len
    · obtain ⟨ad,fn,e0,_,hfn,hfok,hcf⟩:=HP1.out.fn hlt
      obtain ⟨ad1,x,e1,_,hx,hxok,hd0,hd1,hd2,hd5⟩:=HL1.out.get hlt
      have hfl:=hfok.lc;have hfm:=hfok.cm
      unfold maxLen at hfm
      have hh:=hxok.held.lc;have hhm:=hxok.held.cm
      have hv:=hxok.live.lc;have hvm:=hxok.live.cm
      unfold maxLen at hhm hvm
      have HAt:=kp (qA hx hfn)
      clear hfn hfok hx hxok
      subst e1
      rw [e0]
      by_cases h1 : x.held.len = fn.len
      · have h1b : ((x.held.len : Int) != (fn.len : Int)) = false:=by rw [h1];simp
        by_cases h2 : x.live.len = fn.len
        · have h2b : ((x.live.len : Int) != (fn.len : Int)) = false:=by rw [h2];simp
          have HOk : Kept (Mu.shapedAt p ls i = true):=kp (by rw [HAt.out,h1,h2];simp)
          clear h1 h2
          go_wp2
          go_round
          case rel => exact ⟨i + 1,by omega,by go_num,fun f hf => by
            by_cases e : f = i
            · subst e;exact HOk.out
            · exact HAll.out f (by omega)⟩
          case measure => simp [intOf];omega
        · have h2b : ((x.live.len : Int) != (fn.len : Int)) = true:=by simp;omega
          have HE : Kept (false = r):=kp (by rw [← HR.out];exact (yQ hlt (by rw [HAt.out];simp [h2])).symm)
          clear h1 h2
          go_wp2
          go_ret
          exact ⟨jC HE.out,HW1.out⟩
      · have h1b : ((x.held.len : Int) != (fn.len : Int)) = true:=by simp;omega
        have HE : Kept (false = r):=kp (by rw [← HR.out];exact (yQ hlt (by rw [HAt.out];simp [h1])).symm)
        clear h1
        go_wp2
        go_ret
        exact ⟨jC HE.out,HW1.out⟩
    · have HE : Kept (true = r):=kp (by rw [← HR.out];exact (Mu.shaped_iff.2 ⟨HLl.out,fun f hf => HAll.out f (by omega)⟩).symm)
      have hge : p.len ≤ i:=by omega
      clear hlt
      go_wp2
      go_ret
      exact ⟨jC HE.out,HW1.out⟩
theorem JI (n : Nat) : (2 : Int) ^ n = ((2 ^ n : Nat) : Int):=(Int.natCast_pow 2 n).symm
theorem LH (x : Nat) : (((x : Nat) : Int) != 0) = decide (x ≠ 0):=by rw [Bool.eq_iff_iff];simp
theorem LO (x : Nat) : (((x : Nat) : Int) == 0) = decide (x = 0):=by rw [Bool.eq_iff_iff];simp
set_option maxRecDepth 100000 in
set_option maxHeartbeats 800000 in
theorem lK (id : Int) (hid : -9223372036854775808 ≤ id ∧ id ≤ 9223372036854775807) (m : Nat) (hm : S.one id = m) (w : World) :
    Calls Tryd.prog 20 #[.int .i64 id] w fun e w' => e = .returned (.int .u32 (m : Int)) ∧ w = w':=by
  have HM:=kp hm;clear hm
  obtain ⟨hid1,hid2⟩:=hid
  by_cases h : id < 0
  · have HF : Kept (0 = m):=kp <| by rw [← HM.out,S.one_out id (.inl h)]
    go_enter Tryd.func20,Tryd.ntmps20
    go_wp2
    go_ret
    exact ⟨lR (by rw [← HF.out];rfl),rfl⟩
  · by_cases h2 : 31 < id
    · have HF : Kept (0 = m):=kp <| by rw [← HM.out,S.one_out id (.inr h2)]
      go_enter Tryd.func20,Tryd.ntmps20
      go_wp2
      go_ret
      exact ⟨lR (by rw [← HF.out];rfl),rfl⟩
    · obtain ⟨n,rfl⟩ : ∃ n : Nat,id = (n : Int):=⟨id.toNat,by omega⟩
      have hn : n ≤ 31:=by omega
      have HF : Kept (2 ^ n = m):=kp <| by rw [← HM.out,S.one_nat n hn]
      have hp:=zT n hn
      clear h h2 hid1 hid2
      go_enter Tryd.func20,Tryd.ntmps20
      go_wp2
      go_ret
      refine ⟨lR ?_,rfl⟩
      rw [← HF.out,JI]
      generalize 2 ^ n = p at *
      omega
set_option maxRecDepth 100000 in
set_option maxHeartbeats 800000 in
theorem zI (m : Nat) (hm : m < 4294967296) (id : Int) (hid : -9223372036854775808 ≤ id ∧ id ≤ 9223372036854775807) (b : Bool) (hb : S.has m id = b) (w : World) :
    Calls Tryd.prog 39 #[.int .u32 (m : Int),.int .i64 id] w fun e w' => e = .returned (.bool b) ∧ w = w':=by
  have HB : Kept (decide ((m &&& S.one id) ≠ 0) = b):=kp <| by rw [← hb,S.has_one]
  have HI:=kp hid
  have ho:=S.one_lt id
  obtain ⟨o,he⟩ : ∃ o,S.one id = o:=⟨_,rfl⟩
  have HE:=kp he
  rw [he] at ho
  have HA : Kept (decide ((m &&& o) ≠ 0) = b):=kp <| by rw [← HE.out];exact HB.out
  have HBits : Kept (bits .and .u32 (m : Int) (o : Int) = ((m &&& o : Nat) : Int)):=kp <| u32_and_nat m o hm ho
  clear he hb hid
  go_enter Tryd.func39,Tryd.ntmps39
  go_wp2_with (go_at_call 20;go_must (refine (lK id HI.out o HE.out _).mono ?_);rintro e w' ⟨rfl,rfl⟩)
  go_ret
  refine ⟨jC ?_,rfl⟩
  rw [← HA.out]
  rw [HBits.out,LH]
set_option maxRecDepth 100000 in
set_option maxHeartbeats 800000 in
theorem jM (a b : Nat) (ha : a < 4294967296) (hb : b < 4294967296) (r : Bool) (hr : S.within a b 32 = r) (w : World) :
    Calls Tryd.prog 40 #[.int .u32 (a : Int),.int .u32 (b : Int)] w fun e w' => e = .returned (.bool r) ∧ w = w':=by
  have HA : Kept (decide ((a &&& (4294967295 - b)) = 0) = r):=kp <| by rw [← hr,S.within_not a b ha hb]
  have HBits : Kept (bits .andNot .u32 (a : Int) (b : Int) = ((a &&& (4294967295 - b) : Nat) : Int)):=kp <| u32_andNot_nat a b ha hb
  clear hr
  go_enter Tryd.func40,Tryd.ntmps40
  go_wp2
  go_ret
  refine ⟨jC ?_,rfl⟩
  rw [← HA.out]
  rw [HBits.out,LO]
set_option maxRecDepth 100000 in
set_option maxHeartbeats 800000 in
theorem zP (m : Nat) (hm : m < 4294967296) (h0 : m ≠ 0) (r : Nat) (hr : S.rest m = r) (w : World) :
    Calls Tryd.prog 77 #[.int .u32 (m : Int)] w fun e w' => e = .returned (.int .u32 (r : Int)) ∧ w = w':=by
  have HA : Kept ((m &&& (m - 1)) = r):=kp <| by rw [← hr];rfl
  have HBits : Kept (bits .and .u32 (m : Int) ((m : Int) - 1) = ((m &&& (m - 1) : Nat) : Int)):=kp <| by rw [← u32_and_nat m (m - 1) hm (by omega)];congr 1;omega
  clear hr
  go_enter Tryd.func77,Tryd.ntmps77
  go_wp2
  go_ret
  refine ⟨lR ?_,rfl⟩
  rw [← HA.out]
  exact HBits.out
structure Cl where
  A : Option Addr
  ll : Nat
  lc : Nat
  ls : List Sc
  uA : Option Addr
  ul : Nat
  uc : Nat
  us : List Nat
  m : Nat
def clC (c : Cl) : List Value:=[.slice c.A c.ll c.lc,.slice c.uA c.ul c.uc,.int .u32 (c.m : Int)]
def clA (c : Cl) : Value:=.agg #[.slice c.A c.ll c.lc,.slice c.uA c.ul c.uc,.int .u32 (c.m : Int)]
theorem uB (c : Cl) : clA c = .agg (clC c).toArray:=rfl
theorem lV : (Tryd.prog.info? 68).map (·.size) = some 3:=by kernel_rfl
theorem jP {w : World} {g : Nat} {t : TypeId} {c : Cl} (h : Blk w g t (clC c)) :
    w.cell? ⟨g,0,none⟩ = some (.slice c.A c.ll c.lc) ∧ w.cell? ⟨g,1,none⟩ = some (.slice c.uA c.ul c.uc) ∧ w.cell? ⟨g,2,none⟩ = some (.int .u32 (c.m : Int)):=⟨h.cell 0,h.cell 1,h.cell 2⟩
theorem LQ (c : Cl) : ∀ u ∈ clC c,u.oneCell' = true:=by
  intro u hu
  simp only [clC,List.mem_cons,List.not_mem_nil,or_false] at hu
  rcases hu with h | h | h <;> subst h <;> rfl
structure Cl.Ok (c : Cl) (w : World) (B : Nat) : Prop where
  secs : Secs w B c.A c.ll c.ls
  lc : c.ll ≤ c.lc
  lm : c.lc ≤ maxLen
  row : Row wordV w B c.uA c.ul c.us
  u32 : ∀ x ∈ c.us,x < 4294967296
  uc : c.ul ≤ c.uc
  um : c.uc ≤ maxLen
  m : c.m < 4294967296
  same : c.ul = c.ll
theorem Cl.Ok.below {c : Cl} {w w' : World} {B : Nat} (h : c.Ok w B) (hb : Below B w w') : c.Ok w' B:=⟨h.secs.below hb,h.lc,h.lm,h.row.below hb,h.u32,h.uc,h.um,h.m,h.same⟩
theorem Cl.Ok.more {c : Cl} {w : World} {B B2 : Nat} (h : c.Ok w B) (hB : B ≤ B2) : c.Ok w B2:=⟨h.secs.more hB,h.lc,h.lm,h.row.more hB,h.u32,h.uc,h.um,h.m,h.same⟩
def CallFit (c : Cl) (n : Nd) : Prop:=n.kind = 7 → ∃ k : Nat,n.arg = (k : Int) ∧ k < c.ll
set_option maxRecDepth 100000 in
set_option maxHeartbeats 3200000 in
theorem q4 (B : Nat) (c : Cl) (n : Nd) (hn : n.Ok) (h : Nat) (hh : h < 4294967296) (w : World) (hc : c.Ok w B) (hB : B ≤ w.heap.size) (hf : CallFit c n) (r : Nat) (hr : Mu.behind c.us c.ls n h = r) :
    Calls Tryd.prog 68 #[clA c,ndA n,.int .u32 (h : Int)] w fun e w' => e = .returned (.int .u32 (r : Int)) ∧ Below w.heap.size w w':=by
  have HC:=kp hc;have HR:=kp hr;have HNi:=kp hn.arg
  have hlc:=hc.lc;have hlm:=hc.lm;have huc:=hc.uc;have hum:=hc.um
  have hsm:=hc.same
  unfold maxLen at hlm hum
  clear hc hr
  rw [uB,show ndA n = .agg (ndC n).toArray from rfl]
  obtain ⟨q,hq⟩ : ∃ q,S.one n.arg = q:=⟨_,rfl⟩
  have hq32 : q < 4294967296:=by rw [← hq];exact S.one_lt _
  have HQ:=kp hq
  go_enter Tryd.func68,Tryd.ntmps68
  by_cases h3 : n.kind = 3
  · have hk : (n.kind == 3) = true:=by simpa using h3
    have HE : Kept (h ||| q = r):=kp (by rw [← HR.out,← hq];unfold Mu.behind;rw [if_pos h3])
    have hor : bits .or .u32 (h : Int) (q : Int) = ((h ||| q : Nat) : Int):=u32_or_nat h q hh hq32
    clear h3 hq
    go_wp2_with (first
      | ((with_reducible refine j4 rfl 68 (.tmp 0) rfl (clC c) rfl ?_);intro g1 w1 hg1 hk1 hw1;have HW1:=kp hw1;have hs1:=hw1.size;clear hg1 hk1 hw1)
      | ((with_reducible refine j4 rfl 63 (.tmp 1) rfl (ndC n) rfl ?_);intro g2 w2 hg2 hk2 hw2;obtain ⟨hc0,hc1,hc2,hc3⟩:=jB hk2;have HW2:=kp (HW1.out.trans (hw2.mono hs1));clear hg2 hk2 hw2)
      | (go_at_call 20;go_must (refine (lK n.arg HNi.out q HQ.out _).mono ?_);rintro e w3 ⟨rfl,rfl⟩))
    go_ret
    exact ⟨by rw [← HE.out];rfl,HW2.out⟩
  have hk3 : (n.kind == 3) = false:=by simpa using h3
  by_cases h4 : n.kind = 4
  · have hk : (n.kind == 4) = true:=by simpa using h4
    have HE : Kept (h &&& (4294967295 - q) = r):=kp (by rw [← HR.out,← hq];unfold Mu.behind;rw [if_neg h3,if_pos h4])
    have hor : bits .andNot .u32 (h : Int) (q : Int) = ((h &&& (4294967295 - q) : Nat) : Int):=u32_andNot_nat h q hh hq32
    clear h3 h4 hq
    go_wp2_with (first
      | ((with_reducible refine j4 rfl 68 (.tmp 0) rfl (clC c) rfl ?_);intro g1 w1 hg1 hk1 hw1;have HW1:=kp hw1;have hs1:=hw1.size;clear hg1 hk1 hw1)
      | ((with_reducible refine j4 rfl 63 (.tmp 1) rfl (ndC n) rfl ?_);intro g2 w2 hg2 hk2 hw2;obtain ⟨hc0,hc1,hc2,hc3⟩:=jB hk2;have HW2:=kp (HW1.out.trans (hw2.mono hs1));clear hg2 hk2 hw2)
      | (go_at_call 20;go_must (refine (lK n.arg HNi.out q HQ.out _).mono ?_);rintro e w3 ⟨rfl,rfl⟩))
    go_ret
    exact ⟨by rw [← HE.out];rfl,HW2.out⟩
  have hk4 : (n.kind == 4) = false:=by simpa using h4
  by_cases h7 : n.kind = 7
  · have hk : (n.kind == 7) = true:=by simpa using h7
    obtain ⟨k,hka,hkl⟩:=hf h7
    have HE : Kept ((h &&& (4294967295 - c.us.getD k 0)) ||| (c.ls.getD k default).ex = r):=kp (by rw [← HR.out];unfold Mu.behind;rw [if_neg h3,if_neg h4,if_pos h7,hka,Int.toNat_natCast])
    go_wp2_with (first
      | ((with_reducible refine j4 rfl 68 (.tmp 0) rfl (clC c) rfl ?_);intro g1 w1 hg1 hk1 hw1;have HK1:=kp hk1;have HW1:=kp hw1;have hs1:=hw1.size;clear hg1 hk1 hw1)
      | ((with_reducible refine j4 rfl 63 (.tmp 1) rfl (ndC n) rfl ?_);intro g2 w2 hg2 hk2 hw2;have HK2:=kp hk2;have HK12:=kp (HK1.out.below hw2 HK1.out.lt);obtain ⟨hc0,hc1,hc2,hc3⟩:=jB hk2;have HW2:=kp (HW1.out.trans (hw2.mono hs1));clear hg2 hk2 hw2))
    obtain ⟨hu0,hu1,hu2⟩:=jP HK12.out
    obtain ⟨ad,x,e0,_,hx,hxok,hd0,hd1,hd2,hd5⟩:=(HC.out.below (HW2.out.mono hB)).secs.get hkl
    obtain ⟨ad1,y,e1,_,hy,hcy⟩:=(HC.out.below (HW2.out.mono hB)).row.get (k:=k) (by omega)
    rw [l4] at hcy
    have hx2 : c.ls.getD k default = x:=by rw [List.getD_eq_getElem?_getD,hx];rfl
    have hy2 : c.us.getD k 0 = y:=by rw [List.getD_eq_getElem?_getD,hy];rfl
    have hy32 : y < 4294967296:=HC.out.u32 y (List.mem_of_getElem? hy)
    have hx32:=hxok.ex
    have hkul : (k : Int) < (c.ul : Int):=by omega
    have hkll : (k : Int) < (c.ll : Int):=by omega
    have HE2 : Kept ((h &&& (4294967295 - y)) ||| x.ex = r):=kp (by rw [← HE.out,hx2,hy2])
    rw [e0] at hu0
    rw [e1] at hu1
    rw [hka] at hc1
    have hand : bits .andNot .u32 (h : Int) (y : Int) = ((h &&& (4294967295 - y) : Nat) : Int):=u32_andNot_nat h y hh hy32
    have hlt : h &&& (4294967295 - y) < 4294967296:=Nat.lt_of_le_of_lt Nat.and_le_left hh
    obtain ⟨z,hz⟩ : ∃ z,h &&& (4294967295 - y) = z:=⟨_,rfl⟩
    rw [hz] at hand hlt HE2
    have hor : bits .or .u32 (z : Int) (x.ex : Int) = ((z ||| x.ex : Nat) : Int):=u32_or_nat z x.ex hlt hx32
    clear h3 h4 h7 hx hxok hy hx2 hy2 hka hz hq e0 e1
    go_wp2
    refine wp_region_quiet_lit (by kernel_rfl) (by kernel_rfl) ?_
    iterate 17 (go_big_quiet_step (fail))
    refine wpQuiet_nil ?_
    intro _ hw'
    obtain ⟨nq,hw''⟩:=hw'
    subst hw''
    have HD:=kp (below_drewN HW2.out nq)
    clear hd0 hd1 hd2 hd5 hc0 hc1 hc2 hc3 hu0 hu1 hu2 hcy hand hor
    go_wp2
    go_ret
    exact ⟨by rw [← HE2.out];rfl,HD.out⟩
  · have hk7 : (n.kind == 7) = false:=by simpa using h7
    have HE : Kept (h = r):=kp (by rw [← HR.out];unfold Mu.behind;rw [if_neg h3,if_neg h4,if_neg h7])
    clear h3 h4 h7 hq
    go_wp2_with (first
      | ((with_reducible refine j4 rfl 68 (.tmp 0) rfl (clC c) rfl ?_);intro g1 w1 hg1 hk1 hw1;have HW1:=kp hw1;have hs1:=hw1.size;clear hg1 hk1 hw1)
      | ((with_reducible refine j4 rfl 63 (.tmp 1) rfl (ndC n) rfl ?_);intro g2 w2 hg2 hk2 hw2;obtain ⟨hc0,hc1,hc2,hc3⟩:=jB hk2;have HW2:=kp (HW1.out.trans (hw2.mono hs1));clear hg2 hk2 hw2))
    go_ret
    exact ⟨by rw [← HE.out];rfl,HW2.out⟩
theorem Own.split {w : World} {B n : Nat} {e : TypeId} {v : Value} {bs : List Nat} (h : Own w B e v (bs.map byteV)) (hn : bs.length = n) :
    ∃ (A : Option Addr) (c : Nat),v = .slice A n c ∧ n ≤ c ∧ c ≤ maxLen ∧ Row byteV w w.heap.size A n bs ∧ (∀ ad : Addr,A = some ad → B ≤ ad.block ∧ ad.block < w.heap.size) ∧
      (0 < n → ∃ (g : Nat) (cur : List Value),A = some ⟨g,0,none⟩ ∧ Blk w g e cur ∧ n ≤ cur.length ∧ ∀ (k x : Nat),bs[k]? = some x → cur[k]? = some (byteV x)):=by
  obtain ⟨A,c,rfl,hc,hm,hr⟩:=h.bytesN hn
  refine ⟨A,c,rfl,hc,hm,hr,fun ad e1 => ?_,fun h0 => ?_⟩
  · subst e1
    exact h.block ad.block rfl
  · rcases h.2 with ⟨hv,hz⟩ | ⟨g,cap,cur,hv,_,hg,_,_,_,ht⟩
    · rw [List.length_map] at hz;omega
    · injection hv with e1 e2 e3
      subst e1
      refine ⟨g,cur.toList,rfl,by unfold Blk;simpa using hg,?_,fun k x hx => ?_⟩
      · have:=congrArg List.length ht
        rw [List.length_take,List.length_map] at this
        omega
      · have hk : k < n:=by rw [← hn];exact (List.getElem?_eq_some_iff.1 hx).1
        have h2 : (List.map byteV bs)[k]? = some (byteV x):=by rw [List.getElem?_map,hx];rfl
        rw [← ht,List.getElem?_take,List.length_map,hn,Nat.mul_one,if_pos hk] at h2
        exact h2
theorem qJ {P : Program} {ops : Array Oper} {rest : List Oper} {o : Oper} {a : Act} {w : World} {Q : Exit → Act → World → Prop} (hgd : Region.wanted o (yielded ops a.tmps) = true) (ty : TypeId) (x hi : Operand) (ho : o.op = .slice ty x none (some hi) none)
    (e : TypeId) (hu : P.underlying ty = some (.slice e)) (hsz : (P.info? e).map (·.size) = some 1) (A : Option Addr) (n c : Nat) (hx : a.eval x = .slice A n c) (k : IntKind) (m : Nat) (hl : a.eval hi = .int k (m : Int)) (hmc : m ≤ c)
    (h : wpList P ops Q rest (a.put o.dst (.slice A m c)) w) : wpList P ops Q (o :: rest) a w:=by
  refine BigFrame.wpList_want hgd fun K hK => ?_
  have hel : P.elem ty = e:=by simp [Program.elem,hu]
  have h1:=run_slice_h (P:=P) w ty A n c (by rw [hel];exact hu) k (m : Int) (by omega) (by omega)
  have h2:=run_sliceAt_slice (P:=P) w ty (.slice A n c) none (some (.int k (m : Int))) none (by rw [hel];exact hu)
  rw [h1] at h2
  cases hq : P.info? e with
  | none => simp [hq] at hsz
  | some ie =>
    have hs : ie.size = 1:=by simpa [hq] using hsz
    have hso : (sizeOf e).run P w = .ok 1 w:=by simp [sizeOf,typeInfo,hq,hs]
    have hk:=hK _ _ h
    have e0 : (if c = 0 then A else Option.map (fun x => x.add 0) A) = A:=by
      split
      · rfl
      · cases A <;> simp [Addr.add]
    unfold Oper.wp execOp
    simp only [ho,hx,hl,Option.map_some,Option.map_none,h2,Sem.run_bind,Sem.run_pure,hel,hso,sliced,Result.andThen_ok,Int.toNat_natCast,Nat.zero_mul,Nat.sub_zero,e0]
    exact hk
structure Held (S : Nat → Prop) (w w' : World) : Prop where
  os : w'.os = w.os
  tape : w'.tape = w.tape
  output : w'.output = w.output
  size : w.heap.size ≤ w'.heap.size
  block : ∀ k,S k → w'.heap[k]? = w.heap[k]?
theorem Held.refl (S : Nat → Prop) (w : World) : Held S w w:=⟨rfl,rfl,rfl,Nat.le_refl _,fun _ _ => rfl⟩
theorem Held.trans {S : Nat → Prop} {w w1 w2 : World} (h : Held S w w1) (k : Held S w1 w2) : Held S w w2 :=
  ⟨k.os.trans h.os,k.tape.trans h.tape,k.output.trans h.output,Nat.le_trans h.size k.size,fun i hi => (k.block i hi).trans (h.block i hi)⟩
theorem Held.less {S S' : Nat → Prop} {w w' : World} (h : Held S w w') (hS : ∀ k,S' k → S k) : Held S' w w':=⟨h.os,h.tape,h.output,h.size,fun k hk => h.block k (hS k hk)⟩
theorem Held.below {B : Nat} {w w' : World} (h : Held (· < B) w w') : Below B w w':=⟨h.os,h.tape,h.output,h.size,h.block⟩
theorem Held.of_below {S : Nat → Prop} {B : Nat} {w w' : World} (h : Below B w w') (hS : ∀ k,S k → k < B) : Held S w w':=⟨h.os,h.tape,h.output,h.size,fun k hk => h.block k (hS k hk)⟩
theorem Held.of_grown {S : Nat → Prop} {row : Option Nat} {w w' : World} (h : w.grownBy w' row) (hS : ∀ k,S k → k < w.heap.size ∧ some k ≠ row) : Held S w w' :=
  ⟨h.os,h.tape,h.output,h.size,fun k hk => h.block k (hS k hk).1 (hS k hk).2⟩
theorem Held.cell {S : Nat → Prop} {w w' : World} (h : Held S w w') (p : Addr) (hp : S p.block) : w'.cell? p = w.cell? p:=World.cell?_of_block (w:=w) (h.block p.block hp)
theorem Held.drewN {S : Nat → Prop} {w w' : World} (h : Held S w w') (n : Nat) : Held S w (w'.drewN n):=⟨h.os,h.tape,h.output,h.size,h.block⟩
theorem Row.heldAt {α : Type} {f : α → Value} {w w' : World} {B n : Nat} {A : Option Addr} {l : List α} {S : Nat → Prop} (h : Row f w B A n l) (hb : Held S w w') (hS : ∀ ad,0 < n → A = some ad → S ad.block) : Row f w' B A n l :=
  ⟨h.len,fun hn => by
    obtain ⟨ad,e,hB,hc⟩:=h.cells hn
    exact ⟨ad,e,hB,fun k hlt => (hb.cell _ (by rw [add_block];exact hS ad hn e)).trans (hc k hlt)⟩⟩
theorem Blk.held {S : Nat → Prop} {w w' : World} {g : Nat} {t : TypeId} {cs : List Value} (h : Blk w g t cs) (hb : Held S w w') (hg : S g) : Blk w' g t cs:=by
  unfold Blk;rw [hb.block g hg];exact h
theorem Own.heldAt {S : Nat → Prop} {w w' : World} {B : Nat} {e : TypeId} {v : Value} {xs : List Value} (h : Own w B e v xs) (hb : Held S w w') (hS : ∀ k,v.ownBlock = some k → S k) : Own w' B e v xs:=by
  refine ⟨h.1,?_⟩
  rcases h.2 with h1 | ⟨g,cap,cur,hv,hB,hg,rest⟩
  · exact .inl h1
  · exact .inr ⟨g,cap,cur,hv,hB,by rw [hb.block g (hS g (by rw [hv];rfl))];exact hg,rest⟩
theorem Own.front {w : World} {B : Nat} {e : TypeId} {A : Option Addr} {n c : Nat} {xs : List Value} (h : Own w B e (.slice A n c) xs) {m : Nat} (hm : m ≤ n) : Own w B e (.slice A m c) (xs.take m):=by
  have hl : xs.length = n:=by
    rcases h.2 with ⟨hv,hz⟩ | ⟨g,cap,cur,hv,_,_,_,_,_,_⟩
    · injection hv with _ e2 _;omega
    · injection hv with _ e2 _;omega
  rcases h.2 with ⟨hv,hz⟩ | ⟨g,cap,cur,hv,hB,hg,hn,hcm,hs,ht⟩
  · injection hv with e1 e2 e3
    have h0 : m = 0:=by omega
    subst e1 e3 h0
    rw [List.take_zero]
    exact Own.nil w B e
  · injection hv with e1 e2 e3
    subst e1 e3
    refine ⟨by simp,.inr ⟨g,c,cur,?_,hB,hg,?_,hcm,hs,?_⟩⟩
    · rw [List.length_take,Nat.min_eq_left (by omega)]
    · rw [List.length_take];omega
    · rw [Nat.mul_one,List.length_take,Nat.min_eq_left (by omega)]
      rw [Nat.mul_one] at ht
      rw [← ht,List.take_take,Nat.min_eq_left (by omega)]
theorem Own.blk {w : World} {B : Nat} {e : TypeId} {v : Value} {xs : List Value} (h : Own w B e v xs) (h0 : 0 < xs.length) :
    ∃ (r c : Nat) (cur : List Value),v = .slice (some ⟨r,0,none⟩) xs.length c ∧ Blk w r e cur ∧ cur.length = c ∧ xs.length ≤ c ∧ c ≤ maxLen ∧ cur.take xs.length = xs ∧ B ≤ r:=by
  rcases h.2 with ⟨_,hz⟩ | ⟨g,cap,cur,hv,hB,hg,hn,hcm,hs,ht⟩
  · omega
  · exact ⟨g,cap,cur.toList,hv,by unfold Blk;simpa using hg,by simpa using hs,hn,hcm,by simpa using ht,hB⟩
def Var (w : World) (S : Nat → Prop) (g : Nat) (t e : TypeId) (xs : List Value) : Prop :=
  ∃ v,Blk w g t [v] ∧ Own w 0 e v xs ∧ v.ownBlock ≠ some g ∧ ¬ S g ∧ (∀ k,v.ownBlock = some k → ¬ S k) ∧ ∀ k,S k → k < w.heap.size
theorem Var.kept {w w' : World} {S S' : Nat → Prop} {g : Nat} {t e : TypeId} {xs : List Value} {row : Option Nat} (h : Var w S g t e xs) (hg : w.grownBy w' row) (hr : ∀ k,row = some k → S k) (hS : ∀ k,S' k → S k ∨ (w.heap.size ≤ k ∧ k < w'.heap.size)) : Var w' S' g t e xs:=by
  obtain ⟨v,h1,h2,h3,h4,h5,h6⟩:=h
  have hgl:=h1.lt
  refine ⟨v,h1.grown hg (fun e1 => h4 (hr g e1.symm)),h2.far hg ?_,h3,fun hs => ?_,fun k hk hs => ?_,fun k hk => ?_⟩
  · cases hv : v.ownBlock with
    | none => exact .inl rfl
    | some k => exact .inr fun e1 => h5 k hv (hr k e1.symm)
  · rcases hS g hs with h | h
    · exact h4 h
    · omega
  · have:=(h2.block k hk).2
    rcases hS k hs with h | h
    · exact h5 k hk h
    · omega
  · have:=hg.size
    rcases hS k hk with h | h
    · have:=h6 k h;omega
    · exact h.2
theorem Var.below {w w' : World} {S S' : Nat → Prop} {g : Nat} {t e : TypeId} {xs : List Value} (h : Var w S g t e xs) (hb : Below w.heap.size w w') (hS : ∀ k,S' k → S k ∨ (w.heap.size ≤ k ∧ k < w'.heap.size)) : Var w' S' g t e xs :=
  h.kept (yD hb none) (fun k hk => by cases hk) hS
theorem Var.less {w : World} {S S' : Nat → Prop} {g : Nat} {t e : TypeId} {xs : List Value} (h : Var w S g t e xs) (hS : ∀ k,S' k → S k) : Var w S' g t e xs:=by
  obtain ⟨v,h1,h2,h3,h4,h5,h6⟩:=h
  exact ⟨v,h1,h2,h3,fun h => h4 (hS _ h),fun k hk h => h5 k hk (hS _ h),fun k h => h6 k (hS _ h)⟩
theorem Var.drewN {w : World} {S : Nat → Prop} {g : Nat} {t e : TypeId} {xs : List Value} (h : Var w S g t e xs) (n : Nat) : Var (w.drewN n) S g t e xs:=h.below (below_drewN (Below.refl _ _) n) fun _ h => .inl h
theorem Var.not {w : World} {S : Nat → Prop} {g : Nat} {t e : TypeId} {xs : List Value} (h : Var w S g t e xs) : ¬ S g:=by
  obtain ⟨v,_,_,_,h4,_⟩:=h
  exact h4
theorem Var.lt {w : World} {S : Nat → Prop} {g : Nat} {t e : TypeId} {xs : List Value} (h : Var w S g t e xs) : ∀ k,S k → k < w.heap.size:=by
  obtain ⟨v,_,_,_,_,_,h6⟩:=h
  exact h6
theorem Var.opens {α : Type} {f : α → Value} {w : World} {S : Nat → Prop} {g : Nat} {t e : TypeId} {l : List α} {n : Nat} (h : Var w S g t e (l.map f)) (hn : l.length = n) :
    ∃ A c,w.cell? ⟨g,0,none⟩ = some (.slice A n c) ∧ Blk w g t [.slice A n c] ∧ n ≤ c ∧ c ≤ maxLen ∧ Row f w w.heap.size A n l ∧ Own w 0 e (.slice A n c) (l.map f) ∧
      (0 < n → ∃ r cur,A = some ⟨r,0,none⟩ ∧ Blk w r e cur ∧ cur.length = c ∧ cur.take n = l.map f ∧ r ≠ g ∧ ¬ S r):=by
  obtain ⟨v,h1,h2,h3,h4,h5,h6⟩:=h
  obtain ⟨A,c,rfl,hc,hm,hr⟩:=h2.readsN hn
  refine ⟨A,c,h1.cell 0,h1,hc,hm,hr,h2,fun h0 => ?_⟩
  obtain ⟨r,c2,cur,hv,hb,hcl,_,_,ht,_⟩:=h2.blk (by rw [List.length_map];omega)
  injection hv with e1 e2 e3
  subst e1 e3
  rw [List.length_map,hn] at ht
  exact ⟨r,cur,rfl,hb,hcl,ht,fun e1 => h3 (by rw [e1];rfl),h5 r rfl⟩
end Go.Proofs.YtlgaefenhfmjfaaDoor
