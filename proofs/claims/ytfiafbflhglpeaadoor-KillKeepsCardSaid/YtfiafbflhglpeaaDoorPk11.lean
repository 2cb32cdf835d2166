/- SemMath, SemMath2, KillRun, Owns, Make, SemIn, SemP1, SemP2. -/
import Derived.Test.YtfiafbflhglpeaaDoorPk4
import Derived.Test.YtfiafbflhglpeaaDoorPk6
import Derived.Test.YtfiafbflhglpeaaDoorPk1
import Derived.Test.YtfiafbflhglpeaaDoorPk2
import Derived.Test.YtfiafbflhglpeaaDoorPk8
import Derived.BigQuiet
import Derived.Deep.QuietTactic
namespace Go.Proofs.YtfiafbflhglpeaaDoor.M
structure Th where
  stack : List (Nat × Nat)
  slots : List Nat
instance : Inhabited Th:=⟨⟨[],[]⟩⟩
structure Cf where
  ths : List Th
  owners : List Nat
def start : Cf:=⟨[⟨[(0,0)],List.replicate 8 0⟩],List.replicate 16 0⟩
def th (c : Cf) (t : Nat) : Th:=c.ths.getD t default
def livesN (c : Cf) (t : Nat) : Bool:=decide (0 < (th c t).stack.length)
def lives (c : Cf) (t : Int) : Bool:=decide (0 ≤ t) && livesN c t.toNat
def top (s : List (Nat × Nat)) : Nat × Nat:=s.getD (s.length - 1) (0,0)
def nodeAt (p : Pg) (x : Nat × Nat) : Nd:=(p.fns.getD x.1 default).nodes.getD x.2 default
def node (p : Pg) (c : Cf) (t : Nat) : Nd:=nodeAt p (top (th c t).stack)
def enabledN (p : Pg) (c : Cf) (t : Nat) : Bool :=
  livesN c t &&
    (if (node p c t).kind = 3 then decide (c.owners.getD (node p c t).arg.toNat 0 = 0)
     else if (node p c t).kind = 6 then !lives c (((th c t).slots.getD (node p c t).arg.toNat 0 : Int) - 1)
     else if (node p c t).kind = 5 then decide (c.ths.length < 8) else true)
def enabled (p : Pg) (c : Cf) (t : Int) : Bool:=decide (0 ≤ t) && enabledN p c t.toNat
def goOn (s : List (Nat × Nat)) (n : Nat) : List (Nat × Nat):=s.set (s.length - 1) ((top s).1,n)
def act (c : Cf) (t : Nat) (n : Nd) (way : Bool) : Cf :=
  if n.kind = 9 then ⟨c.ths.set t ⟨(th c t).stack.take ((th c t).stack.length - 1),(th c t).slots⟩,c.owners⟩
  else if n.kind = 3 then ⟨c.ths.set t ⟨goOn (th c t).stack n.next.toNat,(th c t).slots⟩,c.owners.set n.arg.toNat (t + 1)⟩
  else if n.kind = 4 then ⟨c.ths.set t ⟨goOn (th c t).stack n.next.toNat,(th c t).slots⟩,if c.owners.getD n.arg.toNat 0 = t + 1 then c.owners.set n.arg.toNat 0 else c.owners⟩
  else if n.kind = 5 then ⟨c.ths.set t ⟨goOn (th c t).stack n.next.toNat,(th c t).slots.set n.alt.toNat (c.ths.length + 1)⟩ ++ [⟨[(n.arg.toNat,0)],List.replicate 8 0⟩],c.owners⟩
  else if n.kind = 7 then ⟨c.ths.set t ⟨goOn (th c t).stack n.next.toNat ++ [(n.arg.toNat,0)],(th c t).slots⟩,c.owners⟩
  else if n.kind = 8 ∧ way = true then ⟨c.ths.set t ⟨goOn (th c t).stack n.alt.toNat,(th c t).slots⟩,c.owners⟩
  else ⟨c.ths.set t ⟨goOn (th c t).stack n.next.toNat,(th c t).slots⟩,c.owners⟩
def step (p : Pg) (c : Cf) (t : Int) (way : Bool) : Cf:=if enabled p c t = true then act c t.toNat (node p c t.toNat) way else c
def heldTo (o : List Nat) (t : Nat) : Nat → Nat
  | 0 => 0
  | k + 1 => if o.getD k 0 = t + 1 then heldTo o t k ||| 2 ^ k else heldTo o t k
def held (c : Cf) (t : Int) : Nat:=if 0 ≤ t ∧ t < (c.ths.length : Int) then heldTo c.owners t.toNat 16 else 0
theorem held_bit (o : List Nat) (t : Nat) : ∀ n k,(heldTo o t n).testBit k = decide (k < n ∧ o.getD k 0 = t + 1)
  | 0,k => by simp [heldTo]
  | n + 1,k => by
    have ih:=held_bit o t n k
    unfold heldTo
    by_cases h : o.getD n 0 = t + 1
    · rw [if_pos h,Nat.testBit_or,ih,Nat.testBit_two_pow]
      by_cases e : n = k
      · subst e
        rw [decide_eq_true rfl,Bool.or_true,decide_eq_true (show n < n + 1 ∧ o.getD n 0 = t + 1 from ⟨by omega,h⟩)]
      · rw [decide_eq_false e,Bool.or_false]
        rw [Bool.eq_iff_iff];simp only [decide_eq_true_eq]
        constructor
        · rintro ⟨a,b⟩;exact ⟨by omega,b⟩
        · rintro ⟨a,b⟩;exact ⟨by omega,b⟩
    · rw [if_neg h,ih,Bool.eq_iff_iff];simp only [decide_eq_true_eq]
      constructor
      · rintro ⟨a,b⟩;exact ⟨by omega,b⟩
      · rintro ⟨a,b⟩
        refine ⟨?_,b⟩
        have : k ≠ n:=fun e => h (by rw [← e];exact b)
        omega
theorem held_lt (o : List Nat) (t : Nat) : ∀ n,heldTo o t n < 2 ^ n
  | 0 => by simp [heldTo]
  | n + 1 => by
    have ih:=held_lt o t n
    have h2 : 2 ^ n < 2 ^ (n + 1):=Nat.pow_lt_pow_right (by decide) (by omega)
    unfold heldTo
    split
    · exact Nat.or_lt_two_pow (by omega) h2
    · omega
def Linked (p : Pg) (l : List Nat) : Prop:=∀ i a b,l[i]? = some a → l[i + 1]? = some b → Q.calls p a b
structure Good (p : Pg) (c : Cf) : Prop where
  one : 1 ≤ c.ths.length
  most : c.ths.length ≤ 8
  owns : c.owners.length = 16
  own : ∀ o ∈ c.owners,o ≤ c.ths.length
  eight : ∀ x ∈ c.ths,x.slots.length = 8
  slot : ∀ x ∈ c.ths,∀ s ∈ x.slots,s ≤ 8
  spot : ∀ x ∈ c.ths,∀ f ∈ x.stack,∃ fn,p.fns[f.1]? = some fn ∧ f.2 < fn.nodes.length
  chain : ∀ x ∈ c.ths,Linked p (x.stack.map (·.1))
theorem fine_node {p : Pg} (hf : Fine p) {f i : Nat} {fn : Fn} {x : Nd} (hfn : p.fns[f]? = some fn) (hx : fn.nodes[i]? = some x) : Q.may p.g p.l p.s p.len x fn.nodes.length = true :=
  (Q.fine_fn hfn (hf.nodes f (List.getElem?_eq_some_iff.1 hfn).1)).2.2 i x hx
theorem yV {p : Pg} (hf : Fine p) {f : Nat} {fn : Fn} (hfn : p.fns[f]? = some fn) : 0 < fn.nodes.length :=
  (Q.fine_fn hfn (hf.nodes f (List.getElem?_eq_some_iff.1 hfn).1)).1
structure Fit (p : Pg) (x : Nd) (nodes : Nat) : Prop where
  kind : 0 ≤ x.kind ∧ x.kind ≤ 9
  next : 0 ≤ x.next
  nextLt : x.kind ≠ 9 → x.next < nodes
  alt : 0 ≤ x.alt
  arg : 0 ≤ x.arg
  lock : x.kind = 3 ∨ x.kind = 4 → x.arg < 16
  join : x.kind = 6 → x.arg < 8
  spawn : x.kind = 5 → x.arg < p.len ∧ x.alt < 8
  call : x.kind = 7 → x.arg < p.len
  branch : x.kind = 8 → x.alt < nodes
theorem fit_of {p : Pg} (hc : Q.Counts p) {x : Nd} {nodes : Nat} (h : Q.may p.g p.l p.s p.len x nodes = true) (h0 : 0 < nodes) : Fit p x nodes:=by
  have hl:=hc.l;have hs:=hc.s
  unfold Q.may at h
  simp only [Bool.and_eq_true,decide_eq_true_eq,List.all_eq_true,List.mem_range] at h
  obtain ⟨hr,hall⟩:=h
  have hk : 0 ≤ x.kind ∧ x.kind ≤ 9:=by
    unfold Q.row at hr
    by_cases hb : x.kind < 0 ∨ 9 < x.kind
    · rw [if_pos hb] at hr;exact absurd rfl hr
    · omega
  have a0:=hall 0 (by omega)
  have a1:=hall 1 (by omega)
  have a2:=hall 2 (by omega)
  simp only [Q.fields,List.getD_cons_zero,List.getD_cons_succ] at a0 a1 a2
  have hrow : Q.row x.kind = Q.rows.getD x.kind.toNat []:=by unfold Q.row;rw [if_neg (by omega)]
  rw [hrow] at a0 a1 a2
  obtain ⟨k,hkk⟩ : ∃ k : Nat,x.kind = (k : Int):=⟨x.kind.toNat,by omega⟩
  rw [hkk] at a0 a1 a2
  simp only [Int.toNat_natCast] at a0 a1 a2
  have hmax : max (nodes : Int) 1 = nodes:=by omega
  have hk9 : k ≤ 9:=by omega
  have cases_ : k = 0 ∨ k = 1 ∨ k = 2 ∨ k = 3 ∨ k = 4 ∨ k = 5 ∨ k = 6 ∨ k = 7 ∨ k = 8 ∨ k = 9:=by omega
  rcases cases_ with rfl | rfl | rfl | rfl | rfl | rfl | rfl | rfl | rfl | rfl <;>
    simp [Q.rows,Q.size,hmax] at a0 a1 a2 <;>
    (refine ⟨hk,by omega,fun h => by omega,by omega,by omega,fun h => by omega,fun h => by omega,fun h => by omega,fun h => by omega,fun h => by omega⟩)
theorem th_mem {c : Cf} {t : Nat} (h : t < c.ths.length) : th c t ∈ c.ths:=by
  unfold th;rw [List.getD_eq_getElem?_getD,List.getElem?_eq_getElem h];exact List.getElem_mem h
theorem th_at {c : Cf} {t : Nat} (h : t < c.ths.length) : c.ths[t]? = some (th c t):=by
  unfold th;rw [List.getD_eq_getElem?_getD,List.getElem?_eq_getElem h];rfl
theorem th_is {c : Cf} {t : Nat} {x : Th} (h : c.ths[t]? = some x) : th c t = x:=by unfold th;rw [List.getD_eq_getElem?_getD,h];rfl
theorem lives_lt {c : Cf} {t : Nat} (h : livesN c t = true) : t < c.ths.length:=by
  rcases Nat.lt_or_ge t c.ths.length with h1 | h1
  · exact h1
  · exfalso
    unfold livesN th at h
    rw [List.getD_eq_getElem?_getD,List.getElem?_eq_none h1] at h
    exact absurd h (by decide)
theorem top_mem {s : List (Nat × Nat)} (h : 0 < s.length) : top s ∈ s:=by
  unfold top;rw [List.getD_eq_getElem?_getD,List.getElem?_eq_getElem (by omega)];exact List.getElem_mem _
theorem top_at {s : List (Nat × Nat)} (h : 0 < s.length) : s[s.length - 1]? = some (top s):=by
  unfold top;rw [List.getD_eq_getElem?_getD,List.getElem?_eq_getElem (by omega)];rfl
theorem enabled_lives {p : Pg} {c : Cf} {t : Nat} (h : enabledN p c t = true) : livesN c t = true:=by
  unfold enabledN at h;rw [Bool.and_eq_true] at h;exact h.1
theorem node_is {p : Pg} {c : Cf} (hg : Good p c) {t : Nat} (h : livesN c t = true) :
    ∃ fn,p.fns[(top (th c t).stack).1]? = some fn ∧ (top (th c t).stack).2 < fn.nodes.length ∧ fn.nodes[(top (th c t).stack).2]? = some (node p c t):=by
  have ht:=lives_lt h
  have hs : 0 < (th c t).stack.length:=by unfold livesN at h;simpa using h
  obtain ⟨fn,h1,h2⟩:=hg.spot _ (th_mem ht) _ (top_mem hs)
  refine ⟨fn,h1,h2,?_⟩
  unfold node nodeAt
  have e : p.fns.getD (top (th c t).stack).1 default = fn:=by rw [List.getD_eq_getElem?_getD,h1];rfl
  rw [e,List.getD_eq_getElem?_getD,List.getElem?_eq_getElem h2];rfl
theorem node_fit {p : Pg} (hf : Fine p) {c : Cf} (hg : Good p c) {t : Nat} (h : livesN c t = true) {fn : Fn} (hfn : p.fns[(top (th c t).stack).1]? = some fn) : Fit p (node p c t) fn.nodes.length:=by
  obtain ⟨fn',h1,h2,h3⟩:=node_is hg h
  rw [hfn] at h1;cases h1
  exact fit_of hf.counts (fine_node hf hfn h3) (yV hf hfn)
theorem vN : ∀ (n : Nat) (l : List Nat),l.Nodup → (∀ x ∈ l,x < n) → l.length ≤ n
  | 0,l,_,h => by
    cases l with
    | nil => simp
    | cons x l => exact absurd (h x (by simp)) (by omega)
  | n + 1,l,hn,h => by
    by_cases hm : n ∈ l
    · have:=vN n (l.erase n) (hn.erase n) fun x hx => by
        have h1:=(hn.mem_erase_iff).1 hx
        have:=h x h1.2
        have:=h1.1
        omega
      rw [List.length_erase_of_mem hm] at this
      omega
    · have:=vN n l hn fun x hx => by
        have:=h x hx
        have : x ≠ n:=fun e => hm (e ▸ hx)
        omega
      omega
theorem zT {p : Pg} (hf : Fine p) (hl : p.fns.length = p.len) {s : List Nat} (hc : Linked p s) :
    ∀ (d i a b : Nat),s[i]? = some a → s[i + d + 1]? = some b → Q.Reach (Q.calls p) p.fns.length a b
  | 0,i,a,b,ha,hb => .one (hc i a b ha hb)
  | d + 1,i,a,b,ha,hb => by
    have hlt : i + d + 1 + 1 < s.length:=by
      have:=(List.getElem?_eq_some_iff.1 hb).1;omega
    have hm:=List.getElem?_eq_getElem (show i + 1 < s.length by omega)
    have h1:=hc i a _ ha hm
    refine .more h1 (q9 hf hl h1) (zT hf hl hc d (i + 1) _ b hm ?_)
    rw [show i + 1 + d + 1 = i + (d + 1) + 1 by omega];exact hb
theorem high {p : Pg} (hf : Fine p) (hl : p.fns.length = p.len) {c : Cf} (hg : Good p c) {x : Th} (hx : x ∈ c.ths) : x.stack.length ≤ p.fns.length:=by
  have:=vN p.fns.length (x.stack.map (·.1)) ?_ ?_
  · simpa using this
  · rw [List.nodup_iff_pairwise_ne,List.pairwise_iff_getElem]
    intro i j hi hj hij e
    have hr:=zT hf hl (hg.chain x hx) (j - i - 1) i _ _ (List.getElem?_eq_getElem hi) (by rw [show i + (j - i - 1) + 1 = j by omega];exact List.getElem?_eq_getElem hj)
    rw [e] at hr
    obtain ⟨f,hfm,hfe⟩:=List.mem_map.1 (List.getElem_mem hj)
    obtain ⟨fn,h1,_⟩:=hg.spot x hx f hfm
    rw [← hfe] at hr
    exact yW hf hl _ (List.getElem?_eq_some_iff.1 h1).1 hr
  · intro y hy
    obtain ⟨f,hfm,rfl⟩:=List.mem_map.1 hy
    obtain ⟨fn,h1,_⟩:=hg.spot x hx f hfm
    exact (List.getElem?_eq_some_iff.1 h1).1
theorem good_start {p : Pg} (hf : Fine p) : Good p start:=by
  have h1:=hf.counts.f.1
  refine ⟨by simp [start],by simp [start],by simp [start],fun o ho => ?_,fun x hx => ?_,fun x hx s hs => ?_,fun x hx f hfm => ?_,fun x hx => ?_⟩
  · have:=List.eq_of_mem_replicate ho;omega
  · have e:=List.mem_singleton.1 hx;subst e;rfl
  · have e:=List.mem_singleton.1 hx;subst e
    have:=List.eq_of_mem_replicate hs;omega
  · have e:=List.mem_singleton.1 hx;subst e
    have e:=List.mem_singleton.1 hfm;subst e
    have h2:=List.getElem?_eq_getElem h1
    exact ⟨_,h2,yV hf h2⟩
  · have e:=List.mem_singleton.1 hx;subst e
    intro i a b _ hb
    simp at hb
theorem goOn_len (s : List (Nat × Nat)) (n : Nat) : (goOn s n).length = s.length:=by unfold goOn;rw [List.length_set]
theorem goOn_fst (s : List (Nat × Nat)) (n : Nat) : (goOn s n).map (·.1) = s.map (·.1):=by
  apply List.ext_getElem?
  intro i
  unfold goOn
  rw [List.getElem?_map,List.getElem?_map,List.getElem?_set]
  by_cases e : s.length - 1 = i
  · subst e
    rw [if_pos rfl]
    by_cases h : s.length - 1 < s.length
    · rw [if_pos h,List.getElem?_eq_getElem h]
      simp [top,List.getD_eq_getElem?_getD,List.getElem?_eq_getElem h]
    · rw [if_neg h,List.getElem?_eq_none (by omega)]
  · rw [if_neg e]
theorem goOn_mem {s : List (Nat × Nat)} {n : Nat} {f : Nat × Nat} (h : f ∈ goOn s n) : f ∈ s ∨ f = ((top s).1,n):=List.mem_or_eq_of_mem_set h
theorem qI {p : Pg} {c : Cf} (hg : Good p c) (t : Nat) (s : List (Nat × Nat)) (sl ow : List Nat) (h8 : sl.length = 8) (hs8 : ∀ x ∈ sl,x ≤ 8) (hsp : ∀ f ∈ s,∃ fn,p.fns[f.1]? = some fn ∧ f.2 < fn.nodes.length)
    (hch : Linked p (s.map (·.1))) (h16 : ow.length = 16) (how : ∀ o ∈ ow,o ≤ c.ths.length) : Good p ⟨c.ths.set t ⟨s,sl⟩,ow⟩:=by
  have key : ∀ x ∈ c.ths.set t ⟨s,sl⟩,x ∈ c.ths ∨ x = ⟨s,sl⟩:=fun x hx => List.mem_or_eq_of_mem_set hx
  refine ⟨by simpa using hg.one,by simpa using hg.most,h16,by simpa using how,fun x hx => ?_,fun x hx => ?_,fun x hx => ?_,fun x hx => ?_⟩
  · rcases key x hx with h | rfl
    · exact hg.eight x h
    · exact h8
  · rcases key x hx with h | rfl
    · exact hg.slot x h
    · exact hs8
  · rcases key x hx with h | rfl
    · exact hg.spot x h
    · exact hsp
  · rcases key x hx with h | rfl
    · exact hg.chain x h
    · exact hch
theorem yH {l : List Nat} {k v b : Nat} (h : ∀ x ∈ l,x ≤ b) (hv : v ≤ b) : ∀ x ∈ l.set k v,x ≤ b:=fun x hx => by
  rcases List.mem_or_eq_of_mem_set hx with h1 | rfl
  · exact h x h1
  · exact hv
theorem JH {p : Pg} {l : List Nat} (h : Linked p l) {y : Nat} (hy : ∀ a,l[l.length - 1]? = some a → Q.calls p a y) : Linked p (l ++ [y]):=by
  intro i a b ha hb
  have hlt:=(List.getElem?_eq_some_iff.1 hb).1
  simp only [List.length_append,List.length_singleton] at hlt
  rw [List.getElem?_append_left (by omega)] at ha
  by_cases e : i + 1 < l.length
  · rw [List.getElem?_append_left e] at hb
    exact h i a b ha hb
  · have e2 : i = l.length - 1:=by omega
    rw [List.getElem?_append_right (by omega)] at hb
    have e3 : i + 1 - l.length = 0:=by omega
    rw [e3] at hb
    simp at hb
    subst hb
    exact hy a (by rw [← e2];exact ha)
theorem good_act {p : Pg} (hf : Fine p) (hl : p.fns.length = p.len) {c : Cf} (hg : Good p c) {t : Nat} (he : enabledN p c t = true) (way : Bool) : Good p (act c t (node p c t) way):=by
  have hlv:=enabled_lives he
  have ht:=lives_lt hlv
  have hm:=th_mem ht
  have hs0 : 0 < (th c t).stack.length:=by unfold livesN at hlv;simpa using hlv
  obtain ⟨fn,hfn,hin,hnd⟩:=node_is hg hlv
  have hfit:=node_fit hf hg hlv hfn
  obtain ⟨n,hn⟩ : ∃ n,node p c t = n:=⟨_,rfl⟩
  rw [hn] at hfit hnd
  have e8:=hg.eight _ hm
  have s8:=hg.slot _ hm
  have spot : ∀ m : Nat,m < fn.nodes.length → ∀ f ∈ goOn (th c t).stack m,∃ fn,p.fns[f.1]? = some fn ∧ f.2 < fn.nodes.length:=fun m hm2 f hfm => by
    rcases goOn_mem hfm with h | rfl
    · exact hg.spot _ hm f h
    · exact ⟨fn,hfn,hm2⟩
  have chain : ∀ m : Nat,Linked p ((goOn (th c t).stack m).map (·.1)):=fun m => by rw [goOn_fst];exact hg.chain _ hm
  have hk:=hfit.kind
  have h0:=hfit.next;have h1:=hfit.nextLt;have ha:=hfit.arg
  unfold act
  rw [hn]
  by_cases k9 : n.kind = 9
  · rw [if_pos k9]
    refine qI hg t _ _ _ e8 s8 (fun f hfm => hg.spot _ hm f (List.mem_of_mem_take hfm)) ?_ hg.owns hg.own
    intro i a b hA hB
    rw [List.map_take] at hA hB
    have hlt:=(List.getElem?_eq_some_iff.1 hB).1
    rw [List.length_take] at hlt
    rw [List.getElem?_take,if_pos (by omega)] at hA hB
    exact hg.chain _ hm i a b hA hB
  rw [if_neg k9]
  have hnx : n.next.toNat < fn.nodes.length:=by have:=h1 k9;omega
  by_cases k3 : n.kind = 3
  · rw [if_pos k3]
    exact qI hg t _ _ _ e8 s8 (spot _ hnx) (chain _) (by rw [List.length_set];exact hg.owns) (yH hg.own (by omega))
  rw [if_neg k3]
  by_cases k4 : n.kind = 4
  · rw [if_pos k4]
    refine qI hg t _ _ _ e8 s8 (spot _ hnx) (chain _) ?_ ?_
    · split
      · rw [List.length_set];exact hg.owns
      · exact hg.owns
    · split
      · exact yH hg.own (by omega)
      · exact hg.own
  rw [if_neg k4]
  by_cases k5 : n.kind = 5
  · rw [if_pos k5]
    have h8 : c.ths.length < 8:=by
      unfold enabledN at he
      rw [hn,if_neg k3,if_neg (by omega),if_pos k5] at he
      rw [Bool.and_eq_true,decide_eq_true_eq] at he
      exact he.2
    have hG:=qI hg t (goOn (th c t).stack n.next.toNat) ((th c t).slots.set n.alt.toNat (c.ths.length + 1)) c.owners (by rw [List.length_set];exact e8) (yH s8 (by omega)) (spot _ hnx) (chain _) hg.owns hg.own
    have hsp:=hfit.spawn k5
    have h2 : n.arg.toNat < p.fns.length:=by omega
    have h3:=List.getElem?_eq_getElem h2
    refine ⟨by simp,by simp;omega,hg.owns,fun o ho => ?_,fun x hx => ?_,fun x hx => ?_,fun x hx => ?_,fun x hx => ?_⟩
    · have:=hg.own o ho
      simp;omega
    all_goals rcases List.mem_append.1 hx with h | h
    · exact hG.eight x h
    · have e:=List.mem_singleton.1 h;subst e;rfl
    · exact hG.slot x h
    · have e:=List.mem_singleton.1 h;subst e
      intro s hs
      have:=List.eq_of_mem_replicate hs;omega
    · exact hG.spot x h
    · have e:=List.mem_singleton.1 h;subst e
      intro f hfm
      have e:=List.mem_singleton.1 hfm;subst e
      exact ⟨_,h3,yV hf h3⟩
    · exact hG.chain x h
    · have e:=List.mem_singleton.1 h;subst e
      intro i a b _ hb
      simp at hb
  rw [if_neg k5]
  by_cases k7 : n.kind = 7
  · rw [if_pos k7]
    have hcl : Q.calls p (top (th c t).stack).1 n.arg.toNat:=⟨fn,hfn,n,List.mem_of_getElem? hnd,k7,by omega⟩
    have h2:=q9 hf hl hcl
    have h3:=List.getElem?_eq_getElem h2
    refine qI hg t _ _ _ e8 s8 (fun f hfm => ?_) ?_ hg.owns hg.own
    · rcases List.mem_append.1 hfm with h | h
      · exact spot _ hnx f h
      · have e:=List.mem_singleton.1 h;subst e
        exact ⟨_,h3,yV hf h3⟩
    · rw [List.map_append]
      refine JH (chain _) fun a ha2 => ?_
      rw [goOn_fst,List.length_map,List.getElem?_map,top_at hs0] at ha2
      cases ha2
      exact hcl
  rw [if_neg k7]
  by_cases k8 : n.kind = 8 ∧ way = true
  · rw [if_pos k8]
    have:=hfit.branch k8.1
    have:=hfit.alt
    exact qI hg t _ _ _ e8 s8 (spot _ (by omega)) (chain _) hg.owns hg.own
  · rw [if_neg k8]
    exact qI hg t _ _ _ e8 s8 (spot _ hnx) (chain _) hg.owns hg.own
theorem good_step {p : Pg} (hf : Fine p) (hl : p.fns.length = p.len) {c : Cf} (hg : Good p c) (t : Int) (way : Bool) : Good p (step p c t way):=by
  unfold step
  split
  · rename_i h
    unfold enabled at h
    rw [Bool.and_eq_true] at h
    exact good_act hf hl hg h.2 way
  · exact hg
end Go.Proofs.YtfiafbflhglpeaaDoor.M
namespace Go.Proofs.YtfiafbflhglpeaaDoor.M
theorem act_th {c : Cf} {t : Nat} {n : Nd} {way : Bool} {u : Nat} (hu : u < c.ths.length) (hne : u ≠ t) : (act c t n way).ths[u]? = c.ths[u]?:=by
  have h1 : ∀ x : Th,(c.ths.set t x)[u]? = c.ths[u]?:=fun x => List.getElem?_set_ne (fun e => hne e.symm)
  unfold act
  repeat' split
  all_goals first
    | exact h1 _
    | (rw [List.getElem?_append_left (by rw [List.length_set];exact hu)];exact h1 _)
theorem act_len {c : Cf} {t : Nat} {n : Nd} {way : Bool} : (act c t n way).ths.length = if n.kind = 5 then c.ths.length + 1 else c.ths.length:=by
  unfold act
  by_cases k9 : n.kind = 9
  · rw [if_pos k9,if_neg (show ¬ n.kind = 5 by omega)];simp
  rw [if_neg k9]
  by_cases k3 : n.kind = 3
  · rw [if_pos k3,if_neg (show ¬ n.kind = 5 by omega)];simp
  rw [if_neg k3]
  by_cases k4 : n.kind = 4
  · rw [if_pos k4,if_neg (show ¬ n.kind = 5 by omega)];simp
  rw [if_neg k4]
  by_cases k5 : n.kind = 5
  · rw [if_pos k5,if_pos k5];simp
  rw [if_neg k5,if_neg k5]
  split
  · simp
  · split <;> simp
theorem step_len (p : Pg) (c : Cf) (t : Int) (way : Bool) : c.ths.length ≤ (step p c t way).ths.length:=by
  unfold step
  split
  · rw [act_len];split <;> omega
  · exact Nat.le_refl _
theorem enabled_split {p : Pg} {c : Cf} {t : Int} (h : enabled p c t = true) : 0 ≤ t ∧ enabledN p c t.toNat = true:=by
  unfold enabled at h
  rw [Bool.and_eq_true,decide_eq_true_eq] at h
  exact h
theorem step_same {p : Pg} {c : Cf} {t : Int} {way : Bool} (h : enabled p c t = false) : step p c t way = c:=by
  unfold step;rw [h];rfl
theorem lives_nat (c : Cf) (u : Nat) : lives c (u : Int) = livesN c u:=by simp [lives]
theorem uG {p : Pg} {c : Cf} {t : Nat} {way : Bool} (he : enabledN p c t = true) (k v : Nat) (hv : v ≠ 0) :
    ((act c t (node p c t) way).owners.getD k 0 = v ↔ c.owners.getD k 0 = v) ∨ (v = t + 1 ∧ (((node p c t).kind = 3 ∧ c.owners.getD k 0 ≠ v) ∨ ((node p c t).kind = 4 ∧ c.owners.getD k 0 = v))):=by
  obtain ⟨n,hn⟩ : ∃ n,node p c t = n:=⟨_,rfl⟩
  have key : ∀ (a v2 : Nat),(c.owners.set a v2).getD k 0 = if a = k ∧ k < c.owners.length then v2 else c.owners.getD k 0:=fun a v2 => by
    rw [List.getD_eq_getElem?_getD,List.getElem?_set,List.getD_eq_getElem?_getD]
    by_cases e : a = k
    · subst e
      by_cases hl : a < c.owners.length
      · rw [if_pos rfl,if_pos hl,if_pos ⟨rfl,hl⟩];rfl
      · rw [if_pos rfl,if_neg hl,if_neg (fun h => hl h.2),List.getElem?_eq_none (by omega)]
    · rw [if_neg e,if_neg (fun h => e h.1)]
  rw [hn]
  unfold act
  by_cases k9 : n.kind = 9
  · rw [if_pos k9];exact .inl Iff.rfl
  rw [if_neg k9]
  by_cases k3 : n.kind = 3
  · rw [if_pos k3]
    show ((c.owners.set n.arg.toNat (t + 1)).getD k 0 = v ↔ _) ∨ _
    rw [key]
    have h0 : c.owners.getD n.arg.toNat 0 = 0:=by
      unfold enabledN at he
      rw [hn,if_pos k3] at he
      rw [Bool.and_eq_true,decide_eq_true_eq] at he
      exact he.2
    by_cases e : n.arg.toNat = k ∧ k < c.owners.length
    · rw [if_pos e]
      by_cases hv2 : v = t + 1
      · right
        refine ⟨hv2,.inl ⟨k3,?_⟩⟩
        rw [← e.1,h0];omega
      · left
        rw [← e.1,h0]
        exact ⟨fun h => absurd h.symm hv2,fun h => absurd h.symm hv⟩
    · rw [if_neg e];exact .inl Iff.rfl
  rw [if_neg k3]
  by_cases k4 : n.kind = 4
  · rw [if_pos k4]
    show ((if c.owners.getD n.arg.toNat 0 = t + 1 then c.owners.set n.arg.toNat 0 else c.owners).getD k 0 = v ↔ _) ∨ _
    by_cases h1 : c.owners.getD n.arg.toNat 0 = t + 1
    · rw [if_pos h1,key]
      by_cases e : n.arg.toNat = k ∧ k < c.owners.length
      · rw [if_pos e]
        by_cases hv2 : v = t + 1
        · right
          exact ⟨hv2,.inr ⟨k4,by rw [← e.1,h1,hv2]⟩⟩
        · left
          rw [← e.1,h1]
          exact ⟨fun h => absurd h.symm hv,fun h => absurd h.symm hv2⟩
      · rw [if_neg e];exact .inl Iff.rfl
    · rw [if_neg h1];exact .inl Iff.rfl
  rw [if_neg k4]
  left
  by_cases k5 : n.kind = 5
  · rw [if_pos k5]
  rw [if_neg k5]
  by_cases k7 : n.kind = 7
  · rw [if_pos k7]
  rw [if_neg k7]
  by_cases k8 : n.kind = 8 ∧ way = true
  · rw [if_pos k8]
  · rw [if_neg k8]
theorem vR {o o2 : List Nat} {t : Nat} (h : ∀ k,o.getD k 0 = t + 1 ↔ o2.getD k 0 = t + 1) : ∀ n,heldTo o t n = heldTo o2 t n
  | 0 => rfl
  | n + 1 => by
    unfold heldTo
    rw [vR h n]
    by_cases e : o.getD n 0 = t + 1
    · rw [if_pos e,if_pos ((h n).1 e)]
    · rw [if_neg e,if_neg (fun x => e ((h n).2 x))]
theorem step_held {p : Pg} {c : Cf} {t : Int} {way : Bool} {u : Nat} (hne : (u : Int) ≠ t) : heldTo (step p c t way).owners u 16 = heldTo c.owners u 16:=by
  unfold step
  split
  · rename_i h
    obtain ⟨h0,h1⟩:=enabled_split h
    refine vR (fun k => ?_) 16
    rcases uG (way:=way) h1 k (u + 1) (by omega) with h2 | ⟨h2,_⟩
    · exact h2
    · omega
  · rfl
theorem step_less {p : Pg} {c : Cf} {t : Int} {way : Bool} {u k : Nat} (h : (heldTo c.owners u 16).testBit k = true) (hn : (heldTo (step p c t way).owners u 16).testBit k = false) :
    (u : Int) = t ∧ livesN c u = true ∧ (node p c u).kind = 4:=by
  rw [held_bit,decide_eq_true_eq] at h
  rw [held_bit,decide_eq_false_iff_not] at hn
  unfold step at hn
  split at hn
  · rename_i he
    obtain ⟨h0,h1⟩:=enabled_split he
    rcases uG (way:=way) h1 k (u + 1) (by omega) with h2 | ⟨h2,h3⟩
    · exact absurd ⟨h.1,h2.2 h.2⟩ hn
    · have e : t.toNat = u:=by omega
      rw [e] at h1 h3
      rcases h3 with ⟨_,h3⟩ | ⟨h3,_⟩
      · exact absurd h.2 h3
      · exact ⟨by omega,enabled_lives h1,h3⟩
  · exact absurd h hn
theorem step_spawn {p : Pg} {c : Cf} {t : Int} {way : Bool} (h : (step p c t way).ths.length ≠ c.ths.length) : 0 ≤ t ∧ livesN c t.toNat = true ∧ (node p c t.toNat).kind = 5 ∧ (step p c t way).ths.length = c.ths.length + 1:=by
  unfold step at h ⊢
  split at h
  · rename_i he
    obtain ⟨h0,h1⟩:=enabled_split he
    rw [if_pos he,act_len]
    rw [act_len] at h
    by_cases k5 : (node p c t.toNat).kind = 5
    · rw [if_pos k5];exact ⟨h0,enabled_lives h1,k5,rfl⟩
    · rw [if_neg k5] at h;exact absurd rfl h
  · exact absurd rfl h
end Go.Proofs.YtfiafbflhglpeaaDoor.M
namespace Go.Proofs.YtfiafbflhglpeaaDoor
open Go.RowKit
theorem LB {c : M.Cf} {t : Nat} {n : Nd} {way : Bool} (ht : t < c.ths.length) : ∃ x,(M.act c t n way).ths[t]? = some x ∧
    ((n.kind = 9 ∧ x.stack = (M.th c t).stack.take ((M.th c t).stack.length - 1)) ∨ (n.kind = 7 ∧ ∃ m,x.stack = M.goOn (M.th c t).stack m ++ [(n.arg.toNat,0)]) ∨ (n.kind ≠ 9 ∧ n.kind ≠ 7 ∧ ∃ m,x.stack = M.goOn (M.th c t).stack m)):=by
  have key : ∀ x : M.Th,(c.ths.set t x)[t]? = some x:=fun x => List.getElem?_set_self ht
  unfold M.act
  by_cases k9 : n.kind = 9
  · rw [if_pos k9];exact ⟨_,key _,.inl ⟨k9,rfl⟩⟩
  rw [if_neg k9]
  by_cases k3 : n.kind = 3
  · rw [if_pos k3];exact ⟨_,key _,.inr (.inr ⟨k9,by omega,_,rfl⟩)⟩
  rw [if_neg k3]
  by_cases k4 : n.kind = 4
  · rw [if_pos k4];exact ⟨_,key _,.inr (.inr ⟨k9,by omega,_,rfl⟩)⟩
  rw [if_neg k4]
  by_cases k5 : n.kind = 5
  · rw [if_pos k5]
    refine ⟨⟨M.goOn (M.th c t).stack n.next.toNat,(M.th c t).slots.set n.alt.toNat (c.ths.length + 1)⟩,?_,.inr (.inr ⟨k9,by omega,n.next.toNat,rfl⟩)⟩
    show (c.ths.set t _ ++ _)[t]? = _
    rw [List.getElem?_append_left (by rw [List.length_set];exact ht)]
    exact key _
  rw [if_neg k5]
  by_cases k7 : n.kind = 7
  · rw [if_pos k7];exact ⟨_,key _,.inr (.inl ⟨k7,_,rfl⟩)⟩
  rw [if_neg k7]
  by_cases k8 : n.kind = 8 ∧ way = true
  · rw [if_pos k8];exact ⟨_,key _,.inr (.inr ⟨k9,k7,_,rfl⟩)⟩
  · rw [if_neg k8];exact ⟨_,key _,.inr (.inr ⟨k9,k7,_,rfl⟩)⟩
theorem uX {c : M.Cf} {t u : Nat} {n : Nd} {way : Bool} {x : M.Th} (hu : (M.act c t n way).ths[u]? = some x) (hn : c.ths.length ≤ u) : n.kind = 5 ∧ u = c.ths.length ∧ x.stack = [(n.arg.toNat,0)]:=by
  have hlt:=(List.getElem?_eq_some_iff.1 hu).1
  rw [M.act_len] at hlt
  by_cases k5 : n.kind = 5
  · rw [if_pos k5] at hlt
    have he : u = c.ths.length:=by omega
    subst he
    unfold M.act at hu
    rw [if_neg (by omega),if_neg (by omega),if_neg (by omega),if_pos k5] at hu
    have hu2 : (c.ths.set t (⟨M.goOn (M.th c t).stack n.next.toNat,(M.th c t).slots.set n.alt.toNat (c.ths.length + 1)⟩ : M.Th) ++ [(⟨[(n.arg.toNat,0)],List.replicate 8 0⟩ : M.Th)])[c.ths.length]? = some x:=hu
    rw [List.getElem?_append_right (by simp)] at hu2
    simp at hu2
    subst hu2
    exact ⟨k5,rfl,rfl⟩
  · rw [if_neg k5] at hlt;omega
theorem act_less {c : M.Cf} {t : Nat} {n : Nd} {way : Bool} {k : Nat} (k4 : n.kind = 4) (h : (M.heldTo c.owners t 16).testBit k = true) (hn : (M.heldTo (M.act c t n way).owners t 16).testBit k = false) : k = n.arg.toNat:=by
  rw [M.held_bit,decide_eq_true_eq] at h
  rw [M.held_bit,decide_eq_false_iff_not] at hn
  refine Classical.byContradiction fun hne => hn ⟨h.1,?_⟩
  unfold M.act
  rw [if_neg (by omega),if_neg (by omega),if_pos k4]
  show (if c.owners.getD n.arg.toNat 0 = t + 1 then c.owners.set n.arg.toNat 0 else c.owners).getD k 0 = t + 1
  split
  · rw [List.getD_eq_getElem?_getD,List.getElem?_set_ne (fun e => hne e.symm),← List.getD_eq_getElem?_getD];exact h.2
  · exact h.2
theorem QQ {s : List (Nat × Nat)} {m g : Nat} {fr : Nat × Nat} (h : (M.goOn s m)[g]? = some fr) : ∃ fr',s[g]? = some fr' ∧ fr'.1 = fr.1:=by
  have h1:=congrArg (fun l => l[g]?) (M.goOn_fst s m)
  simp only [List.getElem?_map,h,Option.map_some] at h1
  cases h2 : s[g]? with
  | none => rw [h2] at h1;cases h1
  | some fr' => rw [h2] at h1;simp at h1;exact ⟨fr',rfl,h1.symm⟩
theorem QX {p : Pg} {c : M.Cf} (hl : p.fns.length = p.len) (hg : M.Good p c) {t : Nat} (h : M.livesN c t = true) {a b : Int} (hk : (M.node p c t).kind = a ∨ (M.node p c t).kind = b) {id : Nat} (ha : (M.node p c t).arg = (id : Int)) :
    MayDo p a b (M.top (M.th c t).stack).1 id:=by
  obtain ⟨fn,h1,_,h3⟩:=M.node_is hg h
  exact uC hl h1 (List.mem_of_getElem? h3) ⟨hk,ha⟩
theorem vX {p : Pg} {c : M.Cf} (hf : Fine p) (hl : p.fns.length = p.len) (hg : M.Good p c) {t : Nat} (h : M.livesN c t = true) (hk : (M.node p c t).kind = 7) : CallIn p (M.top (M.th c t).stack).1 (M.node p c t).arg.toNat:=by
  obtain ⟨fn,h1,_,h3⟩:=M.node_is hg h
  have hfit:=M.node_fit hf hg h h1
  have hc : Q.calls p (M.top (M.th c t).stack).1 (M.node p c t).arg.toNat:=⟨fn,h1,_,List.mem_of_getElem? h3,hk,by have:=hfit.arg;omega⟩
  exact ⟨hc,by rw [← hl];exact q9 hf hl hc⟩
def Stays (p : Pg) (kc : List Nat) (c : M.Cf) : Prop :=
  ∀ (t : Nat) (x : M.Th),c.ths[t]? = some x → ∀ h,2 ≤ h → h ≤ x.stack.length → ∀ k,k < 32 → (kc.getD (t * 20 + h) 0).testBit k = true →
    (M.heldTo c.owners t 16).testBit k = true ∧ ∀ g fr,h ≤ g + 1 → x.stack[g]? = some fr → ¬ MayDo p 4 4 fr.1 k
theorem JJ (p : Pg) (kc : List Nat) : Stays p kc M.start:=by
  intro t x hx h h2 hh
  have hm:=List.mem_of_getElem? hx
  have e:=List.mem_singleton.1 hm
  subst e
  simp at hh
  omega
def keepTo (p : Pg) (us kc : List Nat) (c : M.Cf) (t : Nat) : List Nat :=
  if (M.node p c t).kind = 7 ∧ (M.th c t).stack.length < 19 then kc.set (t * 20 + ((M.th c t).stack.length + 1)) (M.heldTo c.owners t 16 &&& (4294967295 - us.getD (M.node p c t).arg.toNat 0)) else kc
theorem LA {a b k : Nat} (hb : b < 4294967296) (h : (a &&& (4294967295 - b)).testBit k = true) : a.testBit k = true ∧ b.testBit k = false:=by
  rw [Nat.testBit_and,Bool.and_eq_true] at h
  refine ⟨h.1,?_⟩
  have e : 4294967295 - b = 2 ^ 32 - (b + 1):=by omega
  rw [e,Nat.testBit_two_pow_sub_succ (by omega)] at h
  have h3:=(Bool.and_eq_true_iff.1 h.2).2
  simpa using h3
theorem Q1 {p : Pg} {us kc : List Nat} {c : M.Cf} (hf : Fine p) (hl : p.fns.length = p.len) (hus : us = killL p 4 4) (hg : M.Good p c) (hkl : kc.length = 160) (hk : Stays p kc c) {t : Nat} (way : Bool) (he : M.enabledN p c t = true) :
    Stays p (keepTo p us kc c t) (M.act c t (M.node p c t) way):=by
  have hlv:=M.enabled_lives he
  have htl:=M.lives_lt hlv
  have hs0 : 0 < (M.th c t).stack.length:=by unfold M.livesN at hlv;simpa using hlv
  have h16 : (M.th c t).stack.length ≤ 16:=by
    have h1:=M.high hf hl hg (M.th_mem htl)
    have h2:=hf.counts.f
    omega
  have ht8 : t < 8:=by have:=hg.most;omega
  intro u y hy h h2 hh k hk32 hbit
  by_cases hut : u = t
  · subst hut
    obtain ⟨x,hx,hcase⟩:=LB (n:=M.node p c u) (way:=way) htl
    rw [hx] at hy;obtain rfl : x = y:=Option.some.inj hy
    have hold:=hk u _ (M.th_at htl)
    have hlast : (M.th c u).stack[(M.th c u).stack.length - 1]? = some (M.top (M.th c u).stack):=M.top_at hs0
    rcases hcase with ⟨k9,hst⟩ | ⟨k7,m,hst⟩ | ⟨k9,k7,m,hst⟩
    · -- Return
      have hlen : x.stack.length = (M.th c u).stack.length - 1:=by rw [hst,List.length_take];omega
      unfold keepTo at hbit
      rw [if_neg (by omega)] at hbit
      obtain ⟨hh1,hh2⟩:=hold h h2 (by omega) k hk32 hbit
      have how : (M.act c u (M.node p c u) way).owners = c.owners:=by unfold M.act;rw [if_pos k9]
      rw [how]
      refine ⟨hh1,fun g fr hg1 hfr => hh2 g fr hg1 ?_⟩
      rw [hst,List.getElem?_take] at hfr
      split at hfr
      · exact hfr
      · cases hfr
    · -- Call
      have hlen : x.stack.length = (M.th c u).stack.length + 1:=by rw [hst,List.length_append,M.goOn_len];rfl
      have how : (M.act c u (M.node p c u) way).owners = c.owners:=by
        unfold M.act
        rw [if_neg (by omega),if_neg (by omega),if_neg (by omega),if_neg (by omega),if_pos k7]
      have hci:=vX hf hl hg hlv k7
      have htop : (M.top (M.th c u).stack).1 < p.len:=by
        obtain ⟨fn,h1,_⟩:=M.node_is hg hlv
        rw [← hl];exact (List.getElem?_eq_some_iff.1 h1).1
      rw [how]
      unfold keepTo at hbit
      rw [if_pos ⟨k7,by omega⟩] at hbit
      have frames : ∀ g fr,x.stack[g]? = some fr → (g < (M.th c u).stack.length ∧ ∃ fr',(M.th c u).stack[g]? = some fr' ∧ fr'.1 = fr.1) ∨ (g = (M.th c u).stack.length ∧ fr.1 = (M.node p c u).arg.toNat):=by
        intro g fr hfr
        rw [hst] at hfr
        by_cases hgl : g < (M.th c u).stack.length
        · rw [List.getElem?_append_left (by rw [M.goOn_len];exact hgl)] at hfr
          exact .inl ⟨hgl,QQ hfr⟩
        · rw [List.getElem?_append_right (by rw [M.goOn_len];omega),M.goOn_len] at hfr
          have hz : g - (M.th c u).stack.length = 0:=by
            have:=(List.getElem?_eq_some_iff.1 hfr).1
            simp at this
            omega
          rw [hz] at hfr
          simp at hfr
          subst hfr
          exact .inr ⟨by omega,rfl⟩
      by_cases hnew : h = (M.th c u).stack.length + 1
      · subst hnew
        rw [List.getD_eq_getElem?_getD,List.getElem?_set_self (by omega)] at hbit
        have hul : us.length = p.len:=by rw [hus,l2]
        have hu2 : us[(M.node p c u).arg.toNat]? = some (us.getD (M.node p c u).arg.toNat 0):=by
          rw [List.getD_eq_getElem?_getD,List.getElem?_eq_getElem (by rw [hul];exact hci.2)];rfl
        rw [hus] at hu2
        have hB:=jZ hu2
        rw [← hus] at hB
        obtain ⟨b1,b2⟩:=LA hB.1 (by simpa using hbit)
        refine ⟨b1,fun g fr hg1 hfr => ?_⟩
        rcases frames g fr hfr with ⟨h3,_⟩ | ⟨_,h3⟩
        · omega
        · rw [h3]
          intro hmay
          have:=(hB.2 k hk32).2 hmay
          rw [b2] at this
          cases this
      · rw [List.getD_eq_getElem?_getD,List.getElem?_set_ne (by omega),← List.getD_eq_getElem?_getD] at hbit
        obtain ⟨hh1,hh2⟩:=hold h h2 (by omega) k hk32 hbit
        refine ⟨hh1,fun g fr hg1 hfr => ?_⟩
        rcases frames g fr hfr with ⟨h3,fr',h4,h5⟩ | ⟨h3,h4⟩
        · rw [← h5];exact hh2 g fr' hg1 h4
        · rw [h4]
          intro hmay
          exact hh2 _ _ (by omega) hlast (qG htop hci hmay)
    · -- another node
      have hlen : x.stack.length = (M.th c u).stack.length:=by rw [hst,M.goOn_len]
      unfold keepTo at hbit
      rw [if_neg (by omega)] at hbit
      obtain ⟨hh1,hh2⟩:=hold h h2 (by omega) k hk32 hbit
      refine ⟨?_,fun g fr hg1 hfr => ?_⟩
      · cases hd : (M.heldTo (M.act c u (M.node p c u) way).owners u 16).testBit k with
        | true => rfl
        | false =>
          exfalso
          have hen : M.enabled p c (u : Int) = true:=by unfold M.enabled;rw [Int.toNat_natCast,he];simp
          have hstep : M.step p c (u : Int) way = M.act c u (M.node p c u) way:=by unfold M.step;rw [hen,Int.toNat_natCast];rfl
          obtain ⟨_,_,k4⟩:=M.step_less (p:=p) (way:=way) (t:=(u : Int)) hh1 (by rw [hstep];exact hd)
          have e:=act_less k4 hh1 hd
          obtain ⟨fn,h1,_⟩:=M.node_is hg hlv
          have hfit:=M.node_fit hf hg hlv h1
          exact hh2 _ _ (by omega) hlast (QX hl hg hlv (.inl k4) (by have:=hfit.arg;omega))
      · rw [hst] at hfr
        obtain ⟨fr',h4,h5⟩:=QQ hfr
        rw [← h5];exact hh2 g fr' hg1 h4
  · have hkc : (keepTo p us kc c t).getD (u * 20 + h) 0 = kc.getD (u * 20 + h) 0 ∨ y.stack.length < h:=by
      by_cases hul : u < c.ths.length
      · left
        rw [M.act_th hul hut] at hy
        have hy16 : y.stack.length ≤ 16:=by
          have h1:=M.high hf hl hg (List.mem_of_getElem? hy)
          have h2:=hf.counts.f
          omega
        unfold keepTo
        split
        · rw [List.getD_eq_getElem?_getD,List.getElem?_set_ne (by omega),← List.getD_eq_getElem?_getD]
        · rfl
      · right
        obtain ⟨_,_,hst⟩:=uX hy (by omega)
        rw [hst];simp;omega
    rcases hkc with hkc | hkc
    · by_cases hul : u < c.ths.length
      · rw [M.act_th hul hut] at hy
        rw [hkc] at hbit
        obtain ⟨hh1,hh2⟩:=hk u y hy h h2 hh k hk32 hbit
        have hen : M.enabled p c (t : Int) = true:=by unfold M.enabled;rw [Int.toNat_natCast,he];simp
        have hstep : M.step p c (t : Int) way = M.act c t (M.node p c t) way:=by unfold M.step;rw [hen,Int.toNat_natCast];rfl
        have hheld:=M.step_held (p:=p) (c:=c) (t:=(t : Int)) (way:=way) (u:=u) (by omega)
        rw [hstep] at hheld
        rw [hheld]
        exact ⟨hh1,hh2⟩
      · obtain ⟨_,_,hst⟩:=uX hy (by omega)
        rw [hst] at hh
        simp at hh
        omega
    · omega
theorem XR {p : Pg} {kc : List Nat} {c : M.Cf} (hk : Stays p kc c) {t : Nat} (way : Bool) (hlv : M.livesN c t = true) (h1 : 1 < (M.th c t).stack.length) (k9 : (M.node p c t).kind = 9) (hm : kc.getD (t * 20 + (M.th c t).stack.length) 0 < 4294967296) :
    kc.getD (t * 20 + (M.th c t).stack.length) 0 &&& (4294967295 - M.heldTo (M.act c t (M.node p c t) way).owners t 16) = 0:=by
  have how : (M.act c t (M.node p c t) way).owners = c.owners:=by unfold M.act;rw [if_pos k9]
  rw [how]
  have hb:=M.held_lt c.owners t 16
  have h2 : S.within (kc.getD (t * 20 + (M.th c t).stack.length) 0) (M.heldTo c.owners t 16) 32 = true:=(S.within_iff _ _).2 fun i hi hbit => (hk t _ (M.th_at (M.lives_lt hlv)) _ (by omega) (Nat.le_refl _) i hi hbit).1
  have h3:=S.within_not _ (M.heldTo c.owners t 16) hm (Nat.lt_of_lt_of_le hb (by decide))
  rw [h2] at h3
  exact of_decide_eq_true h3.symm
def Begun (p : Pg) (fs : List Nat) (c : M.Cf) : Prop :=
  fs.length = c.ths.length ∧ ∀ (t f : Nat) (x : M.Th),fs[t]? = some f → c.ths[t]? = some x → ∀ fr ∈ x.stack,Comes p (fun y => y = f) fr.1
theorem L4 {p : Pg} (hp : 0 < p.len) : Begun p [0] M.start:=by
  refine ⟨rfl,fun t f x hf hx fr hfr => ?_⟩
  have e:=List.mem_singleton.1 (List.mem_of_getElem? hx)
  subst e
  have e:=List.mem_singleton.1 hfr
  subst e
  have e:=List.mem_singleton.1 (List.mem_of_getElem? hf)
  subst e
  exact qW rfl hp
theorem vW {p : Pg} {fs : List Nat} {c : M.Cf} (hf : Fine p) (hl : p.fns.length = p.len) (hg : M.Good p c) (hb : Begun p fs c) {t : Nat} (way : Bool) (he : M.enabledN p c t = true) :
    Begun p (if (M.node p c t).kind = 5 then fs ++ [(M.node p c t).arg.toNat] else fs) (M.act c t (M.node p c t) way):=by
  have hlv:=M.enabled_lives he
  have htl:=M.lives_lt hlv
  have hs0 : 0 < (M.th c t).stack.length:=by unfold M.livesN at hlv;simpa using hlv
  obtain ⟨fn,hfn,_,hnd⟩:=M.node_is hg hlv
  have hfit:=M.node_fit hf hg hlv hfn
  refine ⟨?_,fun u f y hfu hy fr hfr => ?_⟩
  · rw [M.act_len]
    split
    · rw [List.length_append,hb.1];rfl
    · exact hb.1
  · by_cases hul : u < c.ths.length
    · have hfu' : fs[u]? = some f:=by
        split at hfu
        · rwa [List.getElem?_append_left (by rw [hb.1];exact hul)] at hfu
        · exact hfu
      by_cases hut : u = t
      · subst hut
        obtain ⟨x,hx,hcase⟩:=LB (n:=M.node p c u) (way:=way) htl
        rw [hx] at hy;obtain rfl : x = y:=Option.some.inj hy
        have hold:=hb.2 u f _ hfu' (M.th_at htl)
        have on : ∀ m fr,fr ∈ M.goOn (M.th c u).stack m → Comes p (fun y => y = f) fr.1:=by
          intro m fr h
          rcases M.goOn_mem h with h1 | h1
          · exact hold fr h1
          · have h2:=hold _ (M.top_mem hs0)
            rw [h1];exact h2
        rcases hcase with ⟨_,hst⟩ | ⟨k7,m,hst⟩ | ⟨_,_,m,hst⟩
        · rw [hst] at hfr;exact hold fr (List.mem_of_mem_take hfr)
        · rw [hst,List.mem_append] at hfr
          rcases hfr with h | h
          · exact on m fr h
          · have e:=List.mem_singleton.1 h
            subst e
            exact yJ (hold _ (M.top_mem hs0)) (vX hf hl hg hlv k7)
        · rw [hst] at hfr;exact on m fr hfr
      · rw [M.act_th hul hut] at hy
        exact hb.2 u f y hfu' hy fr hfr
    · obtain ⟨k5,hu,hst⟩:=uX hy (by omega)
      rw [if_pos k5] at hfu
      subst hu
      rw [← hb.1,List.getElem?_append_right (Nat.le_refl _),Nat.sub_self] at hfu
      simp at hfu
      subst hfu
      rw [hst] at hfr
      have e:=List.mem_singleton.1 hfr
      subst e
      exact qW rfl (by have:=(hfit.spawn k5).1;have:=hfit.arg;show (M.node p c t).arg.toNat < p.len;omega)
theorem QE {p : Pg} {fs : List Nat} {c : M.Cf} (hl : p.fns.length = p.len) (hg : M.Good p c) (hb : Begun p fs c) {t f : Nat} (hft : fs[t]? = some f) (hlv : M.livesN c t = true) {a b : Int} (hk : (M.node p c t).kind = a ∨ (M.node p c t).kind = b) {id : Nat} (ha : (M.node p c t).arg = (id : Int)) : MayDo p a b f id:=by
  have htl:=M.lives_lt hlv
  have hs0 : 0 < (M.th c t).stack.length:=by unfold M.livesN at hlv;simpa using hlv
  have hc:=hb.2 t f _ hft (M.th_at htl) _ (M.top_mem hs0)
  obtain ⟨g,fn,h1,h2,h3⟩:=QX hl hg hlv hk ha
  exact ⟨g,fn,zS (fun j hj _ => by subst hj;exact hc) h1,h2,h3⟩
def cellsR {α : Type} (sz : Nat) (f : α → Nat → Value) (l : List α) : List Value:=l.flatMap fun x => (List.range sz).map (f x)
theorem lK {α : Type} (sz : Nat) (f : α → Nat → Value) : ∀ l : List α,(cellsR sz f l).length = l.length * sz
  | [] => by simp [cellsR]
  | x :: l => by
    have ih:=lK sz f l
    unfold cellsR at ih ⊢
    rw [List.flatMap_cons,List.length_append,ih,List.length_map,List.length_range,List.length_cons,Nat.add_mul];omega
theorem xI {α : Type} (sz : Nat) (f : α → Nat → Value) (l l' : List α) : cellsR sz f (l ++ l') = cellsR sz f l ++ cellsR sz f l':=by unfold cellsR;rw [List.flatMap_append]
theorem lF {α : Type} (sz : Nat) (f : α → Nat → Value) : ∀ (l : List α) (k j : Nat) (x : α),l[k]? = some x → j < sz → (cellsR sz f l)[k * sz + j]? = some (f x j)
  | [],k,j,x,h,_ => by simp at h
  | y :: l,0,j,x,h,hj => by
    have e : y = x:=by simpa using h
    subst e
    unfold cellsR
    rw [List.flatMap_cons,Nat.zero_mul,Nat.zero_add,List.getElem?_append_left (by simpa using hj),List.getElem?_map,List.getElem?_range hj];rfl
  | y :: l,k + 1,j,x,h,hj => by
    have ih:=lF sz f l k j x (by simpa using h) hj
    unfold cellsR at ih ⊢
    rw [List.flatMap_cons,List.getElem?_append_right (by simp [Nat.add_mul];omega),List.length_map,List.length_range,show (k + 1) * sz + j - sz = k * sz + j by rw [Nat.add_mul];omega]
    exact ih
def OwnR {α : Type} (sz : Nat) (f : α → Nat → Value) (w : World) (B : Nat) (e : TypeId) (v : Value) (l : List α) : Prop:=w.ownsRow B e sz v l.length (cellsR sz f l)
section
variable {α : Type} {sz : Nat} {f : α → Nat → Value} {w w' : World} {B : Nat} {e : TypeId} {v : Value} {l : List α}
theorem OwnR.nil (sz : Nat) (f : α → Nat → Value) (w : World) (B : Nat) (e : TypeId) : OwnR sz f w B e (.slice none 0 0) []:=World.ownsRow_nil w B e sz
theorem OwnR.block (h : OwnR sz f w B e v l) : ∀ k,v.ownBlock = some k → B ≤ k ∧ k < w.heap.size:=World.ownsRow.lt h
theorem OwnR.far {row : Option Nat} (h : OwnR sz f w B e v l) (hg : w.grownBy w' row) (hne : v.ownBlock = none ∨ v.ownBlock ≠ row) : OwnR sz f w' B e v l:=World.ownsRow.kept h hg hne
theorem OwnR.below {C : Nat} (h : OwnR sz f w B e v l) (hb : Below C w w') (hC : w.heap.size ≤ C) : OwnR sz f w' B e v l:=by
  refine h.far (row:=none) ⟨hb.os,hb.tape,hb.output,hb.size,fun i hi _ => hb.block i (by omega)⟩ ?_
  cases hv : v.ownBlock with
  | none => exact .inl rfl
  | some k => exact .inr (by simp)
theorem OwnR.form (h : OwnR sz f w B e v l) : ∃ A cap,v = .slice A l.length cap ∧ l.length ≤ cap ∧ cap ≤ maxLen ∧ Recs sz f w w.heap.size A l.length l:=by
  rcases h.2 with ⟨hv,h0⟩ | ⟨g,cap,cur,hv,hB,hg,hn,hm,hs,ht⟩
  · refine ⟨none,0,by rw [h0];exact hv,by omega,by simp [maxLen],⟨rfl,fun hn => by omega⟩⟩
  · refine ⟨_,cap,hv,hn,hm,⟨rfl,fun _ => ⟨_,rfl,?_,fun k x hx j hj => ?_⟩⟩⟩
    · exact (World.ownsRow.lt h g (by rw [hv];rfl)).2
    · exact World.ownsRow.cells h (g:=g) (by rw [hv];rfl) _ _ (lF sz f l k j x hx hj)
end
theorem jD {P : Program} {ops : Array Oper} {rest : List Oper} {o : Oper} {a : Act} {w : World} {Q : Exit → Act → World → Prop} (hgd : o.guard = none) (ty : TypeId) (x y : Operand) (ho : o.op = .store ty x y)
    (g k : Nat) (v : Value) (hx : a.eval x = .pointer (some ⟨g,k,none⟩)) (hy : a.eval y = v) (h1 : v.oneCell' = true) (hc : v.cells = #[v])
    (t : TypeId) (cs : List Value) (hg : Blk w g t cs) (hk : k < cs.length) (hi : (P.info? ty).map (·.size) = some 1)
    (h : ∀ w',Blk w' g t (cs.set k v) → w.grownBy w' (some g) → w'.heap.size = w.heap.size → wpList P ops Q rest (a.put o.dst undef) w') : wpList P ops Q (o :: rest) a w:=by
  refine wpList_plain hgd fun K hK => ?_
  have hrun : (storeVar ty ⟨g,k,none⟩ v).run P w = .ok () (w.setCells g k [v]):=by
    have hst:=run_storeCells_cells (P:=P) g k [v] 0 w (fun j hj => by
      have : j = 0:=by simp at hj;exact hj
      subst this
      show (w.cell? ⟨g,k,none⟩).isSome = true
      rw [hg.cell,List.getElem?_eq_getElem hk];rfl) (fun j hj => by
      have : j = 0:=by simp at hj;exact hj
      subst this
      exact hg.frozen _) (fun u hu => by rw [List.mem_singleton] at hu;subst hu;exact h1)
    cases hq : P.info? ty with
    | none => simp [hq] at hi
    | some i =>
      have hs : i.size = 1:=by simpa [hq] using hi
      simp only [Nat.add_zero] at hst
      simp [storeVar,sizeOf,typeInfo,hq,hc,hs,hst]
  have hw : w.setCells g k [v] = w.setCell ⟨g,k,none⟩ v:=rfl
  rw [hw] at hrun
  unfold Oper.wp execOp
  simp only [ho,hx,hy,Instr.storeAt,Instr.sureAddr,Sem.run_bind,Sem.run_pure,Result.andThen_ok,hrun]
  exact hK _ _ (h _ (hg.set k v) (jV (jQ _ _)) (by simp))
def frV (f : Nat × Nat) : Nat → Value
  | 0 => .int .i64 (f.1 : Int)
  | _ => .int .i64 (f.2 : Int)
structure Sv where
  A : Option Addr
  len : Nat
  cap : Nat
  stack : List (Nat × Nat)
instance : Inhabited Sv:=⟨⟨none,0,0,[]⟩⟩
def svV (x : Sv) : Value:=.slice x.A x.len x.cap
structure Sv.Ok (x : Sv) (w : World) (B : Nat) : Prop where
  row : Recs 2 frV w B x.A x.len x.stack
  lc : x.len ≤ x.cap
  cm : x.cap ≤ maxLen
structure Tv where
  sv : Sv
  slots : List Nat
instance : Inhabited Tv:=⟨⟨default,[]⟩⟩
def tvV (x : Tv) : Nat → Value
  | 0 => .slice x.sv.A x.sv.len x.sv.cap
  | j + 1 => .int .i64 (x.slots.getD j 0 : Int)
def tvT (x : Tv) : M.Th:=⟨x.sv.stack,x.slots⟩
structure Pc where
  A : Option Addr
  len : Nat
  cap : Nat
  tvs : List Tv
  ow : List Nat
def pcC (q : Pc) : List Value:=.slice q.A q.len q.cap :: q.ow.map natV
def pcA (q : Pc) : Value:=.agg (pcC q).toArray
def Pc.cf (q : Pc) : M.Cf:=⟨q.tvs.map tvT,q.ow⟩
structure Pc.Ok (q : Pc) (w : World) (B : Nat) : Prop where
  row : Recs 9 tvV w B q.A q.len q.tvs
  lc : q.len ≤ q.cap
  cm : q.cap ≤ maxLen
  svs : ∀ x ∈ q.tvs,x.sv.Ok w B
theorem Sv.Ok.keep {x : Sv} {w w' : World} {B : Nat} (h : x.Ok w B) (hk : ∀ p : Addr,p.block < B → w'.cell? p = w.cell? p) : x.Ok w' B:=⟨h.row.keep hk,h.lc,h.cm⟩
theorem Sv.Ok.more {x : Sv} {w : World} {B B' : Nat} (h : x.Ok w B) (hB : B ≤ B') : x.Ok w B':=⟨h.row.more hB,h.lc,h.cm⟩
theorem Pc.Ok.keep {q : Pc} {w w' : World} {B : Nat} (h : q.Ok w B) (hk : ∀ p : Addr,p.block < B → w'.cell? p = w.cell? p) : q.Ok w' B:=⟨h.row.keep hk,h.lc,h.cm,fun x hx => (h.svs x hx).keep hk⟩
theorem Pc.Ok.below {q : Pc} {w w' : World} {B : Nat} (h : q.Ok w B) (hb : Below B w w') : q.Ok w' B:=h.keep fun _ hp => hb.cell hp
theorem Pc.Ok.more {q : Pc} {w : World} {B B' : Nat} (h : q.Ok w B) (hB : B ≤ B') : q.Ok w B':=⟨h.row.more hB,h.lc,h.cm,fun x hx => (h.svs x hx).more hB⟩
theorem Pc.ths_len (q : Pc) : q.cf.ths.length = q.tvs.length:=by simp [Pc.cf]
theorem Pc.Ok.len {q : Pc} {w : World} {B : Nat} (h : q.Ok w B) : q.cf.ths.length = q.len:=by rw [q.ths_len];exact h.row.len
theorem Pc.th_of {q : Pc} {k : Nat} {x : Tv} (h : q.tvs[k]? = some x) : M.th q.cf k = tvT x:=M.th_is (by show (q.tvs.map tvT)[k]? = _;rw [List.getElem?_map,h];rfl)
theorem Pc.Ok.thread {q : Pc} {w : World} {B : Nat} (h : q.Ok w B) {k : Nat} (hk : k < q.len) :
    ∃ ad x,q.A = some ad ∧ ad.block < B ∧ q.tvs[k]? = some x ∧ x.sv.Ok w B ∧ M.th q.cf k = tvT x ∧ x.sv.stack.length = x.sv.len ∧ w.cell? (ad.add (k * 9)) = some (.slice x.sv.A x.sv.len x.sv.cap) ∧
      ∀ j,w.cell? ⟨(ad.add (k * 9)).block,(ad.add (k * 9)).off + (j + 1),none⟩ = some (.int .i64 (x.slots.getD j 0 : Int)) ∨ 8 ≤ j:=by
  obtain ⟨ad,x,e,hb,hx,h0,hc⟩:=h.row.field hk
  refine ⟨ad,x,e,hb,hx,h.svs x (List.mem_of_getElem? hx),Pc.th_of hx,(h.svs x (List.mem_of_getElem? hx)).row.len,h0 (by omega),fun j => ?_⟩
  rcases Nat.lt_or_ge j 8 with hj | hj
  · exact .inl (hc (j + 1) (by omega) (by omega))
  · exact .inr hj
theorem Sv.Ok.last {x : Sv} {w : World} {B : Nat} (h : x.Ok w B) (h0 : 0 < x.len) :
    ∃ ad,x.A = some ad ∧ ad.block < B ∧ w.cell? (ad.add ((x.len - 1) * 2)) = some (.int .i64 ((M.top x.stack).1 : Int)) ∧ w.cell? ⟨(ad.add ((x.len - 1) * 2)).block,(ad.add ((x.len - 1) * 2)).off + 1,none⟩ = some (.int .i64 ((M.top x.stack).2 : Int)):=by
  obtain ⟨ad,f,e,hb,hx,hc0,hc⟩:=h.row.field (k:=x.len - 1) (by omega)
  have ef : M.top x.stack = f:=by
    unfold M.top
    rw [h.row.len,List.getD_eq_getElem?_getD,hx];rfl
  rw [ef]
  exact ⟨ad,e,hb,hc0 (by omega),hc 1 (by omega) (by omega)⟩
theorem XN {c : M.Cf} {t : Int} (h : t < 0 ∨ (c.ths.length : Int) ≤ t) : M.lives c t = false:=by
  unfold M.lives
  by_cases h0 : 0 ≤ t
  · rw [decide_eq_true h0,Bool.true_and]
    cases hl : M.livesN c t.toNat with
    | false => rfl
    | true => have:=M.lives_lt hl;omega
  · rw [decide_eq_false h0];rfl
theorem lives_in {c : M.Cf} {t : Nat} {x : M.Th} (h : M.th c t = x) : M.lives c (t : Int) = decide (0 < x.stack.length):=by
  rw [M.lives_nat];unfold M.livesN;rw [h]
set_option maxRecDepth 100000 in
set_option maxHeartbeats 800000 in
theorem qA (n c : Int) (_hn : I64 n) (_hc : I64 c) (b : Bool) (hb : decide (0 ≤ n ∧ n < c) = b) (w : World) :
    Calls Tryd.prog 37 #[.int .i64 n,.int .i64 c] w fun e w' => e = .returned (.bool b) ∧ w = w':=by
  subst hb
  by_cases h1 : 0 ≤ n
  · by_cases h2 : n < c
    · rw [decide_eq_true (show 0 ≤ n ∧ n < c from ⟨h1,h2⟩)]
      go_enter Tryd.func37,Tryd.ntmps37
      go_wp2
      go_ret
      exact ⟨rfl,rfl⟩
    · rw [decide_eq_false (show ¬ (0 ≤ n ∧ n < c) from fun h => h2 h.2)]
      go_enter Tryd.func37,Tryd.ntmps37
      go_wp2
      go_ret
      exact ⟨rfl,rfl⟩
  · rw [decide_eq_false (show ¬ (0 ≤ n ∧ n < c) from fun h => h1 h.1)]
    go_enter Tryd.func37,Tryd.ntmps37
    go_wp2
    go_ret
    exact ⟨rfl,rfl⟩
set_option maxRecDepth 100000 in
set_option maxHeartbeats 800000 in
theorem xO (n : Nat) (hn : n ≤ 1000) (w : World) :
    Calls Tryd.prog 38 #[.int .i64 (n : Int)] w fun e w' => e = .returned (.int .i64 ((n + 1 : Nat) : Int)) ∧ w = w':=by
  go_enter Tryd.func38,Tryd.ntmps38
  go_wp2
  go_ret
  exact ⟨l4 (by omega),rfl⟩
set_option maxRecDepth 100000 in
set_option maxHeartbeats 800000 in
theorem LF (n : Nat) (hn : n ≤ 1000) (w : World) :
    Calls Tryd.prog 36 #[.int .i64 (n : Int)] w fun e w' => e = .returned (.int .i64 ((n : Int) - 1)) ∧ w = w':=by
  go_enter Tryd.func36,Tryd.ntmps36
  go_wp2
  go_ret
  exact ⟨l4 (by omega),rfl⟩
set_option maxRecDepth 100000 in
set_option maxHeartbeats 800000 in
theorem vE (a ad : Addr) (n c : Nat) (w : World) (h0 : 0 < n) (hn : n ≤ 1000) (hc : w.cell? a = some (.slice (some ad) n c)) :
    Calls Tryd.prog 33 #[.pointer (some a)] w fun e w' => e = .returned (.pointer (some (ad.add ((n - 1) * 2)))) ∧ ∃ m,w' = w.drewN m:=by
  obtain ⟨k,rfl⟩ : ∃ k,n = k + 1:=⟨n - 1,by omega⟩
  rw [Nat.add_sub_cancel]
  go_enter Tryd.func33,Tryd.ntmps33
  go_wp2
  go_quiet (fail)
  go_wp2
  go_ret
  exact ⟨rfl,_,rfl⟩
set_option maxRecDepth 100000 in
set_option maxHeartbeats 800000 in
theorem zA (B : Nat) (q : Pc) (w : World) (hq : q.Ok w B) (hB : B ≤ w.heap.size) (hl : q.len ≤ 1000) (t : Int) (ht : I64 t) (b : Bool) (hb : M.lives q.cf t = b) :
    Calls Tryd.prog 31 #[pcA q,.int .i64 t] w fun e w' => e = .returned (.bool b) ∧ Below w.heap.size w w':=by
  have hlen:=hq.len
  have HT:=kp ht
  have HLc : Kept (I64 (q.len : Int)):=kp (by unfold I64;omega)
  have hcap:=hq.lc
  have hcm:=hq.cm
  unfold maxLen at hcm
  by_cases hin : 0 ≤ t ∧ t < (q.len : Int)
  · obtain ⟨k,rfl⟩ : ∃ k : Nat,t = (k : Int):=⟨t.toNat,by omega⟩
    have hk : k < q.len:=by omega
    have HIn:=kp (decide_eq_true hin)
    obtain ⟨ad,x,hA,hbl,hx,hok,hth,hsl,hc0,_⟩:=hq.thread hk
    rw [lives_in hth] at hb
    have hb2 : decide (0 < x.sv.len) = b:=by rw [← hb,← hsl];rfl
    have hxm:=hok.cm;have hxc:=hok.lc
    unfold maxLen at hxm
    have HC0:=kp hc0
    obtain ⟨n,hn⟩ : ∃ n,x.sv.len = n:=⟨_,rfl⟩
    rw [hn] at hb2 hxc HC0
    have HE : Kept (pcC q = .slice (some ad) q.len q.cap :: q.ow.map natV):=kp (by unfold pcC;rw [hA])
    have hbz : ad.block < w.heap.size:=by omega
    clear hq hb hx hok hth hsl hc0 hA hin hn hbl hlen ht
    unfold pcA
    rw [HE.out]
    cases b
    all_goals
      go_enter Tryd.func31,Tryd.ntmps31
      go_wp2_with (first
        | ((with_reducible refine j4 rfl 47 (.tmp 0) rfl (.slice (some ad) q.len q.cap :: q.ow.map natV) rfl ?_);intro g1 w1 hg1 hk1 hw1;have HW1:=kp hw1;have hf0:=hk1.cell 0;have hf1:=(hw1.cell (p:=ad.add (k * 9)) (by rw [add_block];exact hbz)).trans HC0.out;simp only [List.getElem?_cons_zero] at hf0;clear hk1 hw1)
        | (go_at_call 37;go_must (refine (qA _ _ HT.out HLc.out true HIn.out _).mono ?_);rintro e w2 ⟨rfl,rfl⟩))
      go_ret
      exact ⟨rfl,HW1.out⟩
  · have hb0 : M.lives q.cf t = false:=XN (by omega)
    rw [hb0] at hb
    subst hb
    have HIn:=kp (decide_eq_false hin)
    clear hq hlen ht hin hb0
    go_enter Tryd.func31,Tryd.ntmps31
    go_wp2_with (first
      | ((with_reducible refine j4 rfl 47 (.tmp 0) rfl (pcC q) rfl ?_);intro g1 w1 hg1 hk1 hw1;have HW1:=kp hw1;have hf0:=hk1.cell 0;simp only [pcC,List.getElem?_cons_zero] at hf0;clear hk1 hw1)
      | (go_at_call 37;go_must (refine (qA _ _ HT.out HLc.out false HIn.out _).mono ?_);rintro e w2 ⟨rfl,rfl⟩))
    go_ret
    exact ⟨rfl,HW1.out⟩
end Go.Proofs.YtfiafbflhglpeaaDoor
