/- ProgP, ProgLaw1, ProgLaw2, ProgOrd, SetMath, SemMath, SemMath2, Owns, Slice, Own, Held, Box, Make, SemIn, SemP1, SemP2. -/
import Derived.Test.YtnaomfmmkhgbhaaPk1
import Derived.Test.YtnaomfmmkhgbhaaProgRef5
import Derived.BigQuiet
import Derived.Test.YtnaomfmmkhgbhaaPk4
import Derived.WalkKit
import Derived.Test.YtnaomfmmkhgbhaaPk2
import Derived.Laws.Slices
import Derived.Deep.QuietTactic
namespace Go.Proofs.Ytnaomfmmkhgbhaa
open Go.RowKit
theorem counts_of {p : Pg} (hlen : p.fns.length = p.len) (h : countsFault p = 0) : Q.Counts p:=by
  unfold countsFault at h
  split at h
  · cases h
  · split at h
    · cases h
    · exact ⟨by omega,by omega,by omega,by omega⟩
theorem QX {p : Pg} (hlen : p.fns.length = p.len) (h : countsFault p ≠ 0) : Q.check p = (-1,-1,countsFault p) ∧ (countsFault p = 1 ∨ countsFault p = 4):=by
  unfold countsFault Q.check at *
  rw [hlen]
  split
  · simp
  · split
    · simp
    · rename_i h1 h2
      rw [if_neg h1,if_neg h2] at h
      exact absurd rfl h
set_option maxRecDepth 1000000 in
set_option maxHeartbeats 8000000 in
theorem zF (B : Nat) (p : Pg) (w : World) (hp : p.Ok w B) (hB : B ≤ w.heap.size) (a b : Int) (c : Nat) (hc : Q.check p = (a,b,c)) :
    Calls Try.prog 33 #[pgA p] w fun e w' => e = .returned (.tuple #[.int .i64 a,.int .i64 b,.int .i64 (c : Int)]) ∧ Below w.heap.size w w':=by
  have HP:=kp hp;have HC:=kp hc
  have hlen:=hp.row.len
  have HLen:=kp hlen
  have hlc:=hp.lc;have hcm:=hp.cm
  unfold maxLen at hcm
  have hcm9 : p.cap ≤ 9223372036854775807:=by omega
  obtain ⟨q,hq⟩ : ∃ q,countsFault p = q:=⟨_,rfl⟩
  have HQ:=kp hq
  clear hp hcm hc
  rw [jI]
  by_cases hq0 : q = 0
  · subst hq0
    have HCo:=kp (counts_of hlen hq)
    clear hlen hq
    go_enter Try.func33,Try.ntmps33
    go_wp2_with (first
      | ((with_reducible refine j2 rfl 24 (.tmp 0) rfl (pgC p) rfl ?_);intro g1 w1 hg1 hk1 hw1;have HK1:=kp hk1;have HW1:=kp hw1;have hs1:=hw1.size;have HP1:=kp (HP.out.below (hw1.mono hB));clear hg1 hk1 hw1)
      | ((with_reducible show Sl 10);go_must (refine j1 rfl 24 (.tmp 1) rfl g1 rfl _ (pgC p) _ HK1.out Try.underlying24 rfl jD ?_))
      | (go_at_call 56;go_must (refine (yH p _ HQ.out _).mono ?_);rintro e9 w2 ⟨rfl,hw2⟩;have HKp2:=kp (HK1.out.below hw2 HK1.out.lt);obtain ⟨hc0,hc1,hc2,hc3⟩:=jE HKp2.out;have HW2:=kp (HW1.out.trans (hw2.mono hs1));have hs2:=HW2.out.size;clear hw2))
    clear hc0 hc1 hc2 hc3
    have HP2:=kp (HP.out.below (HW2.out.mono hB))
    have hB2 : B ≤ w2.heap.size:=by omega
    go_loopw [18] (fun v18 wr => ∃ f : Nat,f ≤ p.len ∧ v18 = .int .i64 f ∧ (∀ j,j < f → ¬ Q.badFn p j) ∧ Below w2.heap.size w2 wr) (fun v18 _ => p.len - (intOf v18).toNat)
    case atStart => exact ⟨0,by omega,rfl,fun j hj => by omega,Below.refl _ _⟩
    case round =>
      obtain ⟨f,hf,rfl,hpre,hbl⟩:=hrel
      have HPre:=kp hpre;have HBL:=kp hbl
      have hszr:=hbl.size
      have HPr:=kp (HP2.out.below (hbl.mono hB2))
      have HKr:=kp (HKp2.out.below hbl HKp2.out.lt)
      have hBr : B ≤ wr.heap.size:=by omega
      clear hpre hbl
      by_cases hlt : f < p.len
      · obtain ⟨ad,fn,e1,hab0,hx,hok0,hcf⟩:=HPr.out.fn hlt
        rw [e1]
        have HX:=kp hx;have HOk:=kp hok0
        obtain ⟨a',c',hfa⟩ : ∃ a' c',Q.fnFault p fn = (a',c'):=⟨_,_,rfl⟩
        have HFa:=kp hfa
        clear hx hok0 e1 hfa
        by_cases hz : c' = 0
        · subst hz
          have HNx : Kept (∀ j,j < f + 1 → ¬ Q.badFn p j):=kp fun j hj h => by
            by_cases e : j = f
            · subst e
              obtain ⟨fn2,h1,h2⟩:=h
              rw [HX.out] at h1
              cases h1
              rw [HFa.out] at h2
              exact h2 rfl
            · exact HPre.out j (by omega) h
          go_wp2_with (first
            | ((with_reducible show Sl 24);go_must (refine j1 rfl 24 (.tmp 1) rfl g1 rfl _ (pgC p) _ HKr.out Try.underlying24 rfl jD ?_))
            | (go_at_call 57;go_must (refine (yW B p fn _ _ HFa.out _ HPr.out HOk.out hBr).mono ?_);rintro e9 w9 ⟨rfl,hw9⟩;have HB9:=kp (HBL.out.trans (hw9.mono hszr));clear hw9))
          go_roundw
          case rel => exact ⟨f + 1,by omega,by go_num,HNx.out,HB9.out⟩
          case measure => simp [intOf];omega
        · have hzb : ((c' : Int) != 0) = true:=by rw [bne_iff_ne];omega
          have HE:=kp (q6 HC.out (Q.check_fn HCo.out HX.out (by rw [HFa.out];exact hz) HPre.out))
          rw [HFa.out] at HE
          clear hz
          go_wp2_with (first
            | ((with_reducible show Sl 24);go_must (refine j1 rfl 24 (.tmp 1) rfl g1 rfl _ (pgC p) _ HKr.out Try.underlying24 rfl jD ?_))
            | (go_at_call 57;go_must (refine (yW B p fn _ _ HFa.out _ HPr.out HOk.out hBr).mono ?_);rintro e9 w9 ⟨rfl,hw9⟩;have HB9:=kp (HBL.out.trans (hw9.mono hszr));clear hw9))
          go_ret3
          exact ⟨HE.out,HW2.out.trans (HB9.out.mono hs2)⟩
      · have HFine : Kept (∀ j,j < p.fns.length → ¬ Q.badFn p j):=kp fun j hj => HPre.out j (by rw [HLen.out] at hj;omega)
        have hge : p.len ≤ f:=by omega
        clear hlt
        go_wp2_with (first
          | ((with_reducible show Sl 35);go_must (refine j1 rfl 24 (.tmp 1) rfl g1 rfl _ (pgC p) _ HKr.out Try.underlying24 rfl jD ?_))
          | (go_at_call 58;go_must (refine (J5 B p _ HPr.out hBr HCo.out HFine.out a b c HC.out).mono ?_);rintro e9 w9 ⟨rfl,hw9⟩;have HB9:=kp (HBL.out.trans (hw9.mono hszr));clear hw9))
        go_ret3
        exact ⟨rfl,HW2.out.trans (HB9.out.mono hs2)⟩
  · obtain ⟨hck,hor⟩:=QX hlen (by rw [hq];exact hq0)
    rw [hq] at hck hor
    have HE:=kp (q6 HC.out hck)
    have hqb : ((q : Int) != 0) = true:=by rw [bne_iff_ne];omega
    clear hck hq hlen hq0 hor
    go_enter Try.func33,Try.ntmps33
    go_wp2_with (first
      | ((with_reducible refine j2 rfl 24 (.tmp 0) rfl (pgC p) rfl ?_);intro g1 w1 hg1 hk1 hw1;have HK1:=kp hk1;have HW1:=kp hw1;have hs1:=hw1.size;clear hg1 hk1 hw1)
      | ((with_reducible show Sl 10);go_must (refine j1 rfl 24 (.tmp 1) rfl g1 rfl _ (pgC p) _ HK1.out Try.underlying24 rfl jD ?_))
      | (go_at_call 56;go_must (refine (yH p _ HQ.out _).mono ?_);rintro e9 w2 ⟨rfl,hw2⟩;have HW2:=kp (HW1.out.trans (hw2.mono hs1));clear hw2))
    go_ret3
    exact ⟨HE.out,HW2.out⟩
theorem yU {P : Nat → Prop} : ∀ {n : Nat},Q.firstIdx P n = none → ∀ j,j < n → ¬ P j
  | 0,_,j,hj => by omega
  | n + 1,h,j,hj => by
    simp only [Q.firstIdx] at h
    cases hf : Q.firstIdx P n with
    | some k => rw [hf] at h;cases h
    | none =>
      rw [hf] at h
      simp only at h
      split at h
      · cases h
      · rename_i hp
        by_cases hjn : j = n
        · subst hjn;exact hp
        · exact yU hf j (by omega)
theorem J0 {P : Nat → Prop} : ∀ {n i : Nat},Q.firstIdx P n = some i → i < n ∧ P i
  | 0,i,h => by cases h
  | n + 1,i,h => by
    simp only [Q.firstIdx] at h
    cases hf : Q.firstIdx P n with
    | some k =>
      rw [hf] at h
      cases h
      obtain ⟨h1,h2⟩:=J0 hf
      exact ⟨by omega,h2⟩
    | none =>
      rw [hf] at h
      simp only at h
      split at h
      · rename_i hp
        cases h
        exact ⟨by omega,hp⟩
      · cases h
structure Fine (p : Pg) : Prop where
  counts : Q.Counts p
  nodes : ∀ j,j < p.fns.length → ¬ Q.badFn p j
  round : ∀ j,j < p.fns.length → ¬ Q.badRound p j
theorem qZ {p : Pg} {a b : Int} (h : Q.check p = (a,b,0)) : Fine p:=by
  unfold Q.check at h
  split at h
  · cases h
  · split at h
    · cases h
    · rename_i h1 h2
      split at h
      · rename_i f hf
        exfalso
        obtain ⟨hlt,fn,hfn,hb⟩:=J0 hf
        have e : p.fns.getD f default = fn:=by rw [List.getD_eq_getElem?_getD,hfn];rfl
        rw [e] at h
        have:=congrArg (fun x : Int × Int × Nat => x.2.2) h
        exact hb this
      · rename_i hf
        split at h
        · cases h
        · rename_i hr
          exact ⟨⟨by omega,by omega,by omega,by omega⟩,yU hf,yU hr⟩
def more (p : Pg) (g l s : Int) : Pg:={ p with g:=g,l:=l,s:=s }
structure OrdInv (R : Nat → Nat → Prop) (len : Nat) (o0 o : Nat → Bool) (f : Nat) : Prop where
  mono : ∀ g,o0 g = true → o g = true
  rest : ∀ g,f ≤ g → o g = o0 g
  done : ∀ g,g < f → (∀ y,R g y → o0 y = true) → o g = true
theorem OrdInv.start (R : Nat → Nat → Prop) (len : Nat) (o : Nat → Bool) : OrdInv R len o o 0:=⟨fun _ h => h,fun _ _ => rfl,fun g h => by omega⟩
theorem OrdInv.skip {R : Nat → Nat → Prop} {len : Nat} {o0 o : Nat → Bool} {f : Nat} (h : OrdInv R len o0 o f) (hn : ¬ (o f = false ∧ ∀ y,R f y → o y = true)) : OrdInv R len o0 o (f + 1):=by
  refine ⟨h.mono,fun g hg => h.rest g (by omega),fun g hg hc => ?_⟩
  by_cases hgf : g = f
  · subst hgf
    cases ho : o g
    · exact absurd ⟨ho,fun y hy => h.mono y (hc y hy)⟩ hn
    · rfl
  · exact h.done g (by omega) hc
theorem OrdInv.take {R : Nat → Nat → Prop} {len : Nat} {o0 o o' : Nat → Bool} {f : Nat} (h : OrdInv R len o0 o f) (h1 : o' f = true) (h2 : ∀ g,g ≠ f → o' g = o g) : OrdInv R len o0 o' (f + 1):=by
  refine ⟨fun g hg => ?_,fun g hg => ?_,fun g hg hc => ?_⟩
  · by_cases hgf : g = f
    · subst hgf;exact h1
    · rw [h2 g hgf];exact h.mono g hg
  · rw [h2 g (by omega)];exact h.rest g (by omega)
  · by_cases hgf : g = f
    · subst hgf;exact h1
    · rw [h2 g hgf];exact h.done g (by omega) hc
theorem QV {p : Pg} (h : Fine p) (hl : p.fns.length = p.len) {x y : Nat} (hc : Q.calls p x y) : y < p.fns.length:=by
  obtain ⟨f,hf,nd,hnd,h7,ha⟩:=hc
  have:=(uP h.nodes f (List.mem_of_getElem? hf) nd hnd h7).2
  omega
theorem QW {p : Pg} (h : Fine p) (hl : p.fns.length = p.len) : ∀ x,x < p.fns.length → ¬ Q.Reach (Q.calls p) p.fns.length x x:=by
  intro x hx hr
  refine h.round x hx ?_
  have key : ∀ y,Q.calls p x y → (y = x ∨ Q.Reach (Q.calls p) p.fns.length y x) → Q.badRound p x:=by
    intro y hc hor
    have hy:=QV h hl hc
    obtain ⟨f,hf,nd,hnd,h7,ha⟩:=hc
    obtain ⟨i,hi⟩:=List.mem_iff_getElem?.1 hnd
    exact ⟨i,f,nd,hf,hi,h7,y,ha,hy,hor⟩
  cases hr with
  | one hc => exact key x hc (.inl rfl)
  | more hc hj hr => exact key _ hc (.inr hr)
end Go.Proofs.Ytnaomfmmkhgbhaa
namespace Go.Proofs.Ytnaomfmmkhgbhaa.S
def has (m : Nat) (id : Int) : Bool:=decide (0 ≤ id ∧ id ≤ 31) && m.testBit id.toNat
def ids (m : Nat) (n : Nat) : List Nat:=(List.range n).filter fun i => m.testBit i
theorem XX (m n : Nat) : ids m (n + 1) = ids m n ++ (if m.testBit n then [n] else []):=by
  unfold ids
  rw [List.range_succ,List.filter_append]
  by_cases h : m.testBit n <;> simp [h]
def mask (l : List Nat) : Nat:=(l.map (2 ^ ·)).sum
def within (a b n : Nat) : Bool:=(List.range n).all fun i => !a.testBit i || b.testBit i
def bad (l : List Int) (size : Int) (i : Nat) : Nat :=
  let x:=l.getD i 0
  if x < 0 ∨ size ≤ x ∨ 31 < x then 1 else if 0 < i ∧ x ≤ l.getD (i - 1) 0 then 5 else 0
def first (l : List Int) (size : Int) : Nat → Nat
  | 0 => 0
  | n + 1 => if first l size n = 0 then bad l size n else first l size n
def count (m : Nat) : Nat:=(ids m 32).length
def least (m : Nat) : Int:=match ids m 32 with | [] => -1 | x :: _ => (x : Int)
def all (n : Int) : Nat:=if n ≤ 0 then 0 else if 32 ≤ n then 4294967295 else 2 ^ n.toNat - 1
def one (id : Int) : Nat:=if 0 ≤ id ∧ id ≤ 31 then 2 ^ id.toNat else 0
end Go.Proofs.Ytnaomfmmkhgbhaa.S
namespace Go.Proofs.Ytnaomfmmkhgbhaa.M
structure Th where
  stack : List (Nat × Nat)
  slots : List Nat
instance : Inhabited Th:=⟨⟨[],[]⟩⟩
structure Cf where
  ths : List Th
  owners : List Nat
def start : Cf:=⟨[⟨[(0,0)],List.replicate 8 0⟩],List.replicate 16 0⟩
def th (c : Cf) (t : Nat) : Th:=c.ths.getD t default
def livesN (c : Cf) (t : Nat) : Bool:=decide (0 < (th c t).stack.length)
def lives (c : Cf) (t : Int) : Bool:=decide (0 ≤ t) && livesN c t.toNat
def top (s : List (Nat × Nat)) : Nat × Nat:=s.getD (s.length - 1) (0,0)
def nodeAt (p : Pg) (x : Nat × Nat) : Nd:=(p.fns.getD x.1 default).nodes.getD x.2 default
def node (p : Pg) (c : Cf) (t : Nat) : Nd:=nodeAt p (top (th c t).stack)
def enabledN (p : Pg) (c : Cf) (t : Nat) : Bool :=
  livesN c t &&
    (if (node p c t).kind = 3 then decide (c.owners.getD (node p c t).arg.toNat 0 = 0)
     else if (node p c t).kind = 6 then !lives c (((th c t).slots.getD (node p c t).arg.toNat 0 : Int) - 1)
     else if (node p c t).kind = 5 then decide (c.ths.length < 8) else true)
def enabled (p : Pg) (c : Cf) (t : Int) : Bool:=decide (0 ≤ t) && enabledN p c t.toNat
def goOn (s : List (Nat × Nat)) (n : Nat) : List (Nat × Nat):=s.set (s.length - 1) ((top s).1,n)
def act (c : Cf) (t : Nat) (n : Nd) (way : Bool) : Cf :=
  if n.kind = 9 then ⟨c.ths.set t ⟨(th c t).stack.take ((th c t).stack.length - 1),(th c t).slots⟩,c.owners⟩
  else if n.kind = 3 then ⟨c.ths.set t ⟨goOn (th c t).stack n.next.toNat,(th c t).slots⟩,c.owners.set n.arg.toNat (t + 1)⟩
  else if n.kind = 4 then ⟨c.ths.set t ⟨goOn (th c t).stack n.next.toNat,(th c t).slots⟩,if c.owners.getD n.arg.toNat 0 = t + 1 then c.owners.set n.arg.toNat 0 else c.owners⟩
  else if n.kind = 5 then ⟨c.ths.set t ⟨goOn (th c t).stack n.next.toNat,(th c t).slots.set n.alt.toNat (c.ths.length + 1)⟩ ++ [⟨[(n.arg.toNat,0)],List.replicate 8 0⟩],c.owners⟩
  else if n.kind = 7 then ⟨c.ths.set t ⟨goOn (th c t).stack n.next.toNat ++ [(n.arg.toNat,0)],(th c t).slots⟩,c.owners⟩
  else if n.kind = 8 ∧ way = true then ⟨c.ths.set t ⟨goOn (th c t).stack n.alt.toNat,(th c t).slots⟩,c.owners⟩
  else ⟨c.ths.set t ⟨goOn (th c t).stack n.next.toNat,(th c t).slots⟩,c.owners⟩
def step (p : Pg) (c : Cf) (t : Int) (way : Bool) : Cf:=if enabled p c t = true then act c t.toNat (node p c t.toNat) way else c
def heldTo (o : List Nat) (t : Nat) : Nat → Nat
  | 0 => 0
  | k + 1 => if o.getD k 0 = t + 1 then heldTo o t k ||| 2 ^ k else heldTo o t k
def held (c : Cf) (t : Int) : Nat:=if 0 ≤ t ∧ t < (c.ths.length : Int) then heldTo c.owners t.toNat 16 else 0
def Linked (p : Pg) (l : List Nat) : Prop:=∀ i a b,l[i]? = some a → l[i + 1]? = some b → Q.calls p a b
structure Good (p : Pg) (c : Cf) : Prop where
  one : 1 ≤ c.ths.length
  most : c.ths.length ≤ 8
  owns : c.owners.length = 16
  own : ∀ o ∈ c.owners,o ≤ c.ths.length
  eight : ∀ x ∈ c.ths,x.slots.length = 8
  slot : ∀ x ∈ c.ths,∀ s ∈ x.slots,s ≤ 8
  spot : ∀ x ∈ c.ths,∀ f ∈ x.stack,∃ fn,p.fns[f.1]? = some fn ∧ f.2 < fn.nodes.length
  chain : ∀ x ∈ c.ths,Linked p (x.stack.map (·.1))
theorem fine_node {p : Pg} (hf : Fine p) {f i : Nat} {fn : Fn} {x : Nd} (hfn : p.fns[f]? = some fn) (hx : fn.nodes[i]? = some x) : Q.may p.g p.l p.s p.len x fn.nodes.length = true :=
  (Q.fine_fn hfn (hf.nodes f (List.getElem?_eq_some_iff.1 hfn).1)).2.2 i x hx
theorem uA {p : Pg} (hf : Fine p) {f : Nat} {fn : Fn} (hfn : p.fns[f]? = some fn) : 0 < fn.nodes.length :=
  (Q.fine_fn hfn (hf.nodes f (List.getElem?_eq_some_iff.1 hfn).1)).1
structure Fit (p : Pg) (x : Nd) (nodes : Nat) : Prop where
  kind : 0 ≤ x.kind ∧ x.kind ≤ 9
  next : 0 ≤ x.next
  nextLt : x.kind ≠ 9 → x.next < nodes
  alt : 0 ≤ x.alt
  arg : 0 ≤ x.arg
  lock : x.kind = 3 ∨ x.kind = 4 → x.arg < 16
  join : x.kind = 6 → x.arg < 8
  spawn : x.kind = 5 → x.arg < p.len ∧ x.alt < 8
  call : x.kind = 7 → x.arg < p.len
  branch : x.kind = 8 → x.alt < nodes
theorem fit_of {p : Pg} (hc : Q.Counts p) {x : Nd} {nodes : Nat} (h : Q.may p.g p.l p.s p.len x nodes = true) (h0 : 0 < nodes) : Fit p x nodes:=by
  have hl:=hc.l;have hs:=hc.s
  unfold Q.may at h
  simp only [Bool.and_eq_true,decide_eq_true_eq,List.all_eq_true,List.mem_range] at h
  obtain ⟨hr,hall⟩:=h
  have hk : 0 ≤ x.kind ∧ x.kind ≤ 9:=by
    unfold Q.row at hr
    by_cases hb : x.kind < 0 ∨ 9 < x.kind
    · rw [if_pos hb] at hr;exact absurd rfl hr
    · omega
  have a0:=hall 0 (by omega)
  have a1:=hall 1 (by omega)
  have a2:=hall 2 (by omega)
  simp only [Q.fields,List.getD_cons_zero,List.getD_cons_succ] at a0 a1 a2
  have hrow : Q.row x.kind = Q.rows.getD x.kind.toNat []:=by unfold Q.row;rw [if_neg (by omega)]
  rw [hrow] at a0 a1 a2
  obtain ⟨k,hkk⟩ : ∃ k : Nat,x.kind = (k : Int):=⟨x.kind.toNat,by omega⟩
  rw [hkk] at a0 a1 a2
  simp only [Int.toNat_natCast] at a0 a1 a2
  have hmax : max (nodes : Int) 1 = nodes:=by omega
  have hk9 : k ≤ 9:=by omega
  have cases_ : k = 0 ∨ k = 1 ∨ k = 2 ∨ k = 3 ∨ k = 4 ∨ k = 5 ∨ k = 6 ∨ k = 7 ∨ k = 8 ∨ k = 9:=by omega
  rcases cases_ with rfl | rfl | rfl | rfl | rfl | rfl | rfl | rfl | rfl | rfl <;>
    simp [Q.rows,Q.size,hmax] at a0 a1 a2 <;>
    (refine ⟨hk,by omega,fun h => by omega,by omega,by omega,fun h => by omega,fun h => by omega,fun h => by omega,fun h => by omega,fun h => by omega⟩)
theorem th_mem {c : Cf} {t : Nat} (h : t < c.ths.length) : th c t ∈ c.ths:=by
  unfold th;rw [List.getD_eq_getElem?_getD,List.getElem?_eq_getElem h];exact List.getElem_mem h
theorem th_is {c : Cf} {t : Nat} {x : Th} (h : c.ths[t]? = some x) : th c t = x:=by unfold th;rw [List.getD_eq_getElem?_getD,h];rfl
theorem lives_lt {c : Cf} {t : Nat} (h : livesN c t = true) : t < c.ths.length:=by
  rcases Nat.lt_or_ge t c.ths.length with h1 | h1
  · exact h1
  · exfalso
    unfold livesN th at h
    rw [List.getD_eq_getElem?_getD,List.getElem?_eq_none h1] at h
    exact absurd h (by decide)
theorem top_mem {s : List (Nat × Nat)} (h : 0 < s.length) : top s ∈ s:=by
  unfold top;rw [List.getD_eq_getElem?_getD,List.getElem?_eq_getElem (by omega)];exact List.getElem_mem _
theorem top_at {s : List (Nat × Nat)} (h : 0 < s.length) : s[s.length - 1]? = some (top s):=by
  unfold top;rw [List.getD_eq_getElem?_getD,List.getElem?_eq_getElem (by omega)];rfl
theorem enabled_lives {p : Pg} {c : Cf} {t : Nat} (h : enabledN p c t = true) : livesN c t = true:=by
  unfold enabledN at h;rw [Bool.and_eq_true] at h;exact h.1
theorem node_is {p : Pg} {c : Cf} (hg : Good p c) {t : Nat} (h : livesN c t = true) :
    ∃ fn,p.fns[(top (th c t).stack).1]? = some fn ∧ (top (th c t).stack).2 < fn.nodes.length ∧ fn.nodes[(top (th c t).stack).2]? = some (node p c t):=by
  have ht:=lives_lt h
  have hs : 0 < (th c t).stack.length:=by unfold livesN at h;simpa using h
  obtain ⟨fn,h1,h2⟩:=hg.spot _ (th_mem ht) _ (top_mem hs)
  refine ⟨fn,h1,h2,?_⟩
  unfold node nodeAt
  have e : p.fns.getD (top (th c t).stack).1 default = fn:=by rw [List.getD_eq_getElem?_getD,h1];rfl
  rw [e,List.getD_eq_getElem?_getD,List.getElem?_eq_getElem h2];rfl
theorem node_fit {p : Pg} (hf : Fine p) {c : Cf} (hg : Good p c) {t : Nat} (h : livesN c t = true) {fn : Fn} (hfn : p.fns[(top (th c t).stack).1]? = some fn) : Fit p (node p c t) fn.nodes.length:=by
  obtain ⟨fn',h1,h2,h3⟩:=node_is hg h
  rw [hfn] at h1;cases h1
  exact fit_of hf.counts (fine_node hf hfn h3) (uA hf hfn)
theorem JZ : ∀ (n : Nat) (l : List Nat),l.Nodup → (∀ x ∈ l,x < n) → l.length ≤ n
  | 0,l,_,h => by
    cases l with
    | nil => simp
    | cons x l => exact absurd (h x (by simp)) (by omega)
  | n + 1,l,hn,h => by
    by_cases hm : n ∈ l
    · have:=JZ n (l.erase n) (hn.erase n) fun x hx => by
        have h1:=(hn.mem_erase_iff).1 hx
        have:=h x h1.2
        have:=h1.1
        omega
      rw [List.length_erase_of_mem hm] at this
      omega
    · have:=JZ n l hn fun x hx => by
        have:=h x hx
        have : x ≠ n:=fun e => hm (e ▸ hx)
        omega
      omega
theorem J1 {p : Pg} (hf : Fine p) (hl : p.fns.length = p.len) {s : List Nat} (hc : Linked p s) :
    ∀ (d i a b : Nat),s[i]? = some a → s[i + d + 1]? = some b → Q.Reach (Q.calls p) p.fns.length a b
  | 0,i,a,b,ha,hb => .one (hc i a b ha hb)
  | d + 1,i,a,b,ha,hb => by
    have hlt : i + d + 1 + 1 < s.length:=by
      have:=(List.getElem?_eq_some_iff.1 hb).1;omega
    have hm:=List.getElem?_eq_getElem (show i + 1 < s.length by omega)
    have h1:=hc i a _ ha hm
    refine .more h1 (QV hf hl h1) (J1 hf hl hc d (i + 1) _ b hm ?_)
    rw [show i + 1 + d + 1 = i + (d + 1) + 1 by omega];exact hb
theorem high {p : Pg} (hf : Fine p) (hl : p.fns.length = p.len) {c : Cf} (hg : Good p c) {x : Th} (hx : x ∈ c.ths) : x.stack.length ≤ p.fns.length:=by
  have:=JZ p.fns.length (x.stack.map (·.1)) ?_ ?_
  · simpa using this
  · rw [List.nodup_iff_pairwise_ne,List.pairwise_iff_getElem]
    intro i j hi hj hij e
    have hr:=J1 hf hl (hg.chain x hx) (j - i - 1) i _ _ (List.getElem?_eq_getElem hi) (by rw [show i + (j - i - 1) + 1 = j by omega];exact List.getElem?_eq_getElem hj)
    rw [e] at hr
    obtain ⟨f,hfm,hfe⟩:=List.mem_map.1 (List.getElem_mem hj)
    obtain ⟨fn,h1,_⟩:=hg.spot x hx f hfm
    rw [← hfe] at hr
    exact QW hf hl _ (List.getElem?_eq_some_iff.1 h1).1 hr
  · intro y hy
    obtain ⟨f,hfm,rfl⟩:=List.mem_map.1 hy
    obtain ⟨fn,h1,_⟩:=hg.spot x hx f hfm
    exact (List.getElem?_eq_some_iff.1 h1).1
theorem good_start {p : Pg} (hf : Fine p) : Good p start:=by
  have h1:=hf.counts.f.1
  refine ⟨by simp [start],by simp [start],by simp [start],fun o ho => ?_,fun x hx => ?_,fun x hx s hs => ?_,fun x hx f hfm => ?_,fun x hx => ?_⟩
  · have:=List.eq_of_mem_replicate ho;omega
  · have e:=List.mem_singleton.1 hx;subst e;rfl
  · have e:=List.mem_singleton.1 hx;subst e
    have:=List.eq_of_mem_replicate hs;omega
  · have e:=List.mem_singleton.1 hx;subst e
    have e:=List.mem_singleton.1 hfm;subst e
    have h2:=List.getElem?_eq_getElem h1
    exact ⟨_,h2,uA hf h2⟩
  · have e:=List.mem_singleton.1 hx;subst e
    intro i a b _ hb
    simp at hb
theorem goOn_len (s : List (Nat × Nat)) (n : Nat) : (goOn s n).length = s.length:=by unfold goOn;rw [List.length_set]
theorem Y1 (s : List (Nat × Nat)) (n : Nat) : (goOn s n).map (·.1) = s.map (·.1):=by
  apply List.ext_getElem?
  intro i
  unfold goOn
  rw [List.getElem?_map,List.getElem?_map,List.getElem?_set]
  by_cases e : s.length - 1 = i
  · subst e
    rw [if_pos rfl]
    by_cases h : s.length - 1 < s.length
    · rw [if_pos h,List.getElem?_eq_getElem h]
      simp [top,List.getD_eq_getElem?_getD,List.getElem?_eq_getElem h]
    · rw [if_neg h,List.getElem?_eq_none (by omega)]
  · rw [if_neg e]
theorem goOn_mem {s : List (Nat × Nat)} {n : Nat} {f : Nat × Nat} (h : f ∈ goOn s n) : f ∈ s ∨ f = ((top s).1,n):=List.mem_or_eq_of_mem_set h
theorem xQ {p : Pg} {c : Cf} (hg : Good p c) (t : Nat) (s : List (Nat × Nat)) (sl ow : List Nat) (h8 : sl.length = 8) (hs8 : ∀ x ∈ sl,x ≤ 8) (hsp : ∀ f ∈ s,∃ fn,p.fns[f.1]? = some fn ∧ f.2 < fn.nodes.length)
    (hch : Linked p (s.map (·.1))) (h16 : ow.length = 16) (how : ∀ o ∈ ow,o ≤ c.ths.length) : Good p ⟨c.ths.set t ⟨s,sl⟩,ow⟩:=by
  have key : ∀ x ∈ c.ths.set t ⟨s,sl⟩,x ∈ c.ths ∨ x = ⟨s,sl⟩:=fun x hx => List.mem_or_eq_of_mem_set hx
  refine ⟨by simpa using hg.one,by simpa using hg.most,h16,by simpa using how,fun x hx => ?_,fun x hx => ?_,fun x hx => ?_,fun x hx => ?_⟩
  · rcases key x hx with h | rfl
    · exact hg.eight x h
    · exact h8
  · rcases key x hx with h | rfl
    · exact hg.slot x h
    · exact hs8
  · rcases key x hx with h | rfl
    · exact hg.spot x h
    · exact hsp
  · rcases key x hx with h | rfl
    · exact hg.chain x h
    · exact hch
theorem vH {l : List Nat} {k v b : Nat} (h : ∀ x ∈ l,x ≤ b) (hv : v ≤ b) : ∀ x ∈ l.set k v,x ≤ b:=fun x hx => by
  rcases List.mem_or_eq_of_mem_set hx with h1 | rfl
  · exact h x h1
  · exact hv
theorem XV {p : Pg} {l : List Nat} (h : Linked p l) {y : Nat} (hy : ∀ a,l[l.length - 1]? = some a → Q.calls p a y) : Linked p (l ++ [y]):=by
  intro i a b ha hb
  have hlt:=(List.getElem?_eq_some_iff.1 hb).1
  simp only [List.length_append,List.length_singleton] at hlt
  rw [List.getElem?_append_left (by omega)] at ha
  by_cases e : i + 1 < l.length
  · rw [List.getElem?_append_left e] at hb
    exact h i a b ha hb
  · have e2 : i = l.length - 1:=by omega
    rw [List.getElem?_append_right (by omega)] at hb
    have e3 : i + 1 - l.length = 0:=by omega
    rw [e3] at hb
    simp at hb
    subst hb
    exact hy a (by rw [← e2];exact ha)
theorem good_act {p : Pg} (hf : Fine p) (hl : p.fns.length = p.len) {c : Cf} (hg : Good p c) {t : Nat} (he : enabledN p c t = true) (way : Bool) : Good p (act c t (node p c t) way):=by
  have hlv:=enabled_lives he
  have ht:=lives_lt hlv
  have hm:=th_mem ht
  have hs0 : 0 < (th c t).stack.length:=by unfold livesN at hlv;simpa using hlv
  obtain ⟨fn,hfn,hin,hnd⟩:=node_is hg hlv
  have hfit:=node_fit hf hg hlv hfn
  obtain ⟨n,hn⟩ : ∃ n,node p c t = n:=⟨_,rfl⟩
  rw [hn] at hfit hnd
  have e8:=hg.eight _ hm
  have s8:=hg.slot _ hm
  have spot : ∀ m : Nat,m < fn.nodes.length → ∀ f ∈ goOn (th c t).stack m,∃ fn,p.fns[f.1]? = some fn ∧ f.2 < fn.nodes.length:=fun m hm2 f hfm => by
    rcases goOn_mem hfm with h | rfl
    · exact hg.spot _ hm f h
    · exact ⟨fn,hfn,hm2⟩
  have chain : ∀ m : Nat,Linked p ((goOn (th c t).stack m).map (·.1)):=fun m => by rw [Y1];exact hg.chain _ hm
  have hk:=hfit.kind
  have h0:=hfit.next;have h1:=hfit.nextLt;have ha:=hfit.arg
  unfold act
  rw [hn]
  by_cases k9 : n.kind = 9
  · rw [if_pos k9]
    refine xQ hg t _ _ _ e8 s8 (fun f hfm => hg.spot _ hm f (List.mem_of_mem_take hfm)) ?_ hg.owns hg.own
    intro i a b hA hB
    rw [List.map_take] at hA hB
    have hlt:=(List.getElem?_eq_some_iff.1 hB).1
    rw [List.length_take] at hlt
    rw [List.getElem?_take,if_pos (by omega)] at hA hB
    exact hg.chain _ hm i a b hA hB
  rw [if_neg k9]
  have hnx : n.next.toNat < fn.nodes.length:=by have:=h1 k9;omega
  by_cases k3 : n.kind = 3
  · rw [if_pos k3]
    exact xQ hg t _ _ _ e8 s8 (spot _ hnx) (chain _) (by rw [List.length_set];exact hg.owns) (vH hg.own (by omega))
  rw [if_neg k3]
  by_cases k4 : n.kind = 4
  · rw [if_pos k4]
    refine xQ hg t _ _ _ e8 s8 (spot _ hnx) (chain _) ?_ ?_
    · split
      · rw [List.length_set];exact hg.owns
      · exact hg.owns
    · split
      · exact vH hg.own (by omega)
      · exact hg.own
  rw [if_neg k4]
  by_cases k5 : n.kind = 5
  · rw [if_pos k5]
    have h8 : c.ths.length < 8:=by
      unfold enabledN at he
      rw [hn,if_neg k3,if_neg (by omega),if_pos k5] at he
      rw [Bool.and_eq_true,decide_eq_true_eq] at he
      exact he.2
    have hG:=xQ hg t (goOn (th c t).stack n.next.toNat) ((th c t).slots.set n.alt.toNat (c.ths.length + 1)) c.owners (by rw [List.length_set];exact e8) (vH s8 (by omega)) (spot _ hnx) (chain _) hg.owns hg.own
    have hsp:=hfit.spawn k5
    have h2 : n.arg.toNat < p.fns.length:=by omega
    have h3:=List.getElem?_eq_getElem h2
    refine ⟨by simp,by simp;omega,hg.owns,fun o ho => ?_,fun x hx => ?_,fun x hx => ?_,fun x hx => ?_,fun x hx => ?_⟩
    · have:=hg.own o ho
      simp;omega
    all_goals rcases List.mem_append.1 hx with h | h
    · exact hG.eight x h
    · have e:=List.mem_singleton.1 h;subst e;rfl
    · exact hG.slot x h
    · have e:=List.mem_singleton.1 h;subst e
      intro s hs
      have:=List.eq_of_mem_replicate hs;omega
    · exact hG.spot x h
    · have e:=List.mem_singleton.1 h;subst e
      intro f hfm
      have e:=List.mem_singleton.1 hfm;subst e
      exact ⟨_,h3,uA hf h3⟩
    · exact hG.chain x h
    · have e:=List.mem_singleton.1 h;subst e
      intro i a b _ hb
      simp at hb
  rw [if_neg k5]
  by_cases k7 : n.kind = 7
  · rw [if_pos k7]
    have hcl : Q.calls p (top (th c t).stack).1 n.arg.toNat:=⟨fn,hfn,n,List.mem_of_getElem? hnd,k7,by omega⟩
    have h2:=QV hf hl hcl
    have h3:=List.getElem?_eq_getElem h2
    refine xQ hg t _ _ _ e8 s8 (fun f hfm => ?_) ?_ hg.owns hg.own
    · rcases List.mem_append.1 hfm with h | h
      · exact spot _ hnx f h
      · have e:=List.mem_singleton.1 h;subst e
        exact ⟨_,h3,uA hf h3⟩
    · rw [List.map_append]
      refine XV (chain _) fun a ha2 => ?_
      rw [Y1,List.length_map,List.getElem?_map,top_at hs0] at ha2
      cases ha2
      exact hcl
  rw [if_neg k7]
  by_cases k8 : n.kind = 8 ∧ way = true
  · rw [if_pos k8]
    have:=hfit.branch k8.1
    have:=hfit.alt
    exact xQ hg t _ _ _ e8 s8 (spot _ (by omega)) (chain _) hg.owns hg.own
  · rw [if_neg k8]
    exact xQ hg t _ _ _ e8 s8 (spot _ hnx) (chain _) hg.owns hg.own
theorem good_step {p : Pg} (hf : Fine p) (hl : p.fns.length = p.len) {c : Cf} (hg : Good p c) (t : Int) (way : Bool) : Good p (step p c t way):=by
  unfold step
  split
  · rename_i h
    unfold enabled at h
    rw [Bool.and_eq_true] at h
    exact good_act hf hl hg h.2 way
  · exact hg
end Go.Proofs.Ytnaomfmmkhgbhaa.M
namespace Go.Proofs.Ytnaomfmmkhgbhaa.M
theorem enabled_split {p : Pg} {c : Cf} {t : Int} (h : enabled p c t = true) : 0 ≤ t ∧ enabledN p c t.toNat = true:=by
  unfold enabled at h
  rw [Bool.and_eq_true,decide_eq_true_eq] at h
  exact h
theorem step_same {p : Pg} {c : Cf} {t : Int} {way : Bool} (h : enabled p c t = false) : step p c t way = c:=by
  unfold step;rw [h];rfl
theorem lives_nat (c : Cf) (u : Nat) : lives c (u : Int) = livesN c u:=by simp [lives]
theorem step_way {p : Pg} {c : Cf} {t : Nat} (h : ¬ (livesN c t = true ∧ (node p c t).kind = 8 ∧ (node p c t).next ≠ (node p c t).alt)) : step p c t false = step p c t true:=by
  unfold step
  split
  · rename_i he
    obtain ⟨h0,h1⟩:=enabled_split he
    rw [Int.toNat_natCast] at h1 ⊢
    have hl:=enabled_lives h1
    obtain ⟨n,hn⟩ : ∃ n,node p c t = n:=⟨_,rfl⟩
    rw [hn] at h ⊢
    unfold act
    by_cases k8 : n.kind = 8
    · have e : n.next = n.alt:=by
        by_cases e : n.next = n.alt
        · exact e
        · exact absurd ⟨hl,k8,e⟩ h
      have n9 : ¬ n.kind = 9:=by omega
      have n3 : ¬ n.kind = 3:=by omega
      have n4 : ¬ n.kind = 4:=by omega
      have n5 : ¬ n.kind = 5:=by omega
      have n7 : ¬ n.kind = 7:=by omega
      have key : ∀ b : Bool,(if n.kind = 8 ∧ b = true then (⟨c.ths.set t ⟨goOn (th c t).stack n.alt.toNat,(th c t).slots⟩,c.owners⟩ : Cf) else ⟨c.ths.set t ⟨goOn (th c t).stack n.next.toNat,(th c t).slots⟩,c.owners⟩) = ⟨c.ths.set t ⟨goOn (th c t).stack n.alt.toNat,(th c t).slots⟩,c.owners⟩:=fun b => by
        rw [e];exact ite_self _
      rw [if_neg n9,if_neg n3,if_neg n4,if_neg n5,if_neg n7,if_neg n9,if_neg n3,if_neg n4,if_neg n5,if_neg n7,key false,key true]
    · have key : ∀ b : Bool,(if n.kind = 8 ∧ b = true then (⟨c.ths.set t ⟨goOn (th c t).stack n.alt.toNat,(th c t).slots⟩,c.owners⟩ : Cf) else ⟨c.ths.set t ⟨goOn (th c t).stack n.next.toNat,(th c t).slots⟩,c.owners⟩) = ⟨c.ths.set t ⟨goOn (th c t).stack n.next.toNat,(th c t).slots⟩,c.owners⟩:=fun b => if_neg fun h => k8 h.1
      rw [key false,key true]
  · rfl
end Go.Proofs.Ytnaomfmmkhgbhaa.M
namespace Go.Proofs.Ytnaomfmmkhgbhaa
open Go.RowKit
def cellsR {α : Type} (sz : Nat) (f : α → Nat → Value) (l : List α) : List Value:=l.flatMap fun x => (List.range sz).map (f x)
theorem lU {α : Type} (sz : Nat) (f : α → Nat → Value) : ∀ l : List α,(cellsR sz f l).length = l.length * sz
  | [] => by simp [cellsR]
  | x :: l => by
    have ih:=lU sz f l
    unfold cellsR at ih ⊢
    rw [List.flatMap_cons,List.length_append,ih,List.length_map,List.length_range,List.length_cons,Nat.add_mul];omega
theorem xT {α : Type} (sz : Nat) (f : α → Nat → Value) (l l' : List α) : cellsR sz f (l ++ l') = cellsR sz f l ++ cellsR sz f l':=by unfold cellsR;rw [List.flatMap_append]
theorem lE {α : Type} (sz : Nat) (f : α → Nat → Value) : ∀ (l : List α) (k j : Nat) (x : α),l[k]? = some x → j < sz → (cellsR sz f l)[k * sz + j]? = some (f x j)
  | [],k,j,x,h,_ => by simp at h
  | y :: l,0,j,x,h,hj => by
    have e : y = x:=by simpa using h
    subst e
    unfold cellsR
    rw [List.flatMap_cons,Nat.zero_mul,Nat.zero_add,List.getElem?_append_left (by simpa using hj),List.getElem?_map,List.getElem?_range hj];rfl
  | y :: l,k + 1,j,x,h,hj => by
    have ih:=lE sz f l k j x (by simpa using h) hj
    unfold cellsR at ih ⊢
    rw [List.flatMap_cons,List.getElem?_append_right (by simp [Nat.add_mul];omega),List.length_map,List.length_range,show (k + 1) * sz + j - sz = k * sz + j by rw [Nat.add_mul];omega]
    exact ih
def OwnR {α : Type} (sz : Nat) (f : α → Nat → Value) (w : World) (B : Nat) (e : TypeId) (v : Value) (l : List α) : Prop:=w.ownsRow B e sz v l.length (cellsR sz f l)
section
variable {α : Type} {sz : Nat} {f : α → Nat → Value} {w w' : World} {B : Nat} {e : TypeId} {v : Value} {l : List α}
theorem OwnR.nil (sz : Nat) (f : α → Nat → Value) (w : World) (B : Nat) (e : TypeId) : OwnR sz f w B e (.slice none 0 0) []:=World.ownsRow_nil w B e sz
theorem OwnR.block (h : OwnR sz f w B e v l) : ∀ k,v.ownBlock = some k → B ≤ k ∧ k < w.heap.size:=World.ownsRow.lt h
theorem OwnR.far {row : Option Nat} (h : OwnR sz f w B e v l) (hg : w.grownBy w' row) (hne : v.ownBlock = none ∨ v.ownBlock ≠ row) : OwnR sz f w' B e v l:=World.ownsRow.kept h hg hne
theorem OwnR.below {C : Nat} (h : OwnR sz f w B e v l) (hb : Below C w w') (hC : w.heap.size ≤ C) : OwnR sz f w' B e v l:=by
  refine h.far (row:=none) ⟨hb.os,hb.tape,hb.output,hb.size,fun i hi _ => hb.block i (by omega)⟩ ?_
  cases hv : v.ownBlock with
  | none => exact .inl rfl
  | some k => exact .inr (by simp)
theorem OwnR.form (h : OwnR sz f w B e v l) : ∃ A cap,v = .slice A l.length cap ∧ l.length ≤ cap ∧ cap ≤ maxLen ∧ Recs sz f w w.heap.size A l.length l:=by
  rcases h.2 with ⟨hv,h0⟩ | ⟨g,cap,cur,hv,hB,hg,hn,hm,hs,ht⟩
  · refine ⟨none,0,by rw [h0];exact hv,by omega,by simp [maxLen],⟨rfl,fun hn => by omega⟩⟩
  · refine ⟨_,cap,hv,hn,hm,⟨rfl,fun _ => ⟨_,rfl,?_,fun k x hx j hj => ?_⟩⟩⟩
    · exact (World.ownsRow.lt h g (by rw [hv];rfl)).2
    · exact World.ownsRow.cells h (g:=g) (by rw [hv];rfl) _ _ (lE sz f l k j x hx hj)
end
theorem vN {P : Program} {ops : Array Oper} {rest : List Oper} {o : Oper} {a : Act} {Q : Exit → Act → World → Prop} (hgd : o.guard = none) (s x : Operand) (t : TypeId)
    (ho : o.op = .call { callee:=.builtin .append,args:=#[s,x],argTypes:=#[t,t] })
    (B : Nat) (e : TypeId) (sz : Nat) (z : Value) (bytes : Nat) (ht : P.underlying t = some (.slice e)) (hi : (P.info? e).map (fun i => (i.zero,i.size,i.bytes)) = some (some z,sz,bytes)) (hzs : z.cells.size = sz) (hsz : 0 < sz)
    {α : Type} (f : α → Nat → Value) (hone : ∀ x j,(f x j).oneCell' = true)
    (w : World) (v : Value) (l : List α) (u : α) (hs : a.eval s = v) (hown : OwnR sz f w B e v l) (ad : Addr) (c : Nat) (hx : a.eval x = .slice (some ad) 1 c) (had : ad = ⟨w.heap.size,0,none⟩)
    (cs : Array Value) (hcs : cs = ((List.range sz).map (f u)).toArray) (h63 : l.length + 1 ≤ maxLen) (hbytes : (l.length + 1) * bytes ≤ 140737488355328) (hB : B ≤ w.heap.size)
    (h : ∀ v' w',OwnR sz f w' B e v' (l ++ [u]) → Grew w w' v v' → wpList P ops Q rest (a.put o.dst v') w') : wpList P ops Q (o :: rest) a (w.alloc (.cells cs e)):=by
  subst had
  subst hcs
  obtain ⟨i,hi0,hzz⟩:=Option.map_eq_some_iff.1 hi
  simp only [Prod.mk.injEq] at hzz
  obtain ⟨hz,hsize,hby⟩:=hzz
  have hnb:=Blk.new w e ((List.range sz).map (f u))
  refine wpList_append_lies _ hgd s x t ho B e i z sz bytes ht hi0 hz hsize hby hzs hsz v l.length (cellsR sz f l) hs (World.ownsRow.alloc hown _) _ 1 c ((List.range sz).map (f u)) hx (by simp)
    (fun j y hy => by
      have hadd : (⟨w.heap.size,0,none⟩ : Addr).add j = ⟨w.heap.size,j,none⟩:=by unfold Addr.add;split <;> simp_all
      rw [hadd,hnb.cell j];exact hy)
    (fun y hy => by
      obtain ⟨j,_,rfl⟩:=List.mem_map.1 hy
      exact hone u j)
    (by omega) h63 hbytes (by simp;omega) _ rfl ?_
  intro g cap w' h2 h3 h4 h5
  refine h _ w' ?_ ⟨uZ _ _ _ h3,?_⟩
  rotate_left
  · rcases h4 with h4 | h4
    · exact .inl h4.symm
    · refine .inr fun k hk => ?_
      have : g = k:=by simpa [Value.ownBlock] using hk
      subst this
      rw [h4];simp
  unfold OwnR
  rw [List.length_append,List.length_singleton,xT]
  have e1 : cellsR sz f [u] = (List.range sz).map (f u):=by simp [cellsR]
  rw [e1]
  exact h2
theorem Own.split {w : World} {B n : Nat} {e : TypeId} {v : Value} {bs : List Nat} (h : Own w B e v (bs.map byteV)) (hn : bs.length = n) :
    ∃ (A : Option Addr) (c : Nat),v = .slice A n c ∧ n ≤ c ∧ c ≤ maxLen ∧ Row byteV w w.heap.size A n bs ∧ (∀ ad : Addr,A = some ad → B ≤ ad.block ∧ ad.block < w.heap.size) ∧
      (0 < n → ∃ (g : Nat) (cur : List Value),A = some ⟨g,0,none⟩ ∧ Blk w g e cur ∧ n ≤ cur.length ∧ ∀ (k x : Nat),bs[k]? = some x → cur[k]? = some (byteV x)):=by
  obtain ⟨A,c,rfl,hc,hm,hr⟩:=h.bytesN hn
  refine ⟨A,c,rfl,hc,hm,hr,fun ad e1 => ?_,fun h0 => ?_⟩
  · subst e1
    exact h.block ad.block rfl
  · rcases h.2 with ⟨hv,hz⟩ | ⟨g,cap,cur,hv,_,hg,_,_,_,ht⟩
    · rw [List.length_map] at hz;omega
    · injection hv with e1 e2 e3
      subst e1
      refine ⟨g,cur.toList,rfl,by unfold Blk;simpa using hg,?_,fun k x hx => ?_⟩
      · have:=congrArg List.length ht
        rw [List.length_take,List.length_map] at this
        omega
      · have hk : k < n:=by rw [← hn];exact (List.getElem?_eq_some_iff.1 hx).1
        have h2 : (List.map byteV bs)[k]? = some (byteV x):=by rw [List.getElem?_map,hx];rfl
        rw [← ht,List.getElem?_take,List.length_map,hn,Nat.mul_one,if_pos hk] at h2
        exact h2
structure Held (S : Nat → Prop) (w w' : World) : Prop where
  os : w'.os = w.os
  tape : w'.tape = w.tape
  output : w'.output = w.output
  size : w.heap.size ≤ w'.heap.size
  block : ∀ k,S k → w'.heap[k]? = w.heap[k]?
theorem Held.refl (S : Nat → Prop) (w : World) : Held S w w:=⟨rfl,rfl,rfl,Nat.le_refl _,fun _ _ => rfl⟩
theorem Held.trans {S : Nat → Prop} {w w1 w2 : World} (h : Held S w w1) (k : Held S w1 w2) : Held S w w2 :=
  ⟨k.os.trans h.os,k.tape.trans h.tape,k.output.trans h.output,Nat.le_trans h.size k.size,fun i hi => (k.block i hi).trans (h.block i hi)⟩
theorem Held.less {S S' : Nat → Prop} {w w' : World} (h : Held S w w') (hS : ∀ k,S' k → S k) : Held S' w w':=⟨h.os,h.tape,h.output,h.size,fun k hk => h.block k (hS k hk)⟩
theorem Held.below {B : Nat} {w w' : World} (h : Held (· < B) w w') : Below B w w':=⟨h.os,h.tape,h.output,h.size,h.block⟩
theorem Held.of_below {S : Nat → Prop} {B : Nat} {w w' : World} (h : Below B w w') (hS : ∀ k,S k → k < B) : Held S w w':=⟨h.os,h.tape,h.output,h.size,fun k hk => h.block k (hS k hk)⟩
theorem Held.of_grown {S : Nat → Prop} {row : Option Nat} {w w' : World} (h : w.grownBy w' row) (hS : ∀ k,S k → k < w.heap.size ∧ some k ≠ row) : Held S w w' :=
  ⟨h.os,h.tape,h.output,h.size,fun k hk => h.block k (hS k hk).1 (hS k hk).2⟩
theorem Held.cell {S : Nat → Prop} {w w' : World} (h : Held S w w') (p : Addr) (hp : S p.block) : w'.cell? p = w.cell? p:=World.cell?_of_block (w:=w) (h.block p.block hp)
theorem Held.drewN {S : Nat → Prop} {w w' : World} (h : Held S w w') (n : Nat) : Held S w (w'.drewN n):=⟨h.os,h.tape,h.output,h.size,h.block⟩
theorem Row.heldAt {α : Type} {f : α → Value} {w w' : World} {B n : Nat} {A : Option Addr} {l : List α} {S : Nat → Prop} (h : Row f w B A n l) (hb : Held S w w') (hS : ∀ ad,0 < n → A = some ad → S ad.block) : Row f w' B A n l :=
  ⟨h.len,fun hn => by
    obtain ⟨ad,e,hB,hc⟩:=h.cells hn
    exact ⟨ad,e,hB,fun k hlt => (hb.cell _ (by rw [add_block];exact hS ad hn e)).trans (hc k hlt)⟩⟩
theorem Blk.held {S : Nat → Prop} {w w' : World} {g : Nat} {t : TypeId} {cs : List Value} (h : Blk w g t cs) (hb : Held S w w') (hg : S g) : Blk w' g t cs:=by
  unfold Blk;rw [hb.block g hg];exact h
theorem Own.heldAt {S : Nat → Prop} {w w' : World} {B : Nat} {e : TypeId} {v : Value} {xs : List Value} (h : Own w B e v xs) (hb : Held S w w') (hS : ∀ k,v.ownBlock = some k → S k) : Own w' B e v xs:=by
  refine ⟨h.1,?_⟩
  rcases h.2 with h1 | ⟨g,cap,cur,hv,hB,hg,rest⟩
  · exact .inl h1
  · exact .inr ⟨g,cap,cur,hv,hB,by rw [hb.block g (hS g (by rw [hv];rfl))];exact hg,rest⟩
theorem Own.front {w : World} {B : Nat} {e : TypeId} {A : Option Addr} {n c : Nat} {xs : List Value} (h : Own w B e (.slice A n c) xs) {m : Nat} (hm : m ≤ n) : Own w B e (.slice A m c) (xs.take m):=by
  have hl : xs.length = n:=by
    rcases h.2 with ⟨hv,hz⟩ | ⟨g,cap,cur,hv,_,_,_,_,_,_⟩
    · injection hv with _ e2 _;omega
    · injection hv with _ e2 _;omega
  rcases h.2 with ⟨hv,hz⟩ | ⟨g,cap,cur,hv,hB,hg,hn,hcm,hs,ht⟩
  · injection hv with e1 e2 e3
    have h0 : m = 0:=by omega
    subst e1 e3 h0
    rw [List.take_zero]
    exact Own.nil w B e
  · injection hv with e1 e2 e3
    subst e1 e3
    refine ⟨by simp,.inr ⟨g,c,cur,?_,hB,hg,?_,hcm,hs,?_⟩⟩
    · rw [List.length_take,Nat.min_eq_left (by omega)]
    · rw [List.length_take];omega
    · rw [Nat.mul_one,List.length_take,Nat.min_eq_left (by omega)]
      rw [Nat.mul_one] at ht
      rw [← ht,List.take_take,Nat.min_eq_left (by omega)]
theorem Own.blk {w : World} {B : Nat} {e : TypeId} {v : Value} {xs : List Value} (h : Own w B e v xs) (h0 : 0 < xs.length) :
    ∃ (r c : Nat) (cur : List Value),v = .slice (some ⟨r,0,none⟩) xs.length c ∧ Blk w r e cur ∧ cur.length = c ∧ xs.length ≤ c ∧ c ≤ maxLen ∧ cur.take xs.length = xs ∧ B ≤ r:=by
  rcases h.2 with ⟨_,hz⟩ | ⟨g,cap,cur,hv,hB,hg,hn,hcm,hs,ht⟩
  · omega
  · exact ⟨g,cap,cur.toList,hv,by unfold Blk;simpa using hg,by simpa using hs,hn,hcm,by simpa using ht,hB⟩
def Var (w : World) (S : Nat → Prop) (g : Nat) (t e : TypeId) (xs : List Value) : Prop :=
  ∃ v,Blk w g t [v] ∧ Own w 0 e v xs ∧ v.ownBlock ≠ some g ∧ ¬ S g ∧ (∀ k,v.ownBlock = some k → ¬ S k) ∧ ∀ k,S k → k < w.heap.size
theorem Var.kept {w w' : World} {S S' : Nat → Prop} {g : Nat} {t e : TypeId} {xs : List Value} {row : Option Nat} (h : Var w S g t e xs) (hg : w.grownBy w' row) (hr : ∀ k,row = some k → S k) (hS : ∀ k,S' k → S k ∨ (w.heap.size ≤ k ∧ k < w'.heap.size)) : Var w' S' g t e xs:=by
  obtain ⟨v,h1,h2,h3,h4,h5,h6⟩:=h
  have hgl:=h1.lt
  refine ⟨v,h1.grown hg (fun e1 => h4 (hr g e1.symm)),h2.far hg ?_,h3,fun hs => ?_,fun k hk hs => ?_,fun k hk => ?_⟩
  · cases hv : v.ownBlock with
    | none => exact .inl rfl
    | some k => exact .inr fun e1 => h5 k hv (hr k e1.symm)
  · rcases hS g hs with h | h
    · exact h4 h
    · omega
  · have:=(h2.block k hk).2
    rcases hS k hs with h | h
    · exact h5 k hk h
    · omega
  · have:=hg.size
    rcases hS k hk with h | h
    · have:=h6 k h;omega
    · exact h.2
theorem Var.below {w w' : World} {S S' : Nat → Prop} {g : Nat} {t e : TypeId} {xs : List Value} (h : Var w S g t e xs) (hb : Below w.heap.size w w') (hS : ∀ k,S' k → S k ∨ (w.heap.size ≤ k ∧ k < w'.heap.size)) : Var w' S' g t e xs :=
  h.kept (jN hb none) (fun k hk => by cases hk) hS
theorem Var.less {w : World} {S S' : Nat → Prop} {g : Nat} {t e : TypeId} {xs : List Value} (h : Var w S g t e xs) (hS : ∀ k,S' k → S k) : Var w S' g t e xs:=by
  obtain ⟨v,h1,h2,h3,h4,h5,h6⟩:=h
  exact ⟨v,h1,h2,h3,fun h => h4 (hS _ h),fun k hk h => h5 k hk (hS _ h),fun k h => h6 k (hS _ h)⟩
theorem Var.drewN {w : World} {S : Nat → Prop} {g : Nat} {t e : TypeId} {xs : List Value} (h : Var w S g t e xs) (n : Nat) : Var (w.drewN n) S g t e xs:=h.below (below_drewN (Below.refl _ _) n) fun _ h => .inl h
theorem Var.not {w : World} {S : Nat → Prop} {g : Nat} {t e : TypeId} {xs : List Value} (h : Var w S g t e xs) : ¬ S g:=by
  obtain ⟨v,_,_,_,h4,_⟩:=h
  exact h4
theorem Var.lt {w : World} {S : Nat → Prop} {g : Nat} {t e : TypeId} {xs : List Value} (h : Var w S g t e xs) : ∀ k,S k → k < w.heap.size:=by
  obtain ⟨v,_,_,_,_,_,h6⟩:=h
  exact h6
theorem Var.opens {α : Type} {f : α → Value} {w : World} {S : Nat → Prop} {g : Nat} {t e : TypeId} {l : List α} {n : Nat} (h : Var w S g t e (l.map f)) (hn : l.length = n) :
    ∃ A c,w.cell? ⟨g,0,none⟩ = some (.slice A n c) ∧ Blk w g t [.slice A n c] ∧ n ≤ c ∧ c ≤ maxLen ∧ Row f w w.heap.size A n l ∧ Own w 0 e (.slice A n c) (l.map f) ∧
      (0 < n → ∃ r cur,A = some ⟨r,0,none⟩ ∧ Blk w r e cur ∧ cur.length = c ∧ cur.take n = l.map f ∧ r ≠ g ∧ ¬ S r):=by
  obtain ⟨v,h1,h2,h3,h4,h5,h6⟩:=h
  obtain ⟨A,c,rfl,hc,hm,hr⟩:=h2.readsN hn
  refine ⟨A,c,h1.cell 0,h1,hc,hm,hr,h2,fun h0 => ?_⟩
  obtain ⟨r,c2,cur,hv,hb,hcl,_,_,ht,_⟩:=h2.blk (by rw [List.length_map];omega)
  injection hv with e1 e2 e3
  subst e1 e3
  rw [List.length_map,hn] at ht
  exact ⟨r,cur,rfl,hb,hcl,ht,fun e1 => h3 (by rw [e1];rfl),h5 r rfl⟩
theorem JB {P : Program} {ops : Array Oper} {rest : List Oper} {o : Oper} {a : Act} {w : World} {Q : Exit → Act → World → Prop} (hgd : o.guard = none) (ty : TypeId) (x : Operand) (ho : o.op = .box ty x)
    (v : Value) (hx : a.eval x = v) (hv : v.cells = #[v])
    (h : ∀ g w',w.heap.size ≤ g → Blk w' g ty [v] → Below w.heap.size w w' → wpList P ops Q rest (a.put o.dst (.pointer (some ⟨g,0,none⟩))) w') : wpList P ops Q (o :: rest) a w:=by
  refine wpList_plain hgd fun K hK => ?_
  unfold Oper.wp
  simp [execOp,ho,hx,Instr.box,newVar,newRow,hv,Result.andThen]
  exact hK _ _ (h _ _ (Nat.le_refl _) (Blk.newAt rfl rfl) ((Below.refl _ _).alloc (Nat.le_refl _) _))
theorem yD {P : Program} {ops : Array Oper} {rest : List Oper} {o : Oper} {a : Act} {w : World} {Q : Exit → Act → World → Prop} (hgd : o.guard = none) (ty : TypeId) (ho : o.op = .alloc ty)
    (v : Value) (hz : (P.info? ty).map (·.zero) = some (some v)) (hv : v.cells = #[v])
    (h : ∀ g w',w.heap.size ≤ g → Blk w' g ty [v] → Below w.heap.size w w' → wpList P ops Q rest (a.put o.dst (.pointer (some ⟨g,0,none⟩))) w') : wpList P ops Q (o :: rest) a w:=by
  refine wpList_plain hgd fun K hK => ?_
  cases hq : P.info? ty with
  | none => simp [hq] at hz
  | some i =>
    have hz' : i.zero = some v:=by simpa [hq] using hz
    unfold Oper.wp
    simp [execOp,ho,Instr.alloc,zeroValue,typeInfo,hq,hz',newVar,newRow,hv,Result.andThen]
    exact hK _ _ (h _ _ (Nat.le_refl _) (Blk.newAt rfl rfl) ((Below.refl _ _).alloc (Nat.le_refl _) _))
theorem Var.new {w : World} {S : Nat → Prop} {g : Nat} {t e : TypeId} {v : Value} {xs : List Value} (hb : Blk w g t [v]) (ho : Own w 0 e v xs) (hne : v.ownBlock ≠ some g) (hg : ¬ S g) (hS : ∀ k,v.ownBlock = some k → ¬ S k) (hl : ∀ k,S k → k < w.heap.size) : Var w S g t e xs :=
  ⟨v,hb,ho,hne,hg,hS,hl⟩
theorem j6 {P : Program} {ops : Array Oper} {rest : List Oper} {o : Oper} {a : Act} {w : World} {Q : Exit → Act → World → Prop} (hgd : o.guard = none) (ty : TypeId) (x y : Operand) (ho : o.op = .store ty x y)
    (g k : Nat) (v : Value) (hx : a.eval x = .pointer (some ⟨g,k,none⟩)) (hy : a.eval y = v) (h1 : v.oneCell' = true) (hc : v.cells = #[v])
    (t : TypeId) (cs : List Value) (hg : Blk w g t cs) (hk : k < cs.length) (hi : (P.info? ty).map (·.size) = some 1)
    (h : ∀ w',Blk w' g t (cs.set k v) → w.grownBy w' (some g) → w'.heap.size = w.heap.size → wpList P ops Q rest (a.put o.dst undef) w') : wpList P ops Q (o :: rest) a w:=by
  refine wpList_plain hgd fun K hK => ?_
  have hrun : (storeVar ty ⟨g,k,none⟩ v).run P w = .ok () (w.setCells g k [v]):=by
    have hst:=run_storeCells_cells (P:=P) g k [v] 0 w (fun j hj => by
      have : j = 0:=by simp at hj;exact hj
      subst this
      show (w.cell? ⟨g,k,none⟩).isSome = true
      rw [hg.cell,List.getElem?_eq_getElem hk];rfl) (fun j hj => by
      have : j = 0:=by simp at hj;exact hj
      subst this
      exact hg.frozen _) (fun u hu => by rw [List.mem_singleton] at hu;subst hu;exact h1)
    cases hq : P.info? ty with
    | none => simp [hq] at hi
    | some i =>
      have hs : i.size = 1:=by simpa [hq] using hi
      simp only [Nat.add_zero] at hst
      simp [storeVar,sizeOf,typeInfo,hq,hc,hs,hst]
  have hw : w.setCells g k [v] = w.setCell ⟨g,k,none⟩ v:=rfl
  rw [hw] at hrun
  unfold Oper.wp execOp
  simp only [ho,hx,hy,Instr.storeAt,Instr.sureAddr,Sem.run_bind,Sem.run_pure,Result.andThen_ok,hrun]
  exact hK _ _ (h _ (hg.set k v) (uN (yR _ _)) (by simp))
def frV (f : Nat × Nat) : Nat → Value
  | 0 => .int .i64 (f.1 : Int)
  | _ => .int .i64 (f.2 : Int)
structure Sv where
  A : Option Addr
  len : Nat
  cap : Nat
  stack : List (Nat × Nat)
instance : Inhabited Sv:=⟨⟨none,0,0,[]⟩⟩
def svV (x : Sv) : Value:=.slice x.A x.len x.cap
structure Sv.Ok (x : Sv) (w : World) (B : Nat) : Prop where
  row : Recs 2 frV w B x.A x.len x.stack
  lc : x.len ≤ x.cap
  cm : x.cap ≤ maxLen
structure Tv where
  sv : Sv
  slots : List Nat
instance : Inhabited Tv:=⟨⟨default,[]⟩⟩
def tvV (x : Tv) : Nat → Value
  | 0 => .slice x.sv.A x.sv.len x.sv.cap
  | j + 1 => .int .i64 (x.slots.getD j 0 : Int)
def tvT (x : Tv) : M.Th:=⟨x.sv.stack,x.slots⟩
structure Pc where
  A : Option Addr
  len : Nat
  cap : Nat
  tvs : List Tv
  ow : List Nat
def pcC (q : Pc) : List Value:=.slice q.A q.len q.cap :: q.ow.map natV
def pcA (q : Pc) : Value:=.agg (pcC q).toArray
def Pc.cf (q : Pc) : M.Cf:=⟨q.tvs.map tvT,q.ow⟩
structure Pc.Ok (q : Pc) (w : World) (B : Nat) : Prop where
  row : Recs 9 tvV w B q.A q.len q.tvs
  lc : q.len ≤ q.cap
  cm : q.cap ≤ maxLen
  svs : ∀ x ∈ q.tvs,x.sv.Ok w B
theorem Sv.Ok.keep {x : Sv} {w w' : World} {B : Nat} (h : x.Ok w B) (hk : ∀ p : Addr,p.block < B → w'.cell? p = w.cell? p) : x.Ok w' B:=⟨h.row.keep hk,h.lc,h.cm⟩
theorem Sv.Ok.more {x : Sv} {w : World} {B B' : Nat} (h : x.Ok w B) (hB : B ≤ B') : x.Ok w B':=⟨h.row.more hB,h.lc,h.cm⟩
theorem Pc.Ok.keep {q : Pc} {w w' : World} {B : Nat} (h : q.Ok w B) (hk : ∀ p : Addr,p.block < B → w'.cell? p = w.cell? p) : q.Ok w' B:=⟨h.row.keep hk,h.lc,h.cm,fun x hx => (h.svs x hx).keep hk⟩
theorem Pc.Ok.below {q : Pc} {w w' : World} {B : Nat} (h : q.Ok w B) (hb : Below B w w') : q.Ok w' B:=h.keep fun _ hp => hb.cell hp
theorem Pc.Ok.more {q : Pc} {w : World} {B B' : Nat} (h : q.Ok w B) (hB : B ≤ B') : q.Ok w B':=⟨h.row.more hB,h.lc,h.cm,fun x hx => (h.svs x hx).more hB⟩
theorem Pc.ths_len (q : Pc) : q.cf.ths.length = q.tvs.length:=by simp [Pc.cf]
theorem Pc.Ok.len {q : Pc} {w : World} {B : Nat} (h : q.Ok w B) : q.cf.ths.length = q.len:=by rw [q.ths_len];exact h.row.len
theorem Pc.th_of {q : Pc} {k : Nat} {x : Tv} (h : q.tvs[k]? = some x) : M.th q.cf k = tvT x:=M.th_is (by show (q.tvs.map tvT)[k]? = _;rw [List.getElem?_map,h];rfl)
theorem Pc.Ok.thread {q : Pc} {w : World} {B : Nat} (h : q.Ok w B) {k : Nat} (hk : k < q.len) :
    ∃ ad x,q.A = some ad ∧ ad.block < B ∧ q.tvs[k]? = some x ∧ x.sv.Ok w B ∧ M.th q.cf k = tvT x ∧ x.sv.stack.length = x.sv.len ∧ w.cell? (ad.add (k * 9)) = some (.slice x.sv.A x.sv.len x.sv.cap) ∧
      ∀ j,w.cell? ⟨(ad.add (k * 9)).block,(ad.add (k * 9)).off + (j + 1),none⟩ = some (.int .i64 (x.slots.getD j 0 : Int)) ∨ 8 ≤ j:=by
  obtain ⟨ad,x,e,hb,hx,h0,hc⟩:=h.row.field hk
  refine ⟨ad,x,e,hb,hx,h.svs x (List.mem_of_getElem? hx),Pc.th_of hx,(h.svs x (List.mem_of_getElem? hx)).row.len,h0 (by omega),fun j => ?_⟩
  rcases Nat.lt_or_ge j 8 with hj | hj
  · exact .inl (hc (j + 1) (by omega) (by omega))
  · exact .inr hj
theorem Sv.Ok.last {x : Sv} {w : World} {B : Nat} (h : x.Ok w B) (h0 : 0 < x.len) :
    ∃ ad,x.A = some ad ∧ ad.block < B ∧ w.cell? (ad.add ((x.len - 1) * 2)) = some (.int .i64 ((M.top x.stack).1 : Int)) ∧ w.cell? ⟨(ad.add ((x.len - 1) * 2)).block,(ad.add ((x.len - 1) * 2)).off + 1,none⟩ = some (.int .i64 ((M.top x.stack).2 : Int)):=by
  obtain ⟨ad,f,e,hb,hx,hc0,hc⟩:=h.row.field (k:=x.len - 1) (by omega)
  have ef : M.top x.stack = f:=by
    unfold M.top
    rw [h.row.len,List.getD_eq_getElem?_getD,hx];rfl
  rw [ef]
  exact ⟨ad,e,hb,hc0 (by omega),hc 1 (by omega) (by omega)⟩
theorem uM {c : M.Cf} {t : Int} (h : t < 0 ∨ (c.ths.length : Int) ≤ t) : M.lives c t = false:=by
  unfold M.lives
  by_cases h0 : 0 ≤ t
  · rw [decide_eq_true h0,Bool.true_and]
    cases hl : M.livesN c t.toNat with
    | false => rfl
    | true => have:=M.lives_lt hl;omega
  · rw [decide_eq_false h0];rfl
theorem XU {c : M.Cf} {t : Nat} {x : M.Th} (h : M.th c t = x) : M.lives c (t : Int) = decide (0 < x.stack.length):=by
  rw [M.lives_nat];unfold M.livesN;rw [h]
set_option maxRecDepth 100000 in
set_option maxHeartbeats 800000 in
theorem zP (n c : Int) (_hn : I64 n) (_hc : I64 c) (b : Bool) (hb : decide (0 ≤ n ∧ n < c) = b) (w : World) :
    Calls Try.prog 61 #[.int .i64 n,.int .i64 c] w fun e w' => e = .returned (.bool b) ∧ w = w':=by
  subst hb
  by_cases h1 : 0 ≤ n
  · by_cases h2 : n < c
    · rw [decide_eq_true (show 0 ≤ n ∧ n < c from ⟨h1,h2⟩)]
      go_enter Try.func61,Try.ntmps61
      go_wp2
      go_ret
      exact ⟨rfl,rfl⟩
    · rw [decide_eq_false (show ¬ (0 ≤ n ∧ n < c) from fun h => h2 h.2)]
      go_enter Try.func61,Try.ntmps61
      go_wp2
      go_ret
      exact ⟨rfl,rfl⟩
  · rw [decide_eq_false (show ¬ (0 ≤ n ∧ n < c) from fun h => h1 h.1)]
    go_enter Try.func61,Try.ntmps61
    go_wp2
    go_ret
    exact ⟨rfl,rfl⟩
set_option maxRecDepth 100000 in
set_option maxHeartbeats 800000 in
theorem JI (n : Nat) (hn : n ≤ 1000) (w : World) :
    Calls Try.prog 79 #[.int .i64 (n : Int)] w fun e w' => e = .returned (.int .i64 ((n + 1 : Nat) : Int)) ∧ w = w':=by
  go_enter Try.func79,Try.ntmps79
  go_wp2
  go_ret
  exact ⟨y1 (by omega),rfl⟩
set_option maxRecDepth 100000 in
set_option maxHeartbeats 800000 in
theorem YK (n : Nat) (hn : n ≤ 1000) (w : World) :
    Calls Try.prog 37 #[.int .i64 (n : Int)] w fun e w' => e = .returned (.int .i64 ((n : Int) - 1)) ∧ w = w':=by
  go_enter Try.func37,Try.ntmps37
  go_wp2
  go_ret
  exact ⟨y1 (by omega),rfl⟩
set_option maxRecDepth 100000 in
set_option maxHeartbeats 800000 in
theorem JJ (a ad : Addr) (n c : Nat) (w : World) (h0 : 0 < n) (hn : n ≤ 1000) (hc : w.cell? a = some (.slice (some ad) n c)) :
    Calls Try.prog 60 #[.pointer (some a)] w fun e w' => e = .returned (.pointer (some (ad.add ((n - 1) * 2)))) ∧ ∃ m,w' = w.drewN m:=by
  obtain ⟨k,rfl⟩ : ∃ k,n = k + 1:=⟨n - 1,by omega⟩
  rw [Nat.add_sub_cancel]
  go_enter Try.func60,Try.ntmps60
  go_wp2
  go_quiet (fail)
  go_wp2
  go_ret
  exact ⟨rfl,_,rfl⟩
set_option maxRecDepth 100000 in
set_option maxHeartbeats 800000 in
theorem uF (B : Nat) (q : Pc) (w : World) (hq : q.Ok w B) (hB : B ≤ w.heap.size) (hl : q.len ≤ 1000) (t : Int) (ht : I64 t) (b : Bool) (hb : M.lives q.cf t = b) :
    Calls Try.prog 36 #[pcA q,.int .i64 t] w fun e w' => e = .returned (.bool b) ∧ Below w.heap.size w w':=by
  have hlen:=hq.len
  have HT:=kp ht
  have HLc : Kept (I64 (q.len : Int)):=kp (by unfold I64;omega)
  have hcap:=hq.lc
  have hcm:=hq.cm
  unfold maxLen at hcm
  by_cases hin : 0 ≤ t ∧ t < (q.len : Int)
  · obtain ⟨k,rfl⟩ : ∃ k : Nat,t = (k : Int):=⟨t.toNat,by omega⟩
    have hk : k < q.len:=by omega
    have HIn:=kp (decide_eq_true hin)
    obtain ⟨ad,x,hA,hbl,hx,hok,hth,hsl,hc0,_⟩:=hq.thread hk
    rw [XU hth] at hb
    have hb2 : decide (0 < x.sv.len) = b:=by rw [← hb,← hsl];rfl
    have hxm:=hok.cm;have hxc:=hok.lc
    unfold maxLen at hxm
    have HC0:=kp hc0
    obtain ⟨n,hn⟩ : ∃ n,x.sv.len = n:=⟨_,rfl⟩
    rw [hn] at hb2 hxc HC0
    have HE : Kept (pcC q = .slice (some ad) q.len q.cap :: q.ow.map natV):=kp (by unfold pcC;rw [hA])
    have hbz : ad.block < w.heap.size:=by omega
    clear hq hb hx hok hth hsl hc0 hA hin hn hbl hlen ht
    unfold pcA
    rw [HE.out]
    cases b
    all_goals
      go_enter Try.func36,Try.ntmps36
      go_wp2_with (first
        | ((with_reducible refine j2 rfl 46 (.tmp 0) rfl (.slice (some ad) q.len q.cap :: q.ow.map natV) rfl ?_);intro g1 w1 hg1 hk1 hw1;have HW1:=kp hw1;have hf0:=hk1.cell 0;have hf1:=(hw1.cell (p:=ad.add (k * 9)) (by rw [add_block];exact hbz)).trans HC0.out;simp only [List.getElem?_cons_zero] at hf0;clear hk1 hw1)
        | (go_at_call 61;go_must (refine (zP _ _ HT.out HLc.out true HIn.out _).mono ?_);rintro e w2 ⟨rfl,rfl⟩))
      go_ret
      exact ⟨rfl,HW1.out⟩
  · have hb0 : M.lives q.cf t = false:=uM (by omega)
    rw [hb0] at hb
    subst hb
    have HIn:=kp (decide_eq_false hin)
    clear hq hlen ht hin hb0
    go_enter Try.func36,Try.ntmps36
    go_wp2_with (first
      | ((with_reducible refine j2 rfl 46 (.tmp 0) rfl (pcC q) rfl ?_);intro g1 w1 hg1 hk1 hw1;have HW1:=kp hw1;have hf0:=hk1.cell 0;simp only [pcC,List.getElem?_cons_zero] at hf0;clear hk1 hw1)
      | (go_at_call 61;go_must (refine (zP _ _ HT.out HLc.out false HIn.out _).mono ?_);rintro e w2 ⟨rfl,rfl⟩))
    go_ret
    exact ⟨rfl,HW1.out⟩
end Go.Proofs.Ytnaomfmmkhgbhaa
