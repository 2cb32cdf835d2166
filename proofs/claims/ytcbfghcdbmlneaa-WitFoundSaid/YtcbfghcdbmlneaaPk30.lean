/- SeekMath, SeekMath2, SeekKey, SeekP0, Tail0. -/
import Derived.Test.YtcbfghcdbmlneaaPk16
import Derived.Test.YtcbfghcdbmlneaaPk18
import Derived.Test.YtcbfghcdbmlneaaPk19
import Derived.Test.YtcbfghcdbmlneaaPk2
import Derived.Test.YtcbfghcdbmlneaaPk3
import Derived.Deep.RegionHeld3
namespace Go.Proofs.Ytcbfghcdbmlneaa.K
instance : DecidableEq M.Th:=fun a b => decidable_of_iff (a.stack = b.stack ∧ a.slots = b.slots) (by cases a;cases b;simp)
instance : DecidableEq M.Cf:=fun a b => decidable_of_iff (a.ths = b.ths ∧ a.owners = b.owners) (by cases a;cases b;simp)
def Racy (p : Pg) (c : M.Cf) : Prop:=∃ x y z,M.FirstIs p c x y z 1
theorem racy_of {p : Pg} {c : M.Cf} {x y z h : Int} (hf : M.FirstIs p c x y z h) : h = 1 ↔ Racy p c :=
  ⟨fun e => ⟨x,y,z,e ▸ hf⟩,fun ⟨_,_,_,h'⟩ => (M.first_one hf h').2.2.2⟩
structure En where
  cf : M.Cf
  src : Nat
  who : Nat
  way : Bool
  path : List (Int × Bool)
instance : Inhabited En:=⟨⟨⟨[],[]⟩,0,0,false,[]⟩⟩
structure Sk where
  all : List En
  left : Bool
def has (l : List En) (c : M.Cf) : Bool:=l.any fun e => decide (e.cf = c)
theorem zE {l : List En} {c : M.Cf} : has l c = true ↔ ∃ e ∈ l,e.cf = c:=by unfold has;simp
def put (most : Int) (s : Sk) (e : En) : Sk:=if has s.all e.cf = true then s else if most ≤ (s.all.length : Int) then ⟨s.all,true⟩ else ⟨s.all ++ [e],s.left⟩
def next (p : Pg) (i : Nat) (e : En) (t : Nat) (way : Bool) : En:=⟨M.step p e.cf t way,i,t,way,e.path ++ [((t : Int),way)]⟩
def one (p : Pg) (most : Int) (i : Nat) (e : En) (s : Sk) (t : Nat) : Sk :=
  if M.enabledN p e.cf t = true then (if (M.node p e.cf t).kind = 8 then put most (put most s (next p i e t false)) (next p i e t true) else put most s (next p i e t false)) else s
def thrs (p : Pg) (most : Int) (i : Nat) (e : En) (s : Sk) : Nat → Sk
  | 0 => s
  | k + 1 => one p most i e (thrs p most i e s k) k
def goOn (p : Pg) (most : Int) (i : Nat) (e : En) (s : Sk) : Sk:=thrs p most i e s e.cf.ths.length
def begin (most : Int) : Sk:=put most ⟨[],false⟩ ⟨M.start,0,0,false,[]⟩
def st (p : Pg) (most : Int) : Nat → Sk
  | 0 => begin most
  | k + 1 => goOn p most k ((st p most k).all.getD k default) (st p most k)
def en (p : Pg) (most : Int) (k : Nat) : En:=(st p most k).all.getD k default
theorem st_succ (p : Pg) (most : Int) (k : Nat) : st p most (k + 1) = goOn p most k (en p most k) (st p most k):=rfl
def Out (p : Pg) (most : Int) (l : List (Int × Bool)) (is : Nat) : Prop :=
  ∃ k,(∀ j,j < k → j < (st p most j).all.length ∧ ¬ Racy p (en p most j).cf) ∧
    ((k < (st p most k).all.length ∧ Racy p (en p most k).cf ∧ l = (en p most k).path ∧ is = 1) ∨
     ((st p most k).all.length ≤ k ∧ l = [] ∧ is = if (st p most k).left = true then 0 else 2))
/-! ### what one put does -/
theorem uY (most : Int) (s : Sk) (e : En) : (put most s e).all = s.all ∨ ((put most s e).all = s.all ++ [e] ∧ has s.all e.cf = false ∧ (s.all.length : Int) < most ∧ (put most s e).left = s.left):=by
  unfold put
  by_cases h : has s.all e.cf = true
  · rw [if_pos h];exact .inl rfl
  · rw [if_neg h]
    by_cases h2 : most ≤ (s.all.length : Int)
    · rw [if_pos h2];exact .inl rfl
    · rw [if_neg h2];exact .inr ⟨rfl,by simpa using h,by omega,rfl⟩
theorem Q6 (most : Int) (s : Sk) (e : En) (h : s.left = true) : (put most s e).left = true:=by
  unfold put
  split
  · exact h
  · split
    · rfl
    · exact h
theorem put_in (most : Int) (s : Sk) (e : En) : has (put most s e).all e.cf = true ∨ ((put most s e).left = true ∧ most ≤ (s.all.length : Int)):=by
  unfold put
  by_cases h : has s.all e.cf = true
  · rw [if_pos h];exact .inl h
  · rw [if_neg h]
    by_cases h2 : most ≤ (s.all.length : Int)
    · rw [if_pos h2];exact .inr ⟨rfl,h2⟩
    · rw [if_neg h2];exact .inl (zE.2 ⟨e,by simp,rfl⟩)
theorem JI {p : Pg} {most : Int} {i : Nat} {e : En} (R : Sk → Prop) (h : ∀ s t way,M.enabledN p e.cf t = true → (way = true → (M.node p e.cf t).kind = 8) → R s → R (put most s (next p i e t way))) {s : Sk} (t : Nat) (hs : R s) : R (one p most i e s t):=by
  unfold one
  by_cases h1 : M.enabledN p e.cf t = true
  · rw [if_pos h1]
    by_cases h2 : (M.node p e.cf t).kind = 8
    · rw [if_pos h2]
      exact h _ t true h1 (fun _ => h2) (h _ t false h1 (fun x => by cases x) hs)
    · rw [if_neg h2]
      exact h _ t false h1 (fun x => by cases x) hs
  · rw [if_neg h1];exact hs
theorem vU {p : Pg} {most : Int} {i : Nat} {e : En} (R : Sk → Prop) (h : ∀ s t way,M.enabledN p e.cf t = true → (way = true → (M.node p e.cf t).kind = 8) → R s → R (put most s (next p i e t way))) {s : Sk} (hs : R s) : ∀ n,R (thrs p most i e s n)
  | 0 => hs
  | n + 1 => JI R h n (vU R h hs n)
theorem uE {p : Pg} {most : Int} {i : Nat} {e : En} (R : Sk → Prop) (h : ∀ s t way,M.enabledN p e.cf t = true → (way = true → (M.node p e.cf t).kind = 8) → R s → R (put most s (next p i e t way))) {s : Sk} (hs : R s) : R (goOn p most i e s):=vU R h hs _
/-! ### the list grows at its end -/
def Pre (a b : List En) : Prop:=∃ c,b = a ++ c
theorem Pre.refl (a : List En) : Pre a a:=⟨[],by simp⟩
theorem Pre.trans {a b c : List En} (h : Pre a b) (k : Pre b c) : Pre a c:=by
  obtain ⟨x,rfl⟩:=h;obtain ⟨y,rfl⟩:=k
  exact ⟨x ++ y,by rw [List.append_assoc]⟩
theorem Pre.get {a b : List En} (h : Pre a b) {i : Nat} {e : En} (he : a[i]? = some e) : b[i]? = some e:=by
  obtain ⟨c,rfl⟩:=h
  rw [List.getElem?_append_left (List.getElem?_eq_some_iff.1 he).1];exact he
theorem Pre.len {a b : List En} (h : Pre a b) : a.length ≤ b.length:=by obtain ⟨c,rfl⟩:=h;simp
theorem Pre.has {a b : List En} (h : Pre a b) {c : M.Cf} (hc : K.has a c = true) : K.has b c = true:=by
  obtain ⟨x,rfl⟩:=h
  obtain ⟨e,h1,h2⟩:=zE.1 hc
  exact zE.2 ⟨e,List.mem_append.2 (.inl h1),h2⟩
theorem put_pre (most : Int) (s : Sk) (e : En) : Pre s.all (put most s e).all:=by
  rcases uY most s e with h | ⟨h,_⟩
  · rw [h];exact Pre.refl _
  · exact ⟨[e],h⟩
theorem one_pre (p : Pg) (most : Int) (i : Nat) (e : En) (s : Sk) (t : Nat) : Pre s.all (one p most i e s t).all :=
  JI (fun x => Pre s.all x.all) (fun _ _ _ _ _ h => h.trans (put_pre _ _ _)) t (Pre.refl _)
theorem YK (p : Pg) (most : Int) (i : Nat) (e : En) (s : Sk) (n m : Nat) (h : n ≤ m) : Pre (thrs p most i e s n).all (thrs p most i e s m).all:=by
  induction m with
  | zero => have : n = 0:=by omega
            subst this;exact Pre.refl _
  | succ m ih =>
    by_cases e1 : n = m + 1
    · subst e1;exact Pre.refl _
    · exact (ih (by omega)).trans (one_pre _ _ _ _ _ _)
theorem goOn_pre (p : Pg) (most : Int) (i : Nat) (e : En) (s : Sk) : Pre s.all (goOn p most i e s).all:=YK p most i e s 0 _ (Nat.zero_le _)
theorem st_pre (p : Pg) (most : Int) {a b : Nat} (h : a ≤ b) : Pre (st p most a).all (st p most b).all:=by
  induction b with
  | zero => have : a = 0:=by omega
            subst this;exact Pre.refl _
  | succ b ih =>
    by_cases e1 : a = b + 1
    · subst e1;exact Pre.refl _
    · exact (ih (by omega)).trans (goOn_pre _ _ _ _ _)
theorem en_at {p : Pg} {most : Int} {k : Nat} (h : k < (st p most k).all.length) : (st p most k).all[k]? = some (en p most k):=by
  unfold en
  rw [List.getD_eq_getElem?_getD,List.getElem?_eq_getElem h];rfl
theorem en_is {p : Pg} {most : Int} {j k : Nat} {e : En} (h : (st p most j).all[k]? = some e) (hk : k < (st p most k).all.length) : en p most k = e:=by
  have h1:=en_at hk
  rcases Nat.le_total j k with h2 | h2
  · exact Option.some.inj (h1.symm.trans ((st_pre p most h2).get h))
  · exact Option.some.inj (((st_pre p most h2).get h1).symm.trans h)
/-! ### what is so of all in the list -/
def From (p : Pg) (l : List En) (i : Nat) (e : En) : Prop :=
  (i = 0 ∧ e.cf = M.start ∧ e.path = [] ∧ e.src = 0) ∨ (0 < i ∧ e.src < i ∧ ∃ f,l[e.src]? = some f ∧ M.enabledN p f.cf e.who = true ∧ e.cf = M.step p f.cf (e.who : Int) e.way ∧ e.path = f.path ++ [((e.who : Int),e.way)])
structure Inv (p : Pg) (most : Int) (s : Sk) : Prop where
  good : ∀ e ∈ s.all,M.Good p e.cf
  len : (s.all.length : Int) ≤ most ∨ s.all = []
  apart : ∀ (i j : Nat) (e f : En),s.all[i]? = some e → s.all[j]? = some f → e.cf = f.cf → i = j
  src : ∀ (i : Nat) (e : En),s.all[i]? = some e → From p s.all i e
theorem From.pre {p : Pg} {a b : List En} (h : Pre a b) {i : Nat} {e : En} (hf : From p a i e) : From p b i e:=by
  rcases hf with h1 | ⟨h1,h2,f,h3,h4⟩
  · exact .inl h1
  · exact .inr ⟨h1,h2,f,h.get h3,h4⟩
theorem Inv.put {p : Pg} {most : Int} {s : Sk} (h : Inv p most s) {e : En} (hg : M.Good p e.cf) (hf : From p s.all s.all.length e) : Inv p most (K.put most s e):=by
  rcases uY most s e with h1 | ⟨h1,h2,h3,_⟩
  · refine ⟨by rw [h1];exact h.good,by rw [h1];exact h.len,by rw [h1];exact h.apart,by rw [h1];exact h.src⟩
  · have key : ∀ (i : Nat) (f : En),(s.all ++ [e])[i]? = some f → (s.all[i]? = some f) ∨ (i = s.all.length ∧ f = e):=fun i f hi => by
      rcases Nat.lt_or_ge i s.all.length with hl | hl
      · rw [List.getElem?_append_left hl] at hi;exact .inl hi
      · have h4:=(List.getElem?_eq_some_iff.1 hi).1
        simp only [List.length_append,List.length_singleton] at h4
        have e1 : i = s.all.length:=by omega
        subst e1
        rw [List.getElem?_append_right (Nat.le_refl _),Nat.sub_self] at hi
        exact .inr ⟨rfl,by simpa using hi.symm⟩
    have hno : ∀ (i : Nat) (f : En),s.all[i]? = some f → f.cf ≠ e.cf:=fun i f hi e1 => by
      have:=zE.2 ⟨f,List.mem_of_getElem? hi,e1⟩
      rw [h2] at this;cases this
    rw [show K.put most s e = ⟨s.all ++ [e],(K.put most s e).left⟩ by rw [← h1]]
    refine ⟨fun f hfm => ?_,.inl (by simp only [List.length_append,List.length_singleton];omega),fun i j f g hi hj hc => ?_,fun i f hi => ?_⟩
    · rcases List.mem_append.1 hfm with h4 | h4
      · exact h.good f h4
      · rw [List.mem_singleton.1 h4];exact hg
    · rcases key i f hi with h4 | ⟨h4,h5⟩ <;> rcases key j g hj with h6 | ⟨h6,h7⟩
      · exact h.apart i j f g h4 h6 hc
      · subst h7;exact absurd hc (hno i f h4)
      · subst h5;exact absurd hc.symm (hno j g h6)
      · omega
    · rcases key i f hi with h4 | ⟨h4,h5⟩
      · exact (h.src i f h4).pre ⟨[e],rfl⟩
      · subst h4 h5;exact hf.pre ⟨[f],rfl⟩
theorem vF (most : Int) : (begin most = ⟨[],true⟩ ∧ most < 1) ∨ (begin most = ⟨[⟨M.start,0,0,false,[]⟩],false⟩ ∧ 1 ≤ most):=by
  unfold begin put
  rw [if_neg (by decide)]
  by_cases h : most ≤ (([] : List En).length : Int)
  · rw [if_pos h];exact .inl ⟨rfl,by simp at h;omega⟩
  · rw [if_neg h];exact .inr ⟨rfl,by simp at h;omega⟩
theorem inv_goOn {p : Pg} (hf : Fine p) (hl : p.fns.length = p.len) {most : Int} {i : Nat} {e : En} {s : Sk} (h : Inv p most s) (he : s.all[i]? = some e) : ∀ n,Inv p most (thrs p most i e s n) ∧ (thrs p most i e s n).all[i]? = some e:=by
  intro n
  have hg:=h.good e (List.mem_of_getElem? he)
  refine vU (fun x => Inv p most x ∧ x.all[i]? = some e) (fun x t way h1 _ hx => ?_) ⟨h,he⟩ n
  have hi:=(List.getElem?_eq_some_iff.1 hx.2).1
  refine ⟨hx.1.put (M.good_step hf hl hg _ _) (.inr ⟨by omega,hi,e,hx.2,h1,rfl,rfl⟩),(put_pre _ _ _).get hx.2⟩
theorem inv_st {p : Pg} (hf : Fine p) (hl : p.fns.length = p.len) (most : Int) : ∀ k,Inv p most (st p most k)
  | 0 => by
    rcases vF most with ⟨h,_⟩ | ⟨h,h1⟩
    · rw [show st p most 0 = begin most from rfl,h]
      exact ⟨fun e he => (by cases he),.inr rfl,fun i j e f hi => (by simp at hi),fun i e hi => (by simp at hi)⟩
    · rw [show st p most 0 = begin most from rfl,h]
      have key : ∀ i (e : En),[(⟨M.start,0,0,false,[]⟩ : En)][i]? = some e → i = 0 ∧ e = ⟨M.start,0,0,false,[]⟩:=fun i e hi => by
        cases i with
        | zero => exact ⟨rfl,by simpa using hi.symm⟩
        | succ i => simp at hi
      exact ⟨fun e he => by rw [List.mem_singleton.1 he];exact M.good_start hf,.inl (by simpa using h1),fun i j e f hi hj _ => by rw [(key i e hi).1,(key j f hj).1],fun i e hi => by
        obtain ⟨rfl,rfl⟩:=key i e hi;exact .inl ⟨rfl,rfl,rfl,rfl⟩⟩
  | k + 1 => by
    have ih:=inv_st hf hl most k
    rcases Nat.lt_or_ge k (st p most k).all.length with h | h
    · exact (inv_goOn hf hl ih (en_at h) _).1
    · have e1 : en p most k = default:=by unfold en;rw [List.getD_eq_getElem?_getD,List.getElem?_eq_none h];rfl
      rw [st_succ,e1]
      exact ih
theorem st_len {p : Pg} (hf : Fine p) (hl : p.fns.length = p.len) (most : Int) (k : Nat) : ((st p most k).all.length : Int) ≤ most ∨ (st p most k).all.length = 0:=by
  rcases (inv_st hf hl most k).len with h | h
  · exact .inl h
  · exact .inr (by rw [h];rfl)
end Go.Proofs.Ytcbfghcdbmlneaa.K
namespace Go.Proofs.Ytcbfghcdbmlneaa.K
def to (p : Pg) (z : List (Int × Bool)) (k : Nat) : M.Cf:=(z.take k).foldl (fun c x => M.step p c x.1 x.2) M.start
theorem to_succ (p : Pg) (z : List (Int × Bool)) (k : Nat) (x : Int × Bool) (hx : z[k]? = some x) : to p z (k + 1) = M.step p (to p z k) x.1 x.2:=by
  unfold to
  rw [List.take_add_one,hx,List.foldl_append];rfl
theorem to_end (p : Pg) (z : List (Int × Bool)) (k : Nat) (h : z.length ≤ k) : to p z (k + 1) = to p z k:=by
  unfold to
  rw [List.take_of_length_le h,List.take_of_length_le (by omega)]
theorem YJ (p : Pg) (a b : List (Int × Bool)) {k : Nat} (hk : k ≤ a.length) : to p (a ++ b) k = to p a k:=by
  unfold to;rw [List.take_append_of_le_length hk]
theorem way_to {p : Pg} {most : Int} {s : Sk} (h : Inv p most s) : ∀ (n i : Nat) (e : En),i < n → s.all[i]? = some e →
    to p e.path e.path.length = e.cf ∧ (∀ j,j < e.path.length → ∃ i' e',i' < i ∧ s.all[i']? = some e' ∧ to p e.path j = e'.cf ∧ e'.path.length = j) ∧
      (∀ j x,e.path[j]? = some x → 0 ≤ x.1 ∧ M.enabledN p (to p e.path j) x.1.toNat = true)
  | 0,i,e,hi,_ => absurd hi (by omega)
  | n + 1,i,e,hi,he => by
    rcases h.src i e he with ⟨_,h2,h3,_⟩ | ⟨h1,h2,f,h3,h4,h5,h6⟩
    · rw [h3]
      exact ⟨by rw [h2];rfl,fun j hj => absurd hj (by simp),fun j x hx => by simp at hx⟩
    · obtain ⟨a1,a2,a3⟩:=way_to h n e.src f (by omega) h3
      have hlen : e.path.length = f.path.length + 1:=by rw [h6];simp
      have hat : e.path[f.path.length]? = some ((e.who : Int),e.way):=by rw [h6];simp
      have hfr : ∀ j,j ≤ f.path.length → to p e.path j = to p f.path j:=fun j hj => by rw [h6];exact YJ p _ _ hj
      refine ⟨?_,fun j hj => ?_,fun j x hx => ?_⟩
      · rw [hlen,to_succ p _ _ _ hat,hfr _ (Nat.le_refl _),a1,h5]
      · rcases Nat.lt_or_ge j f.path.length with hl | hl
        · obtain ⟨i',e',b1,b2,b3,b4⟩:=a2 j hl
          exact ⟨i',e',by omega,b2,by rw [hfr j (by omega)];exact b3,b4⟩
        · have e1 : j = f.path.length:=by omega
          subst e1
          exact ⟨e.src,f,h2,h3,by rw [hfr _ (Nat.le_refl _)];exact a1,rfl⟩
      · have hj : j < e.path.length:=(List.getElem?_eq_some_iff.1 hx).1
        rcases Nat.lt_or_ge j f.path.length with hl | hl
        · rw [h6,List.getElem?_append_left hl] at hx
          rw [hfr j (by omega)]
          exact a3 j x hx
        · have e1 : j = f.path.length:=by omega
          subst e1
          rw [hat] at hx
          cases hx
          rw [hfr _ (Nat.le_refl _),a1]
          exact ⟨by simp,by simpa using h4⟩
theorem QY {p : Pg} {most : Int} {s : Sk} (h : Inv p most s) : ∀ (n i : Nat) (e : En),i < n → s.all[i]? = some e → ∀ a b,a < b → b ≤ e.path.length → to p e.path a ≠ to p e.path b
  | 0,i,e,hi,_ => absurd hi (by omega)
  | n + 1,i,e,hi,he => by
    intro a b hab hb heq
    obtain ⟨w1,w2,_⟩:=way_to h (n + 1) i e hi he
    rcases Nat.lt_or_ge b e.path.length with hl | hl
    · rcases h.src i e he with ⟨_,_,h3,_⟩ | ⟨h1,h2,f,h3,h4,h5,h6⟩
      · rw [h3] at hl;simp at hl
      · have hlen : e.path.length = f.path.length + 1:=by rw [h6];simp
        have hfr : ∀ j,j ≤ f.path.length → to p e.path j = to p f.path j:=fun j hj => by rw [h6];exact YJ p _ _ hj
        rw [hfr a (by omega),hfr b (by omega)] at heq
        exact QY h n e.src f (by omega) h3 a b hab (by omega) heq
    · have e1 : b = e.path.length:=by omega
      subst e1
      obtain ⟨i',e',b1,b2,b3,_⟩:=w2 a hab
      rw [w1,b3] at heq
      have:=h.apart i' i e' e b2 he heq
      omega
/-! ### the nearest first -/
structure Rise (l : List En) (d : Nat) : Prop where
  rise : ∀ (i j : Nat) (e f : En),i ≤ j → l[i]? = some e → l[j]? = some f → e.path.length ≤ f.path.length
  most : ∀ e ∈ l,e.path.length ≤ d + 1
theorem Rise.put {l : List En} {d : Nat} (h : Rise l d) {e : En} (he : e.path.length = d + 1) : Rise (l ++ [e]) d:=by
  refine ⟨fun i j f g hij hi hj => ?_,fun f hf => ?_⟩
  · have hf:=List.mem_of_getElem? hi
    rcases Nat.lt_or_ge j l.length with hl | hl
    · rw [List.getElem?_append_left hl] at hj
      rw [List.getElem?_append_left (by omega)] at hi
      exact h.rise i j f g hij hi hj
    · rw [List.getElem?_append_right hl] at hj
      have hj1:=(List.getElem?_eq_some_iff.1 hj).1
      simp only [List.length_singleton] at hj1
      have e1 : j - l.length = 0:=by omega
      rw [e1] at hj
      have e2 : g = e:=by simpa using hj.symm
      subst e2
      rcases List.mem_append.1 hf with h1 | h1
      · have:=h.most f h1;omega
      · rw [List.mem_singleton.1 h1];exact Nat.le_refl _
  · rcases List.mem_append.1 hf with h1 | h1
    · exact h.most f h1
    · rw [List.mem_singleton.1 h1];omega
theorem next_len (p : Pg) (i : Nat) (e : En) (t : Nat) (way : Bool) : (next p i e t way).path.length = e.path.length + 1:=by simp [next]
theorem YR {s : Sk} {most : Int} {d : Nat} (h : Rise s.all d) {e : En} (he : e.path.length = d + 1) : Rise (K.put most s e).all d:=by
  rcases uY most s e with h1 | ⟨h1,_⟩
  · rw [h1];exact h
  · rw [h1];exact h.put he
theorem XT {p : Pg} (most : Int) : ∀ k,k < (st p most k).all.length → (∀ j,j < k → j < (st p most j).all.length) → Rise (st p most k).all (en p most k).path.length ∧ (∀ i (e : En),(st p most k).all[i]? = some e → i ≤ k → e.path.length ≤ (en p most k).path.length)
  | 0,hk,_ => by
    rcases vF most with ⟨h,_⟩ | ⟨h,h1⟩
    · rw [show st p most 0 = begin most from rfl,h] at hk;exact absurd hk (by simp)
    · have key : ∀ (e : En),e ∈ (st p most 0).all → e = ⟨M.start,0,0,false,[]⟩:=fun e he => by
        rw [show st p most 0 = begin most from rfl,h] at he
        exact List.mem_singleton.1 he
      refine ⟨⟨fun i j e f _ hi hj => by rw [key e (List.mem_of_getElem? hi)];exact Nat.zero_le _,fun e he => by rw [key e he];exact Nat.zero_le _⟩,fun i e hi _ => by rw [key e (List.mem_of_getElem? hi)];exact Nat.zero_le _⟩
  | k + 1,hk,hall => by
    have hk0:=hall k (by omega)
    obtain ⟨ih,_⟩:=XT most k hk0 (fun j hj => hall j (by omega))
    have h1 : Rise (st p most (k + 1)).all (en p most k).path.length :=
      uE (fun x => Rise x.all (en p most k).path.length) (fun _ t way _ _ hx => YR hx (next_len p k (en p most k) t way)) ih
    have he:=en_at hk
    have h2 : (st p most (k + 1)).all[k]? = some (en p most k):=(st_pre p most (Nat.le_succ k)).get (en_at hk0)
    have h3:=h1.rise k (k + 1) _ _ (by omega) h2 he
    refine ⟨⟨h1.rise,fun e he' => by have:=h1.most e he';omega⟩,fun i e hi hle => h1.rise i (k + 1) e _ hle hi he⟩
/-! ### what is gone through is closed under steps -/
theorem one_puts {p : Pg} {most : Int} {i : Nat} {e : En} {s : Sk} {t : Nat} (h : M.enabledN p e.cf t = true) (way : Bool) :
    has (one p most i e s t).all (M.step p e.cf t way) = true ∨ ((one p most i e s t).left = true ∧ most ≤ ((one p most i e s t).all.length : Int)):=by
  have lft : ∀ s' : Sk,∀ e' : En,(put most s' e').left = true ∧ most ≤ (s'.all.length : Int) → (put most s' e').left = true ∧ most ≤ ((put most s' e').all.length : Int):=fun s' e' h' => ⟨h'.1,by have:=(put_pre most s' e').len;omega⟩
  unfold one
  rw [if_pos h]
  by_cases h8 : (M.node p e.cf t).kind = 8
  · rw [if_pos h8]
    cases way with
    | false =>
      rcases put_in most s (next p i e t false) with h1 | h1
      · exact .inl ((put_pre _ _ _).has h1)
      · have h2:=lft _ _ h1
        exact .inr ⟨Q6 _ _ _ h2.1,by have:=(put_pre most (put most s (next p i e t false)) (next p i e t true)).len;omega⟩
    | true =>
      rcases put_in most (put most s (next p i e t false)) (next p i e t true) with h1 | h1
      · exact .inl h1
      · exact .inr (lft _ _ h1)
  · rw [if_neg h8]
    have hw : M.step p e.cf t way = M.step p e.cf t false:=by
      cases way with
      | false => rfl
      | true => exact (M.step_way fun hx => h8 hx.2.1).symm
    rw [hw]
    rcases put_in most s (next p i e t false) with h1 | h1
    · exact .inl h1
    · exact .inr (lft _ _ h1)
theorem goOn_puts {p : Pg} {most : Int} {i : Nat} {e : En} {s : Sk} (t : Int) (way : Bool) (hhas : has s.all e.cf = true) :
    has (goOn p most i e s).all (M.step p e.cf t way) = true ∨ ((goOn p most i e s).left = true ∧ most ≤ ((goOn p most i e s).all.length : Int)):=by
  by_cases h : M.enabled p e.cf t = true
  · obtain ⟨h0,h1⟩:=M.enabled_split h
    obtain ⟨n,rfl⟩ : ∃ n : Nat,t = n:=⟨t.toNat,by omega⟩
    rw [Int.toNat_natCast] at h1
    have hn : n < e.cf.ths.length:=M.lives_lt (M.enabled_lives h1)
    have hp:=YK p most i e s (n + 1) e.cf.ths.length (by omega)
    rcases one_puts (p:=p) (most:=most) (i:=i) (e:=e) (s:=thrs p most i e s n) h1 way with h2 | h2
    · exact .inl (hp.has h2)
    · right
      have hl : ∀ m,n + 1 ≤ m → (thrs p most i e s m).left = true:=fun m hm => by
        induction m with
        | zero => omega
        | succ m ih =>
          by_cases e1 : n = m
          · subst e1;exact h2.1
          · exact JI (fun x => x.left = true) (fun _ _ _ _ _ hx => Q6 _ _ _ hx) _ (ih (by omega))
      exact ⟨hl _ (by omega),by have h3:=hp.len;have h4:=h2.2;unfold goOn;change (most : Int) ≤ _;have h5 : (one p most i e (thrs p most i e s n) n).all.length = (thrs p most i e s (n + 1)).all.length:=rfl;omega⟩
  · rw [M.step_same (by simpa using h)]
    exact .inl ((goOn_pre p most i e s).has hhas)
theorem out_short {p : Pg} {most : Int} {l : List (Int × Bool)} (h : Out p most l 1) (z : List (Int × Bool)) : ∀ n,Racy p (to p z n) → l.length ≤ n:=by
  obtain ⟨k,h1,h2⟩:=h
  rcases h2 with ⟨hk,_,hle,_⟩ | ⟨_,_,h2⟩
  rotate_left
  · split at h2 <;> cases h2
  intro n hr
  rcases Nat.lt_or_ge n l.length with hn | hn
  rotate_left
  · exact hn
  exfalso
  have hall : ∀ j,j < k → j < (st p most j).all.length:=fun j hj => (h1 j hj).1
  obtain ⟨hR,hR2⟩:=XT most k hk hall
  have hek:=en_at hk
  have idx : ∀ (i : Nat) (e : En),(st p most k).all[i]? = some e → e.path.length < l.length → i < k:=fun i e hi hlt => by
    rcases Nat.lt_or_ge i k with h | h
    · exact h
    · have:=hR.rise k i _ _ h hek hi
      rw [hle] at hlt
      omega
  have key : ∀ m,m ≤ n → ∃ (i : Nat) (e : En),(st p most k).all[i]? = some e ∧ e.cf = to p z m ∧ e.path.length ≤ m:=fun m => by
    induction m with
    | zero =>
      intro _
      rcases vF most with ⟨h,h3⟩ | ⟨h,_⟩
      · exfalso
        rcases Nat.eq_zero_or_pos k with h4 | h4
        · subst h4
          rw [show st p most 0 = begin most from rfl,h] at hk;exact absurd hk (by simp)
        · have:=hall 0 h4
          rw [show st p most 0 = begin most from rfl,h] at this;exact absurd this (by simp)
      · have h4 : (st p most 0).all[0]? = some ⟨M.start,0,0,false,[]⟩:=by rw [show st p most 0 = begin most from rfl,h];rfl
        exact ⟨0,_,(st_pre p most (Nat.zero_le k)).get h4,rfl,Nat.le_refl _⟩
    | succ m ih =>
      intro hm
      obtain ⟨i,e,hi,hc,hp⟩:=ih (by omega)
      cases hx : z[m]? with
      | none => exact ⟨i,e,hi,by rw [to_end p z m (by simpa using hx)];exact hc,by omega⟩
      | some x =>
        have hik:=idx i e hi (by omega)
        have h3:=h1 i hik
        have e1:=en_is hi h3.1
        obtain ⟨hRi,_⟩:=XT most i h3.1 (fun j hj => hall j (by omega))
        have hR1 : Rise (st p most (i + 1)).all (en p most i).path.length :=
          uE (fun x => Rise x.all (en p most i).path.length) (fun _ t way _ _ hx => YR hx (next_len p i (en p most i) t way)) hRi
        rcases goOn_puts (p:=p) (most:=most) (i:=i) (e:=en p most i) (s:=st p most i) x.1 x.2 (zE.2 ⟨_,List.mem_of_getElem? (en_at h3.1),rfl⟩) with h4 | h4
        · rw [← st_succ] at h4
          obtain ⟨f,hf,hfc⟩:=zE.1 h4
          obtain ⟨i2,hi2⟩:=List.mem_iff_getElem?.1 hf
          refine ⟨i2,f,(st_pre p most (show i + 1 ≤ k by omega)).get hi2,?_,?_⟩
          · rw [hfc,e1,hc,to_succ p z m x hx]
          · have:=hR1.most f hf
            rw [e1] at this;omega
        · exfalso
          rw [← st_succ] at h4
          have hlen : (st p most k).all = (st p most (i + 1)).all:=by
            have hpre:=st_pre p most (show i + 1 ≤ k by omega)
            obtain ⟨c,hcc⟩:=hpre
            have hfull : ∀ b,i + 1 ≤ b → (st p most b).all = (st p most (i + 1)).all:=fun b hb => by
              induction b with
              | zero => omega
              | succ b ihb =>
                by_cases e2 : i + 1 = b + 1
                · rw [← e2]
                · have ih2:=ihb (by omega)
                  refine (uE (fun x => x.all = (st p most (i + 1)).all) (fun s t way _ _ hs => ?_) ih2)
                  rcases uY most s (next p b (en p most b) t way) with h5 | ⟨_,_,h5,_⟩
                  · exact Eq.trans h5 hs
                  · rw [hs] at h5;omega
            exact hfull k (by omega)
          have hmem:=List.mem_of_getElem? hek
          rw [hlen] at hmem
          have:=hR1.most _ hmem
          rw [e1,← hle] at this
          omega
  obtain ⟨i,e,hi,hc,hp⟩:=key n (Nat.le_refl _)
  have hik:=idx i e hi (by omega)
  have h3:=h1 i hik
  rw [← hc,← en_is hi h3.1] at hr
  exact h3.2 hr
structure Found (p : Pg) (l : List (Int × Bool)) : Prop where
  race : Racy p (to p l l.length)
  none : ∀ j,j < l.length → ¬ Racy p (to p l j)
  may : ∀ j x,l[j]? = some x → 0 ≤ x.1 ∧ M.enabledN p (to p l j) x.1.toNat = true
  apart : ∀ a b,a < b → b ≤ l.length → to p l a ≠ to p l b
theorem out_found {p : Pg} (hf : Fine p) (hl : p.fns.length = p.len) {most : Int} {l : List (Int × Bool)} (h : Out p most l 1) : Found p l ∧ ((l.length : Int) < most):=by
  have hsh:=out_short h
  obtain ⟨k,h1,h2⟩:=h
  rcases h2 with ⟨hk,hr,hle,_⟩ | ⟨_,_,h2⟩
  rotate_left
  · split at h2 <;> cases h2
  have hI:=inv_st hf hl most k
  have hek:=en_at hk
  obtain ⟨w1,w2,w3⟩:=way_to hI (k + 1) k _ (by omega) hek
  have w4:=QY hI (k + 1) k _ (by omega) hek
  have hlt : (l.length : Int) < most:=by
    have h3:=st_len hf hl most k
    have h5 : ∀ (n i : Nat) (e : En),i < n → (st p most k).all[i]? = some e → e.path.length ≤ i:=by
      intro n
      induction n with
      | zero => intro i e hi;omega
      | succ n ih =>
        intro i e hi he
        rcases hI.src i e he with ⟨_,_,h3,_⟩ | ⟨a1,a2,f,a3,_,_,a6⟩
        · rw [h3];exact Nat.zero_le _
        · have:=ih e.src f (by omega) a3
          rw [a6];simp;omega
    have:=h5 (k + 1) k _ (by omega) hek
    rw [hle];omega
  subst hle
  exact ⟨⟨by rw [w1];exact hr,fun j hj hr2 => by have:=hsh _ j hr2;omega,w3,w4⟩,hlt⟩
/-! ### a search among more -/
def Twin (a : Int) (s s' : Sk) : Prop:=s = s' ∨ (s.left = true ∧ Pre s.all s'.all ∧ a ≤ (s.all.length : Int))
theorem Twin.put {a b : Int} (hab : a ≤ b) {s s' : Sk} (h : Twin a s s') (e : En) : Twin a (K.put a s e) (K.put b s' e):=by
  rcases h with rfl | ⟨h1,h2,h3⟩
  · by_cases hh : has s.all e.cf = true
    · left;unfold K.put;rw [if_pos hh,if_pos hh]
    · by_cases hl : a ≤ (s.all.length : Int)
      · right
        have e1 : K.put a s e = ⟨s.all,true⟩:=by unfold K.put;rw [if_neg hh,if_pos hl]
        rw [e1]
        exact ⟨rfl,put_pre _ _ _,hl⟩
      · left;unfold K.put;rw [if_neg hh,if_neg hh,if_neg hl,if_neg (by omega)]
  · right
    have e1 : (K.put a s e).all = s.all:=by
      rcases uY a s e with h | ⟨_,_,h,_⟩
      · exact h
      · omega
    rw [e1]
    exact ⟨Q6 _ _ _ h1,h2.trans (put_pre _ _ _),h3⟩
theorem Twin.one {p : Pg} {a b : Int} (hab : a ≤ b) {i : Nat} {e : En} {s s' : Sk} (h : Twin a s s') (t : Nat) : Twin a (K.one p a i e s t) (K.one p b i e s' t):=by
  unfold K.one
  split
  · split
    · exact (h.put hab _).put hab _
    · exact h.put hab _
  · exact h
theorem Twin.thrs {p : Pg} {a b : Int} (hab : a ≤ b) {i : Nat} {e : En} {s s' : Sk} (h : Twin a s s') : ∀ n,Twin a (K.thrs p a i e s n) (K.thrs p b i e s' n)
  | 0 => h
  | n + 1 => (h.thrs hab n).one hab n
end Go.Proofs.Ytcbfghcdbmlneaa.K
namespace Go.Proofs.Ytcbfghcdbmlneaa.K
theorem fit_low {p : Pg} (hc : Q.Counts p) {x : Nd} {nodes : Nat} (h : Q.may p.g p.l p.s p.len x nodes = true) : (x.kind = 3 → x.arg.toNat < p.l.toNat) ∧ (x.kind = 5 → x.alt.toNat < p.s.toNat):=by
  have hl:=hc.l;have hs:=hc.s
  unfold Q.may at h
  simp only [Bool.and_eq_true,decide_eq_true_eq,List.all_eq_true,List.mem_range] at h
  obtain ⟨_,hall⟩:=h
  have a0:=hall 0 (by omega)
  have a2:=hall 2 (by omega)
  constructor
  · intro k
    rw [k] at a0
    simp [Q.row,Q.rows,Q.size,Q.fields] at a0
    omega
  · intro k
    rw [k] at a2
    simp [Q.row,Q.rows,Q.size,Q.fields] at a2
    omega
structure Low (p : Pg) (c : M.Cf) : Prop where
  owns : c.owners.length = 16
  own : ∀ k,p.l.toNat ≤ k → c.owners.getD k 0 = 0
  eight : ∀ x ∈ c.ths,x.slots.length = 8
  slot : ∀ x ∈ c.ths,∀ k,p.s.toNat ≤ k → x.slots.getD k 0 = 0
theorem low_start (p : Pg) : Low p M.start:=by
  refine ⟨rfl,fun k _ => ?_,fun x hx => ?_,fun x hx k _ => ?_⟩
  · rw [show M.start.owners = List.replicate 16 0 from rfl,List.getD_eq_getElem?_getD,List.getElem?_replicate];split <;> rfl
  · rw [List.mem_singleton.1 hx];rfl
  · rw [List.mem_singleton.1 hx,List.getD_eq_getElem?_getD,List.getElem?_replicate];split <;> rfl
theorem XI {l : List Nat} {a v k : Nat} (h : a ≠ k) : (l.set a v).getD k 0 = l.getD k 0:=by
  rw [List.getD_eq_getElem?_getD,List.getElem?_set_ne h,List.getD_eq_getElem?_getD]
theorem getD_zero {l : List Nat} {a k : Nat} (h : l.getD k 0 = 0) : (l.set a 0).getD k 0 = 0:=by
  rw [List.getD_eq_getElem?_getD,List.getElem?_set]
  split
  · split <;> rfl
  · rw [← List.getD_eq_getElem?_getD];exact h
theorem zD {p : Pg} {c : M.Cf} (h : Low p c) (t : Nat) (x : M.Th) (ow : List Nat) (h8 : x.slots.length = 8) (hs : ∀ k,p.s.toNat ≤ k → x.slots.getD k 0 = 0) (h16 : ow.length = 16) (ho : ∀ k,p.l.toNat ≤ k → ow.getD k 0 = 0) : Low p ⟨c.ths.set t x,ow⟩:=by
  have key : ∀ y ∈ c.ths.set t x,y ∈ c.ths ∨ y = x:=fun y hy => List.mem_or_eq_of_mem_set hy
  refine ⟨h16,ho,fun y hy => ?_,fun y hy => ?_⟩
  · rcases key y hy with h1 | rfl
    · exact h.eight y h1
    · exact h8
  · rcases key y hy with h1 | rfl
    · exact h.slot y h1
    · exact hs
theorem low_step {p : Pg} (hf : Fine p) {c : M.Cf} (hg : M.Good p c) (h : Low p c) (t : Int) (way : Bool) : Low p (M.step p c t way):=by
  unfold M.step
  split
  rotate_left
  · exact h
  rename_i hen
  obtain ⟨h0,he⟩:=M.enabled_split hen
  have hlv:=M.enabled_lives he
  have hm:=M.th_mem (M.lives_lt hlv)
  obtain ⟨fn,hfn,_,hnd⟩:=M.node_is hg hlv
  have hlow:=fit_low hf.counts (M.fine_node hf hfn hnd)
  obtain ⟨n,hn⟩ : ∃ n,M.node p c t.toNat = n:=⟨_,rfl⟩
  rw [hn] at hlow
  have e8:=h.eight _ hm
  have s8:=h.slot _ hm
  unfold M.act
  rw [hn]
  by_cases k9 : n.kind = 9
  · rw [if_pos k9];exact zD h _ _ _ e8 s8 h.owns h.own
  rw [if_neg k9]
  by_cases k3 : n.kind = 3
  · rw [if_pos k3]
    refine zD h _ _ _ e8 s8 (by rw [List.length_set];exact h.owns) fun k hk => ?_
    rw [XI (by have:=hlow.1 k3;omega)];exact h.own k hk
  rw [if_neg k3]
  by_cases k4 : n.kind = 4
  · rw [if_pos k4]
    refine zD h _ _ _ e8 s8 ?_ ?_
    · split
      · rw [List.length_set];exact h.owns
      · exact h.owns
    · intro k hk
      split
      · exact getD_zero (h.own k hk)
      · exact h.own k hk
  rw [if_neg k4]
  by_cases k5 : n.kind = 5
  · rw [if_pos k5]
    have hL:=zD h t.toNat ⟨M.goOn (M.th c t.toNat).stack n.next.toNat,(M.th c t.toNat).slots.set n.alt.toNat (c.ths.length + 1)⟩ c.owners (by rw [List.length_set];exact e8) (fun k hk => by
      rw [XI (by have:=hlow.2 k5;omega)];exact s8 k hk) h.owns h.own
    refine ⟨h.owns,h.own,fun x hx => ?_,fun x hx k hk => ?_⟩
    · rcases List.mem_append.1 hx with h1 | h1
      · exact hL.eight x h1
      · rw [List.mem_singleton.1 h1];rfl
    · rcases List.mem_append.1 hx with h1 | h1
      · exact hL.slot x h1 k hk
      · rw [List.mem_singleton.1 h1,List.getD_eq_getElem?_getD,List.getElem?_replicate];split <;> rfl
  rw [if_neg k5]
  by_cases k7 : n.kind = 7
  · rw [if_pos k7];exact zD h _ _ _ e8 s8 h.owns h.own
  rw [if_neg k7]
  by_cases k8 : n.kind = 8 ∧ way = true
  · rw [if_pos k8];exact zD h _ _ _ e8 s8 h.owns h.own
  · rw [if_neg k8];exact zD h _ _ _ e8 s8 h.owns h.own
/-! ### the bytes -/
def two (s : List (Nat × Nat)) : List Nat:=s.flatMap fun f => [f.1,f.2]
def keyT (p : Pg) (x : M.Th) : List Nat:=x.slots.take p.s.toNat ++ (x.stack.length :: two x.stack)
def keyTs (p : Pg) (l : List M.Th) : List Nat:=l.flatMap (keyT p)
def key (p : Pg) (c : M.Cf) : List Nat:=c.owners.take p.l.toNat ++ keyTs p c.ths
theorem LS (f : Nat × Nat) (s : List (Nat × Nat)) : two (f :: s) = f.1 :: f.2 :: two s:=rfl
theorem y9 (p : Pg) (x : M.Th) (l : List M.Th) : keyTs p (x :: l) = keyT p x ++ keyTs p l:=rfl
theorem two_len (s : List (Nat × Nat)) : (two s).length = 2 * s.length:=by
  induction s with
  | nil => rfl
  | cons f s ih => rw [LS,List.length_cons,List.length_cons,ih,List.length_cons];omega
theorem two_snoc (s : List (Nat × Nat)) (f : Nat × Nat) : two (s ++ [f]) = two s ++ [f.1,f.2]:=by unfold two;rw [List.flatMap_append];rfl
theorem keyTs_snoc (p : Pg) (l : List M.Th) (x : M.Th) : keyTs p (l ++ [x]) = keyTs p l ++ keyT p x:=by unfold keyTs;rw [List.flatMap_append];simp
theorem keyTs_len {p : Pg} : ∀ {l : List M.Th},(∀ x ∈ l,x.slots.length = 8 ∧ x.stack.length ≤ 16) → (keyTs p l).length ≤ 41 * l.length
  | [],_ => by simp [keyTs]
  | x :: l,h => by
    have ih:=keyTs_len (p:=p) (fun y hy => h y (List.mem_cons_of_mem _ hy) : ∀ y ∈ l,_)
    have h1:=h x (by simp)
    have h2 : (x.slots.take p.s.toNat).length ≤ 8:=by rw [List.length_take];omega
    rw [y9,List.length_append,List.length_cons]
    unfold keyT
    rw [List.length_append,List.length_cons,two_len]
    omega
theorem two_inj : ∀ {a b : List (Nat × Nat)} {r r' : List Nat},a.length = b.length → two a ++ r = two b ++ r' → a = b ∧ r = r'
  | [],[],_,_,_,h => ⟨rfl,h⟩
  | [],_ :: _,_,_,hl,_ => by simp at hl
  | _ :: _,[],_,_,hl,_ => by simp at hl
  | f :: a,g :: b,r,r',hl,h => by
    rw [LS,LS] at h
    simp only [List.cons_append,List.cons.injEq] at h
    obtain ⟨h1,h2,h3⟩:=h
    obtain ⟨e1,e2⟩:=two_inj (by simpa using hl) h3
    exact ⟨by rw [e1,Prod.ext h1 h2],e2⟩
theorem XJ {l m : List Nat} {k n : Nat} (hl : l.length = n) (hm : m.length = n) (h1 : ∀ i,k ≤ i → l.getD i 0 = 0) (h2 : ∀ i,k ≤ i → m.getD i 0 = 0) (h : l.take k = m.take k) : l = m:=by
  apply List.ext_getElem?
  intro i
  rcases Nat.lt_or_ge i k with hi | hi
  · have:=congrArg (·[i]?) h
    simp only [List.getElem?_take,if_pos hi] at this
    exact this
  · rcases Nat.lt_or_ge i n with hn | hn
    · have a:=h1 i hi;have b:=h2 i hi
      rw [List.getD_eq_getElem?_getD,List.getElem?_eq_getElem (by omega)] at a b
      rw [List.getElem?_eq_getElem (by omega),List.getElem?_eq_getElem (by omega)]
      simp only [Option.getD_some] at a b
      rw [a,b]
    · rw [List.getElem?_eq_none (by omega),List.getElem?_eq_none (by omega)]
theorem keyT_inj {p : Pg} {x y : M.Th} {r r' : List Nat} (hx8 : x.slots.length = 8) (hy8 : y.slots.length = 8) (hx : ∀ k,p.s.toNat ≤ k → x.slots.getD k 0 = 0) (hy : ∀ k,p.s.toNat ≤ k → y.slots.getD k 0 = 0)
    (h : keyT p x ++ r = keyT p y ++ r') : x = y ∧ r = r':=by
  unfold keyT at h
  rw [List.append_assoc,List.append_assoc] at h
  have h1:=List.append_inj h (by simp [hx8,hy8])
  obtain ⟨e1,h2⟩:=h1
  simp only [List.cons_append,List.cons.injEq] at h2
  obtain ⟨e2,e3⟩:=two_inj h2.1 h2.2
  have e4:=XJ hx8 hy8 hx hy e1
  cases x;cases y
  simp only at e2 e4
  subst e2 e4
  exact ⟨rfl,e3⟩
theorem XF {p : Pg} : ∀ {a b : List M.Th},(∀ x ∈ a,x.slots.length = 8) → (∀ x ∈ b,x.slots.length = 8) → (∀ x ∈ a,∀ k,p.s.toNat ≤ k → x.slots.getD k 0 = 0) → (∀ x ∈ b,∀ k,p.s.toNat ≤ k → x.slots.getD k 0 = 0) →
    keyTs p a = keyTs p b → a = b
  | [],[],_,_,_,_,_ => rfl
  | [],y :: b,_,_,_,_,h => by
    rw [y9] at h
    have:=congrArg List.length h
    simp [keyTs,keyT] at this
  | x :: a,[],_,_,_,_,h => by
    rw [y9] at h
    have:=congrArg List.length h
    simp [keyTs,keyT] at this
  | x :: a,y :: b,h1,h2,h3,h4,h => by
    rw [y9,y9] at h
    obtain ⟨e1,e2⟩:=keyT_inj (h1 x (by simp)) (h2 y (by simp)) (h3 x (by simp)) (h4 y (by simp)) h
    rw [e1,XF (fun z hz => h1 z (by simp [hz])) (fun z hz => h2 z (by simp [hz])) (fun z hz => h3 z (by simp [hz])) (fun z hz => h4 z (by simp [hz])) e2]
theorem key_inj {p : Pg} (hc : Q.Counts p) {c d : M.Cf} (h1 : Low p c) (h2 : Low p d) (h : key p c = key p d) : c = d:=by
  have hl:=hc.l;have hs:=hc.s
  unfold key at h
  obtain ⟨e1,e2⟩:=List.append_inj h (by simp [h1.owns,h2.owns])
  have e3:=XJ h1.owns h2.owns h1.own h2.own e1
  have e4:=XF (p:=p) h1.eight h2.eight h1.slot h2.slot e2
  cases c;cases d
  simp only at e3 e4
  rw [e3,e4]
theorem key_byte {p : Pg} (hf : Fine p) (hl : p.fns.length = p.len) {c : M.Cf} (hg : M.Good p c) : ∀ b ∈ key p c,b < 256:=by
  have h16:=hf.counts.f.2;have h8:=hg.most
  intro b hb
  unfold key at hb
  rcases List.mem_append.1 hb with h | h
  · have:=hg.own b (List.mem_of_mem_take h);omega
  · unfold keyTs at h
    obtain ⟨x,hx,h⟩:=List.mem_flatMap.1 h
    unfold keyT at h
    rcases List.mem_append.1 h with h | h
    · have:=hg.slot x hx b (List.mem_of_mem_take h);omega
    · rcases List.mem_cons.1 h with rfl | h
      · have:=M.high hf hl hg hx;omega
      · unfold two at h
        obtain ⟨f,hfm,h⟩:=List.mem_flatMap.1 h
        obtain ⟨fn,h1,h2⟩:=hg.spot x hx f hfm
        have h3:=(List.getElem?_eq_some_iff.1 h1).1
        have h4:=(Q.fine_fn h1 (hf.nodes f.1 h3)).2.1
        simp only [List.mem_cons,List.not_mem_nil,or_false] at h
        rcases h with rfl | rfl <;> omega
theorem low_all {p : Pg} (hf : Fine p) (hl : p.fns.length = p.len) {most : Int} {s : Sk} (h : Inv p most s) : ∀ (n i : Nat) (e : En),i < n → s.all[i]? = some e → Low p e.cf
  | 0,i,e,hi,_ => absurd hi (by omega)
  | n + 1,i,e,hi,he => by
    rcases h.src i e he with ⟨_,h2,_⟩ | ⟨_,h2,f,h3,_,h5,_⟩
    · rw [h2];exact low_start p
    · rw [h5]
      exact low_step hf (h.good f (List.mem_of_getElem? h3)) (low_all hf hl h n e.src f (by omega) h3) _ _
theorem has_key {p : Pg} (hf : Fine p) (hl : p.fns.length = p.len) {most : Int} {s : Sk} (h : Inv p most s) {c : M.Cf} (hc : Low p c) : has s.all c = true ↔ key p c ∈ s.all.map fun e => key p e.cf:=by
  rw [zE,List.mem_map]
  constructor
  · rintro ⟨e,he,rfl⟩;exact ⟨e,he,rfl⟩
  · rintro ⟨e,he,hk⟩
    obtain ⟨i,hi⟩:=List.mem_iff_getElem?.1 he
    exact ⟨e,he,key_inj hf.counts (low_all hf hl h (i + 1) i e (by omega) hi) hc hk⟩
end Go.Proofs.Ytcbfghcdbmlneaa.K
namespace Go.Proofs.Ytcbfghcdbmlneaa
open Go.RowKit
def Ty (w : World) (g : Nat) : Option TypeId:=match w.heap[g]? with | some (.cells _ t _) => some t | _ => none
theorem Blk.ty {w : World} {g : Nat} {t : TypeId} {cs : List Value} (h : Blk w g t cs) : Ty w g = some t:=by unfold Ty;unfold Blk at h;rw [h]
theorem OwnR.ty {α : Type} {sz : Nat} {f : α → Nat → Value} {w : World} {B : Nat} {e : TypeId} {v : Value} {l : List α} (h : OwnR sz f w B e v l) : ∀ k,v.ownBlock = some k → Ty w k = some e:=by
  intro k hk
  rcases h.2 with ⟨rfl,_⟩ | ⟨g,cap,cur,rfl,_,hg,_⟩
  · cases hk
  · have : g = k:=by simpa [Value.ownBlock] using hk
    subst this
    unfold Ty;rw [hg]
theorem Own.ty {w : World} {B : Nat} {e : TypeId} {v : Value} {xs : List Value} (h : Own w B e v xs) : ∀ k,v.ownBlock = some k → Ty w k = some e:=by
  intro k hk
  rcases h.2 with ⟨rfl,_⟩ | ⟨g,cap,cur,rfl,_,hg,_⟩
  · cases hk
  · have : g = k:=by simpa [Value.ownBlock] using hk
    subst this
    unfold Ty;rw [hg]
theorem OwnR.heldAt {α : Type} {sz : Nat} {f : α → Nat → Value} {w w' : World} {B : Nat} {e : TypeId} {v : Value} {l : List α} {S : Nat → Prop} (h : OwnR sz f w B e v l) (hb : Held S w w') (hS : ∀ k,v.ownBlock = some k → S k) : OwnR sz f w' B e v l:=by
  refine ⟨h.1,?_⟩
  rcases h.2 with hn | ⟨g,cap,cur,rfl,hB,hg,rest⟩
  · exact .inl hn
  · exact .inr ⟨g,cap,cur,rfl,hB,by rw [hb.block g (hS g rfl)];exact hg,rest⟩
theorem Mine.held {w w' : World} {B : Nat} {q : Pc} {S : Nat → Prop} (h : Mine w B q) (hb : Held S w w') (hS : ∀ k,k < w.heap.size → Ty w k = some 155 ∨ Ty w k = some 175 → S k) : Mine w' B q :=
  ⟨h.row.heldAt hb fun k hk => hS k (h.row.block k hk).2 (.inl (h.row.ty k hk)),fun k x hx => (h.fam.own k x hx).heldAt hb fun b hv => hS b ((h.fam.own k x hx).block b hv).2 (.inr ((h.fam.own k x hx).ty b hv)),h.fam.out,h.fam.apart⟩
theorem Grew.held {w w' : World} {v v' : Value} (h : Grew w w' v v') : Held (fun k => k < w.heap.size ∧ v.ownBlock ≠ some k) w w':=Held.of_grown h.1 fun _ hk => ⟨hk.1,fun e => hk.2 e.symm⟩
theorem Mine.grew {w w' : World} {B B' : Nat} {q : Pc} {e : TypeId} {v v' : Value} {xs : List Value} (h : Mine w B q) (ho : Own w B' e v xs) (hg : Grew w w' v v') (h1 : e ≠ 155) (h2 : e ≠ 175) : Mine w' B q :=
  h.held hg.held fun k hk ht => ⟨hk,fun hv => by
    have:=ho.ty k hv
    rw [this] at ht
    rcases ht with ht | ht
    · exact h1 (Option.some.inj ht)
    · exact h2 (Option.some.inj ht)⟩
theorem Blk.grew {w w' : World} {g : Nat} {t : TypeId} {cs : List Value} {v v' : Value} (h : Blk w g t cs) (hg : Grew w w' v v') (hne : v.ownBlock ≠ some g) : Blk w' g t cs:=h.grown hg.1 fun e => hne e.symm
theorem Grew.then {w w1 w2 : World} {v v1 : Value} (h : Grew w w1 v v1) (hb : Below w1.heap.size w1 w2) : Grew w w2 v v1 :=
  ⟨⟨hb.os.trans h.1.os,hb.tape.trans h.1.tape,hb.output.trans h.1.output,Nat.le_trans h.1.size hb.size,fun i hi hne => (hb.block i (Nat.lt_of_lt_of_le hi h.1.size)).trans (h.1.block i hi hne)⟩,h.2⟩
theorem Grew.new {w w1 w2 : World} {v v2 : Value} (hb : Below w.heap.size w w1) (h : Grew w1 w2 v v2) : Grew w w2 v v2:=by
  refine ⟨⟨h.1.os.trans hb.os,h.1.tape.trans hb.tape,h.1.output.trans hb.output,Nat.le_trans hb.size h.1.size,fun i hi hne => (h.1.block i (Nat.lt_of_lt_of_le hi hb.size) hne).trans (hb.block i hi)⟩,?_⟩
  rcases h.2 with h2 | h2
  · exact .inl h2
  · exact .inr fun g hg => Nat.le_trans hb.size (h2 g hg)
theorem bit_one {m : Nat} (h : 1 ≤ m) : Nat.testBit 1 m = false:=by
  rw [show (1 : Nat) = 2 ^ 0 from rfl,Nat.testBit_two_pow]
  exact decide_eq_false (by omega)
def tailOk0 (l : List Oper) (n : Nat) : Bool:=(List.range l.length).all fun i => decide (i < n) || ((masks l).getD i 0 ||| 1) == 2 ^ i - 1
section
variable {P : Program} {Q : Exit → Act → World → Prop} {a0 : Act} {w : World} {R : List Fact} {D : List (List (Nat × Nat))} {every : List (Nat × Nat)} {l : List Oper} {n : Nat}
theorem forced0 (hback : ∀ i o,l[i]? = some o → ∀ e ∈ o.after,Region.binds .any e = true → e.on < i) (ht : tailOk0 l n = true) :
    ∀ (fuel m : Nat) (listed : Array Bool) (a : Act) (W : World),1 ≤ m → n ≤ m → l.length ≤ m + fuel → listed.size = l.length → (∀ j,j < m → listed.getD j false = true) → (∀ j,m ≤ j → j < l.length → listed.getD j true = false) →
      wpList P l.toArray Q (l.drop m) a W → wpAny P .any l.toArray Q fuel listed a W:=by
  intro fuel
  induction fuel with
  | zero =>
    intro m listed a W hm1 hn hm hs h1 h2 h
    rw [List.drop_of_length_le (by omega)] at h
    refine ⟨?_,h⟩
    cases hr : Region.ready .any l.toArray listed with
    | nil => rfl
    | cons x xs =>
      have hx : x ∈ Region.ready .any l.toArray listed:=by rw [hr];exact List.mem_cons_self
      obtain ⟨hl,o,hi,_⟩:=mem_ready.1 hx
      have hlt : x < l.length:=by
        have:=(Array.getElem?_eq_some_iff.1 hi).1
        simpa using this
      have h3:=h1 x (by omega)
      have hxl : x < listed.size:=by omega
      simp [hxl] at hl h3
      rw [hl] at h3;cases h3
  | succ fuel ih =>
    intro m listed a W hm1 hn hm hs h1 h2 h
    rcases Nat.lt_or_ge m l.length with hml | hml
    rotate_left
    · rw [List.drop_of_length_le hml] at h
      refine ⟨fun _ => h,fun i hi => ?_⟩
      exfalso
      obtain ⟨hl,o,hio,_⟩:=mem_ready.1 hi
      have hlt : i < l.length:=by
        have:=(Array.getElem?_eq_some_iff.1 hio).1
        simpa using this
      have h3:=h1 i (by omega)
      have hxl : i < listed.size:=by omega
      simp [hxl] at hl h3
      rw [hl] at h3;cases h3
    have hmo : l[m]? = some l[m]:=List.getElem?_eq_getElem hml
    have hmr : m ∈ Region.ready .any l.toArray listed:=mem_ready.2 ⟨h2 m (Nat.le_refl _) hml,l[m],by simp,fun e he hb => h1 _ (hback m _ hmo e he hb)⟩
    refine ⟨fun hr => (by rw [hr] at hmr;cases hmr),fun i hi => ?_⟩
    obtain ⟨hil,o,hio,hall⟩:=mem_ready.1 hi
    have hio' : l[i]? = some o:=by simpa using hio
    have hilt:=(List.getElem?_eq_some_iff.1 hio').1
    have him : m ≤ i:=by
      rcases Nat.lt_or_ge i m with hlt | hge
      · have h3:=h1 i hlt
        have hxl : i < listed.size:=by omega
        simp [hxl] at hil h3
        rw [hil] at h3;cases h3
      · exact hge
    have hshut : ∀ j oj,l[j]? = some oj → listed.getD j false = true → ∀ e ∈ oj.after,Region.binds .any e = true → listed.getD e.on false = true:=by
      intro j oj hj hlj e he hb
      have hjl:=(List.getElem?_eq_some_iff.1 hj).1
      have hjm : j < m:=by
        rcases Nat.lt_or_ge j m with hlt | hge
        · exact hlt
        · have h3:=h2 j hge hjl
          have hxl : j < listed.size:=by omega
          simp [hxl] at h3 hlj
          rw [h3] at hlj;cases hlj
      exact h1 _ (Nat.lt_trans (hback j oj hj e he hb) hjm)
    have hie : i = m:=by
      rcases Nat.lt_or_ge m i with hlt | hge
      · exfalso
        have ht1:=List.all_eq_true.1 ht i (List.mem_range.2 hilt)
        have ht2 : (masks l).getD i 0 ||| 1 = 2 ^ i - 1:=by
          simp only [Bool.or_eq_true,decide_eq_true_eq,beq_iff_eq] at ht1
          rcases ht1 with h | h
          · omega
          · exact h
        have h3:=qN hback hshut i o hio' hall m (by
          have hb : ((masks l).getD i 0 ||| 1).testBit m = true:=by rw [ht2,Nat.testBit_two_pow_sub_one];simpa using hlt
          rw [Nat.testBit_or,bit_one hm1,Bool.or_false] at hb;exact hb)
        have h4:=h2 m (Nat.le_refl _) hml
        have hxl : m < listed.size:=by omega
        simp [hxl] at h3 h4
        rw [h4] at h3;cases h3
      · omega
    subst hie
    have hoo : o = l[i]:=by rw [hmo] at hio';cases hio';rfl
    subst hoo
    rw [List.drop_eq_getElem_cons hml] at h
    have hK : ∀ a' W',wpList P l.toArray Q (l.drop (i + 1)) a' W' → wpAny P .any l.toArray Q fuel (listed.setIfInBounds i true) a' W':=fun a' W' h' =>
      ih (i + 1) _ a' W' (by omega) (by omega) (by omega) (by simpa using hs) (fun j hj => by
        by_cases hji : j = i
        · subst hji
          have : j < listed.size:=by omega
          simp [this]
        · exact getD_set_true (h1 j (by omega))) (fun j hj hjl => by rw [getD_set_ne true (by omega)];exact h2 j (by omega) hjl) h'
    unfold wpOp
    rw [hio]
    simp only
    unfold wpList at h
    split
    · rename_i hw
      rw [if_pos hw] at h
      exact h.imp (Oper.wp_mono hK) id
    · rename_i hw
      rw [if_neg hw] at h
      exact hK _ _ h
theorem parts_tail0 {E : List (Nat × Nat)} (hok : ∀ i o,l.toArray[i]? = some o → OpOk l.toArray D E a0.tmps.size i o) (hev : ∀ p ∈ every,p.1 < n ∧ ∃ oj,l[p.1]? = some oj ∧ oj.dst = some p.2) (ht : tailOk0 l n = true) (hn : n ≤ l.length) (hn1 : 1 ≤ n)
    (hob : ∀ i o,i < n → l.toArray[i]? = some o → ∀ W,Below w.heap.size w W → given R W (fun a1 => wpList P l.toArray (PartPost a0.defers W o (factAt R i)) [o] a1 W) (D.getD i []) a0)
    (hmem : ∀ i o d,i < n → l[i]? = some o → o.dst = some d → (i,d) ∈ every)
    (hend : ∀ W,Below w.heap.size w W → given R W (fun a => wpList P l.toArray Q (l.drop n) a W) every a0) :
    ∀ (fuel : Nat) (listed : Array Bool) (a : Act) (W : World),PInv l.toArray R a0 w listed a W → listed.getD 0 false = true → (∀ j,n ≤ j → j < l.length → listed.getD j true = false) → (listed.toList.take n).count false + (l.length - n) ≤ fuel → wpAny P .any l.toArray Q fuel listed a W:=by
  have hback : ∀ i o,l[i]? = some o → ∀ e ∈ o.after,Region.binds .any e = true → e.on < i:=fun i o hi => (hok i o (by simpa using hi)).back
  have switch : ∀ (fuel : Nat) (listed : Array Bool) (a : Act) (W : World),PInv l.toArray R a0 w listed a W → (∀ j,n ≤ j → j < l.length → listed.getD j true = false) → (∀ j,j < n → listed.getD j false = true) → l.length - n ≤ fuel → wpAny P .any l.toArray Q fuel listed a W:=by
    intro fuel listed a W h h2 h1 hf
    have hs : listed.size = l.length:=by have:=h.size;simpa using this
    refine forced0 hback ht fuel n listed a W hn1 (Nat.le_refl _) (by omega) hs h1 h2 ?_
    have h3:=yB (a:=a) every a0 (hend W h.ext) fun p hp => by
      obtain ⟨hpn,oj,hj,hd⟩:=hev p hp
      exact h.got p.1 oj p.2 (by simpa using hj) hd (h1 p.1 hpn)
    have e1 : fill a every a0 = a:=by
      have e2 : (fill a every a0).tmps = a.tmps:=by
        apply Array.ext_getElem?
        intro t
        rw [xU]
        by_cases hc : t ∈ every.map (·.2) ∧ t < a0.tmps.size
        · rw [if_pos hc,yK a t (by rw [h.tsz];exact hc.2)]
        · rw [if_neg hc]
          by_cases hts : t < a0.tmps.size
          · refine (h.old t fun j oj hj hd => ?_).symm
            have hj' : l[j]? = some oj:=by simpa using hj
            rcases Nat.lt_or_ge j n with hjn | hjn
            · exact absurd ⟨List.mem_map.2 ⟨(j,t),hmem j oj t hjn hj' hd,rfl⟩,hts⟩ hc
            · have hjl:=(List.getElem?_eq_some_iff.1 hj').1
              have h4:=h2 j hjn hjl
              have hxl : j < listed.size:=by omega
              simp [hxl] at h4 ⊢;exact h4
          · rw [Array.getElem?_eq_none (by omega),Array.getElem?_eq_none (by rw [h.tsz];omega)]
      have e3:=(xI a every a0).trans h.defs.symm
      cases hf : fill a every a0
      cases a
      rw [hf] at e2 e3
      simp only at e2 e3
      rw [e2,e3]
    rw [e1] at h3
    exact h3
  intro fuel
  induction fuel with
  | zero =>
    intro listed a W h h00 h2 hc
    refine switch 0 listed a W h h2 (fun j hj => ?_) (by omega)
    have hs : listed.size = l.length:=by have:=h.size;simpa using this
    have hn0 : false ∉ listed.toList.take n:=List.count_eq_zero.1 (by omega)
    have hjl : j < listed.size:=by omega
    cases hb : listed[j]
    · refine absurd ?_ hn0
      have : (listed.toList.take n)[j]? = some false:=by rw [List.getElem?_take,if_pos hj];simp [hjl,hb]
      exact List.mem_of_getElem? this
    · simp [hjl,hb]
  | succ fuel ih =>
    intro listed a W h h00 h2 hc
    have hs : listed.size = l.length:=by have:=h.size;simpa using this
    by_cases hall : ∀ j,j < n → listed.getD j false = true
    · exact switch _ listed a W h h2 hall (by omega)
    · refine ⟨fun hr => ?_,fun i hi => ?_⟩
      · exact absurd (fun j hj => yE hok h.size hr j (by simp;omega)) hall
      · obtain ⟨hl,o,hio,hw⟩:=mem_ready.1 hi
        have hio' : l[i]? = some o:=by simpa using hio
        have hil:=(List.getElem?_eq_some_iff.1 hio').1
        have hin : i < n:=by
          rcases Nat.lt_or_ge i n with hlt | hge
          · exact hlt
          · exfalso
            refine hall fun j hj => ?_
            have ht1:=List.all_eq_true.1 ht i (List.mem_range.2 hil)
            have ht2 : (masks l).getD i 0 ||| 1 = 2 ^ i - 1:=by
              simp only [Bool.or_eq_true,decide_eq_true_eq,beq_iff_eq] at ht1
              rcases ht1 with h | h
              · omega
              · exact h
            rcases Nat.eq_zero_or_pos j with h0 | h0
            · rw [h0];exact h00
            exact qN hback (fun j oj hj => h.shut j oj (by simpa using hj)) i o hio' hw j (by
              have hb : ((masks l).getD i 0 ||| 1).testBit j = true:=by rw [ht2,Nat.testBit_two_pow_sub_one];simpa using (by omega : j < i)
              rw [Nat.testBit_or,bit_one h0,Bool.or_false] at hb;exact hb)
        refine QC hio (hok i o hio) (hob i o hin hio) h hi fun a' W' h' => ih _ _ _ h' (getD_set_true h00) (fun j hj hjl => by rw [getD_set_ne true (by omega)];exact h2 j hj hjl) ?_
        have hixl : i < listed.size:=by omega
        have:=xL (listed.toList.take n) i (by
          rw [List.getElem?_take,if_pos hin]
          simp [hixl] at hl ⊢;exact hl)
        rw [Array.toList_setIfInBounds,List.take_set]
        omega
theorem held_any {ops : Array Oper} {md : Region.Mode} : ∀ (fuel : Nat) (listed : Array Bool) (a : Act) (w : World),wpAny P md ops Q fuel listed a w → wpAnyH P md ops Q (fun _ => True) fuel listed a w
  | 0,_,_,_,h => h
  | fuel + 1,_,_,_,h => ⟨h.1,fun i hi => wpOp_mono (fun a' w' h' => ⟨trivial,held_any fuel _ a' w' h'⟩) (h.2 i hi)⟩
theorem zC {id : Nat} (n : Nat) (R : List Fact) (D : List (List (Nat × Nat))) (every : List (Nat × Nat)) (o0 : Oper) (c0 : Value) (hm : P.follows .mixedOrders = true) (hok : partsOk l.toArray D (every ++ ((List.range l.length).filterMap fun i => if n ≤ i then ((l[i]?).bind (·.dst)).map fun d => (i,d) else none)) a0.tmps.size = true)
    (ht : tailOk0 l n = true) (hn : decide (1 ≤ n ∧ n ≤ l.length) = true) (hev : every.all (fun p => decide (p.1 < n)) = true) (ho0 : l[0]? = some o0) (hsel : Region.noSelect l.toArray = true) (hfree : Region.free .any l.toArray (Array.replicate l.length false) 0 = true)
    (hrd : (Region.ready .any l.toArray (Array.replicate l.length false)).contains 0 = true) (hw0 : Region.wanted o0 (yielded l.toArray a0.tmps) = true) (hy0 : ∀ W,(execOp a0.eval o0).run P W = .ok (.value c0) W) (hR0 : factAt R 0 = .is c0)
    (hob : obs P l.toArray R D w a0 0 (l.take n)) (hend : ∀ W,Below w.heap.size w W → given R W (fun a => wpList P l.toArray (NoPanic Q) (l.drop n) a W) every a0) : (Code.region id l.toArray true).wp P Q a0 w:=by
  unfold partsOk at hok
  simp only [Bool.and_eq_true] at hok
  generalize hE : every ++ ((List.range l.length).filterMap fun i => if n ≤ i then ((l[i]?).bind (·.dst)).map fun d => (i,d) else none) = E at hok
  have hn' : 1 ≤ n ∧ n ≤ l.length:=by simpa using hn
  have ok : ∀ i o,l.toArray[i]? = some o → OpOk l.toArray D E a0.tmps.size i o:=fun i o hi => OpOk.of (by
    have:=List.all_eq_true.1 hok.1 i (List.mem_range.2 (Array.getElem?_eq_some_iff.1 hi).1)
    rw [hi] at this
    exact this)
  have hmem : ∀ i o d,i < n → l[i]? = some o → o.dst = some d → (i,d) ∈ every:=fun i o d hin hio hd => by
    have h1:=((ok i o (by simpa using hio)).dst d hd).2.1
    rw [← hE,List.mem_append] at h1
    rcases h1 with h1 | h1
    · exact h1
    · exfalso
      obtain ⟨k,hk,hkk⟩:=List.mem_filterMap.1 h1
      split at hkk
      · obtain ⟨d',_,hdd⟩:=Option.map_eq_some_iff.1 hkk
        cases hdd;omega
      · cases hkk
  have hev' : ∀ p ∈ every,p.1 < n ∧ ∃ oj,l[p.1]? = some oj ∧ oj.dst = some p.2:=fun p hp => by
    have h1:=List.all_eq_true.1 hok.2 p (by rw [← hE];exact List.mem_append_left _ hp)
    obtain ⟨oj,h6,h7⟩:=Option.bind_eq_some_iff.1 (beq_iff_eq.1 h1)
    have h2:=List.all_eq_true.1 hev p hp
    exact ⟨by simpa using h2,oj,by simpa using h6,h7⟩
  have hb0 : Below w.heap.size w { w with drawn:=w.drawn + 1 }:=⟨rfl,rfl,rfl,Nat.le_refl _,fun _ _ => rfl⟩
  have hI0 : PInv l.toArray R a0 w (Array.replicate l.length false) a0 { w with drawn:=w.drawn + 1 }:=⟨by simp,hb0,rfl,rfl,fun j oj d hj _ hl => by
    exfalso
    have hlt : j < l.length:=by have:=(Array.getElem?_eq_some_iff.1 hj).1;simpa using this
    simp [hlt] at hl,fun _ _ => rfl,fun j oj hj hl => by
    exfalso
    have hlt : j < l.length:=by have:=(Array.getElem?_eq_some_iff.1 hj).1;simpa using this
    simp [hlt] at hl⟩
  have ho0' : l.toArray[0]? = some o0:=by simpa using ho0
  have hmr : 0 ∈ Region.ready .any l.toArray (Array.replicate l.length false):=by simpa using hrd
  have hI1:=hI0.step (v:=c0) ho0' (ok 0 o0 ho0') hmr (Below.refl _ _) (fun d _ => by rw [hR0];exact rfl)
  refine wp_region_noPanic (wp_region_held (S:=fun _ => True) hm ?_)
  have hsz : l.toArray.size = (l.length - 1) + 1:=by simp;omega
  rw [hsz,show Array.replicate (l.length - 1 + 1) false = Array.replicate l.length false by congr 1;omega]
  refine wpAnyH_take ho0' hsel hfree hrd (fun _ _ _ h => h.elim) (.inl ⟨hw0,fun W _ => hy0 W⟩) trivial (held_any _ _ _ _ ?_)
  refine parts_tail0 (every:=every) (D:=D) (R:=R) (n:=n) ok hev' ht hn'.2 hn'.1 (fun i o hin hio W hW => ?_) hmem hend _ _ _ _ hI1 ?_ (fun j hj hjl => ?_) ?_
  · have h1:=Y5 (l.take n) 0 hob i o (by rw [List.getElem?_take,if_pos hin];simpa using hio) W hW
    rw [Nat.zero_add] at h1
    exact h1
  · simp;omega
  · rw [getD_set_ne true (by omega)]
    simp [hjl]
  · have h1n:=hn'.1;have hnl:=hn'.2
    have hc:=xL ((Array.replicate l.length false).toList.take n) 0 (by rw [List.getElem?_take,if_pos (by omega),Array.toList_replicate,List.getElem?_replicate,if_pos (by omega)])
    rw [Array.toList_setIfInBounds,List.take_set]
    have : ((Array.replicate l.length false).toList.take n).count false ≤ n:=by
      refine Nat.le_trans (List.count_le_length) ?_
      rw [List.length_take];omega
    omega
end
end Go.Proofs.Ytcbfghcdbmlneaa
