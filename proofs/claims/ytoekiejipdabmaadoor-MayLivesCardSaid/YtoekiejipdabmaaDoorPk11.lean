/- SemMath2, KillRun, MustRun, MayRun, SemIn, SemP1, SemP2, SemP4, SemOwn. -/
import Derived.Test.YtoekiejipdabmaaDoorPk9
import Derived.Test.YtoekiejipdabmaaDoorPk5
import Derived.Test.YtoekiejipdabmaaDoorPk7
import Derived.Test.YtoekiejipdabmaaDoorPk12
import Derived.Test.YtoekiejipdabmaaDoorPk6
import Derived.Test.YtoekiejipdabmaaDoorPk2
import Derived.BigQuiet
import Derived.Deep.QuietTactic
namespace Go.Proofs.YtoekiejipdabmaaDoor.M
theorem act_th {c : Cf} {t : Nat} {n : Nd} {way : Bool} {u : Nat} (hu : u < c.ths.length) (hne : u ≠ t) : (act c t n way).ths[u]? = c.ths[u]?:=by
  have h1 : ∀ x : Th,(c.ths.set t x)[u]? = c.ths[u]?:=fun x => List.getElem?_set_ne (fun e => hne e.symm)
  unfold act
  repeat' split
  all_goals first
    | exact h1 _
    | (rw [List.getElem?_append_left (by rw [List.length_set];exact hu)];exact h1 _)
theorem act_len {c : Cf} {t : Nat} {n : Nd} {way : Bool} : (act c t n way).ths.length = if n.kind = 5 then c.ths.length + 1 else c.ths.length:=by
  unfold act
  by_cases k9 : n.kind = 9
  · rw [if_pos k9,if_neg (show ¬ n.kind = 5 by omega)];simp
  rw [if_neg k9]
  by_cases k3 : n.kind = 3
  · rw [if_pos k3,if_neg (show ¬ n.kind = 5 by omega)];simp
  rw [if_neg k3]
  by_cases k4 : n.kind = 4
  · rw [if_pos k4,if_neg (show ¬ n.kind = 5 by omega)];simp
  rw [if_neg k4]
  by_cases k5 : n.kind = 5
  · rw [if_pos k5,if_pos k5];simp
  rw [if_neg k5,if_neg k5]
  split
  · simp
  · split <;> simp
theorem enabled_split {p : Pg} {c : Cf} {t : Int} (h : enabled p c t = true) : 0 ≤ t ∧ enabledN p c t.toNat = true:=by
  unfold enabled at h
  rw [Bool.and_eq_true,decide_eq_true_eq] at h
  exact h
theorem step_same {p : Pg} {c : Cf} {t : Int} {way : Bool} (h : enabled p c t = false) : step p c t way = c:=by
  unfold step;rw [h];rfl
theorem lives_nat (c : Cf) (u : Nat) : lives c (u : Int) = livesN c u:=by simp [lives]
end Go.Proofs.YtoekiejipdabmaaDoor.M
namespace Go.Proofs.YtoekiejipdabmaaDoor
open Go.RowKit
theorem zQ {c : M.Cf} {t u : Nat} {n : Nd} {way : Bool} {x : M.Th} (hu : (M.act c t n way).ths[u]? = some x) (hn : c.ths.length ≤ u) : n.kind = 5 ∧ u = c.ths.length ∧ x.stack = [(n.arg.toNat,0)]:=by
  have hlt:=(List.getElem?_eq_some_iff.1 hu).1
  rw [M.act_len] at hlt
  by_cases k5 : n.kind = 5
  · rw [if_pos k5] at hlt
    have he : u = c.ths.length:=by omega
    subst he
    unfold M.act at hu
    rw [if_neg (by omega),if_neg (by omega),if_neg (by omega),if_pos k5] at hu
    have hu2 : (c.ths.set t (⟨M.goOn (M.th c t).stack n.next.toNat,(M.th c t).slots.set n.alt.toNat (c.ths.length + 1)⟩ : M.Th) ++ [(⟨[(n.arg.toNat,0)],List.replicate 8 0⟩ : M.Th)])[c.ths.length]? = some x:=hu
    rw [List.getElem?_append_right (by simp)] at hu2
    simp at hu2
    subst hu2
    exact ⟨k5,rfl,rfl⟩
  · rw [if_neg k5] at hlt;omega
theorem goOn_at {s : List (Nat × Nat)} {m g : Nat} {fr : Nat × Nat} (h : (M.goOn s m)[g]? = some fr) : ∃ fr',s[g]? = some fr' ∧ fr'.1 = fr.1:=by
  have h1:=congrArg (fun l => l[g]?) (M.goOn_fst s m)
  simp only [List.getElem?_map,h,Option.map_some] at h1
  cases h2 : s[g]? with
  | none => rw [h2] at h1;cases h1
  | some fr' => rw [h2] at h1;simp at h1;exact ⟨fr',rfl,h1.symm⟩
theorem at_does {p : Pg} {c : M.Cf} (hl : p.fns.length = p.len) (hg : M.Good p c) {t : Nat} (h : M.livesN c t = true) {a b : Int} (hk : (M.node p c t).kind = a ∨ (M.node p c t).kind = b) {id : Nat} (ha : (M.node p c t).arg = (id : Int)) :
    MayDo p a b (M.top (M.th c t).stack).1 id:=by
  obtain ⟨fn,h1,_,h3⟩:=M.node_is hg h
  exact YG hl h1 (List.mem_of_getElem? h3) ⟨hk,ha⟩
theorem Q4 {p : Pg} {c : M.Cf} (hf : Fine p) (hl : p.fns.length = p.len) (hg : M.Good p c) {t : Nat} (h : M.livesN c t = true) (hk : (M.node p c t).kind = 7) : CallIn p (M.top (M.th c t).stack).1 (M.node p c t).arg.toNat:=by
  obtain ⟨fn,h1,_,h3⟩:=M.node_is hg h
  have hfit:=M.node_fit hf hg h h1
  have hc : Q.calls p (M.top (M.th c t).stack).1 (M.node p c t).arg.toNat:=⟨fn,h1,_,List.mem_of_getElem? h3,hk,by have:=hfit.arg;omega⟩
  exact ⟨hc,by rw [← hl];exact x6 hf hl hc⟩
def Begun (p : Pg) (fs : List Nat) (c : M.Cf) : Prop :=
  fs.length = c.ths.length ∧ ∀ (t f : Nat) (x : M.Th),fs[t]? = some f → c.ths[t]? = some x → ∀ fr ∈ x.stack,Comes p (fun y => y = f) fr.1
end Go.Proofs.YtoekiejipdabmaaDoor
namespace Go.Proofs.YtoekiejipdabmaaDoor
open Go.RowKit
namespace Mu
def hd (ls : List Sc) (x : Nat × Nat) : Nat:=(sec ls x.1).held.z.getD x.2 0
structure Told (p : Pg) (ls : List Sc) : Prop where
  entry : ∀ f,f < p.len → bare p f = true → (sec ls f).en = 0
  first : ∀ f,f < p.len → ∀ k,k < 32 → (hd ls (f,0)).testBit k = true → (sec ls f).en.testBit k = true
  call : ∀ f i n,f < p.len → (fn p f).nodes[i]? = some n → n.kind = 7 → ∀ k,k < 32 → (sec ls n.arg.toNat).en.testBit k = true → (hd ls (f,i)).testBit k = true
  exit : ∀ f i n,f < p.len → (fn p f).nodes[i]? = some n → n.kind = 9 → ∀ k,k < 32 → (sec ls f).ex.testBit k = true → (hd ls (f,i)).testBit k = true
  on : ∀ f i n,f < p.len → (fn p f).nodes[i]? = some n → ∀ to ∈ Q.succ n,∀ k,k < 32 → (hd ls (f,to.toNat)).testBit k = true → (behind (killL p 4 4) ls n (hd ls (f,i))).testBit k = true
theorem told_of {p : Pg} {ls : List Sc} (h : (check p (killL p 4 4) ls).2.2 = 0) : Told p ls:=by
  obtain ⟨_,h0⟩:=check_fine h
  have hf : ∀ f,f < p.len → _:=fun f hf => func_fine.1 (h0 f hf)
  have hn : ∀ f i n,f < p.len → (fn p f).nodes[i]? = some n → _:=fun f i n hfl hn => by
    have h1:=(hf f hfl).2.2 i (List.getElem?_eq_some_iff.1 hn).1
    unfold at_ at h1
    rw [List.getD_eq_getElem?_getD,hn] at h1
    exact node_zero.1 h1
  refine ⟨fun f hfl hb => (hf f hfl).1 hb,fun f hfl k hk hbit => (S.within_iff _ _).1 (hf f hfl).2.1 k hk hbit,fun f i n hfl hnd h7 k hk hbit => (S.within_iff _ _).1 ((hn f i n hfl hnd).1 h7) k hk hbit,fun f i n hfl hnd h9 k hk hbit => (S.within_iff _ _).1 ((hn f i n hfl hnd).2.1 h9) k hk hbit,fun f i n hfl hnd to ht k hk hbit => (S.within_iff _ _).1 ((hn f i n hfl hnd).2.2 to ht) k hk hbit⟩
theorem goOn_low {s : List (Nat × Nat)} {m g : Nat} (hg : g ≠ s.length - 1) : (M.goOn s m)[g]? = s[g]?:=by
  unfold M.goOn
  rw [List.getElem?_set_ne (fun e => hg e.symm)]
theorem goOn_top {s : List (Nat × Nat)} {m : Nat} (hs : 0 < s.length) : (M.goOn s m)[s.length - 1]? = some ((M.top s).1,m):=by
  unfold M.goOn
  rw [List.getElem?_set_self (by omega)]
theorem act_to {c : M.Cf} {t : Nat} {n : Nd} {way : Bool} (ht : t < c.ths.length) : ∃ x,(M.act c t n way).ths[t]? = some x ∧
    ((n.kind = 9 ∧ x.stack = (M.th c t).stack.take ((M.th c t).stack.length - 1)) ∨ (n.kind = 7 ∧ x.stack = M.goOn (M.th c t).stack n.next.toNat ++ [(n.arg.toNat,0)]) ∨ (n.kind ≠ 9 ∧ n.kind ≠ 7 ∧ ∃ to ∈ Q.succ n,x.stack = M.goOn (M.th c t).stack to.toNat)):=by
  have key : ∀ x : M.Th,(c.ths.set t x)[t]? = some x:=fun x => List.getElem?_set_self ht
  have hsn : n.kind ≠ 9 → n.next ∈ Q.succ n:=fun h9 => by
    unfold Q.succ
    rw [if_neg h9]
    split <;> simp
  unfold M.act
  by_cases k9 : n.kind = 9
  · rw [if_pos k9];exact ⟨_,key _,.inl ⟨k9,rfl⟩⟩
  rw [if_neg k9]
  have hnx:=hsn k9
  by_cases k3 : n.kind = 3
  · rw [if_pos k3];exact ⟨_,key _,.inr (.inr ⟨k9,by omega,_,hnx,rfl⟩)⟩
  rw [if_neg k3]
  by_cases k4 : n.kind = 4
  · rw [if_pos k4];exact ⟨_,key _,.inr (.inr ⟨k9,by omega,_,hnx,rfl⟩)⟩
  rw [if_neg k4]
  by_cases k5 : n.kind = 5
  · rw [if_pos k5]
    refine ⟨⟨M.goOn (M.th c t).stack n.next.toNat,(M.th c t).slots.set n.alt.toNat (c.ths.length + 1)⟩,?_,.inr (.inr ⟨k9,by omega,_,hnx,rfl⟩)⟩
    show (c.ths.set t _ ++ _)[t]? = _
    rw [List.getElem?_append_left (by rw [List.length_set];exact ht)]
    exact key _
  rw [if_neg k5]
  by_cases k7 : n.kind = 7
  · rw [if_pos k7];exact ⟨_,key _,.inr (.inl ⟨k7,rfl⟩)⟩
  rw [if_neg k7]
  by_cases k8 : n.kind = 8 ∧ way = true
  · rw [if_pos k8]
    refine ⟨_,key _,.inr (.inr ⟨k9,k7,n.alt,?_,rfl⟩)⟩
    unfold Q.succ
    rw [if_neg k9,if_pos k8.1]
    simp
  · rw [if_neg k8];exact ⟨_,key _,.inr (.inr ⟨k9,k7,_,hnx,rfl⟩)⟩
end Mu
end Go.Proofs.YtoekiejipdabmaaDoor
namespace Go.Proofs.YtoekiejipdabmaaDoor
open Go.RowKit
namespace Ma
def lv (ls : List Sc) (x : Nat × Nat) : Nat:=(Mu.sec ls x.1).live.z.getD x.2 0
structure Told (p : Pg) (bg : Nat) (ls : List Sc) : Prop where
  entry : ∀ (f : Nat),f < p.len → ∀ k,k < 32 → (Mu.sec ls f).le.testBit k = true → (lv ls (f,0)).testBit k = true
  call : ∀ (f i : Nat) (n : Nd),f < p.len → (Mu.fn p f).nodes[i]? = some n → n.kind = 7 → ∀ k,k < 32 → (lv ls (f,i)).testBit k = true → (Mu.sec ls n.arg.toNat).le.testBit k = true
  exit : ∀ (f i : Nat) (n : Nd),f < p.len → (Mu.fn p f).nodes[i]? = some n → n.kind = 9 → ∀ k,k < 32 → (lv ls (f,i)).testBit k = true → (Mu.sec ls f).lx.testBit k = true
  spawn : ∀ (f i : Nat) (n : Nd),f < p.len → (Mu.fn p f).nodes[i]? = some n → n.kind = 5 → S.has (Mu.sec ls n.arg.toNat).le p.s = true
  on : ∀ (f i : Nat) (n : Nd),f < p.len → (Mu.fn p f).nodes[i]? = some n → ∀ to ∈ Q.succ n,∀ k,k < 32 → (beh bg p.s ls n (lv ls (f,i))).testBit k = true → (lv ls (f,to.toNat)).testBit k = true
theorem told_of {p : Pg} {bg : Nat} {ls : List Sc} (h : (check p bg ls).2.2 = 0) : Told p bg ls:=by
  obtain ⟨_,h0⟩:=check_fine h
  have hf : ∀ f,f < p.len → _:=fun f hf => func_fine.1 (h0 f hf)
  have hn : ∀ f i n,f < p.len → (Mu.fn p f).nodes[i]? = some n → _:=fun f i n hfl hn => by
    have h1:=(hf f hfl).2 i (List.getElem?_eq_some_iff.1 hn).1
    unfold at_ at h1
    rw [List.getD_eq_getElem?_getD,hn] at h1
    exact node_zero.1 h1
  refine ⟨fun f hfl k hk hbit => (S.within_iff _ _).1 (hf f hfl).1 k hk hbit,fun f i n hfl hnd h7 k hk hbit => (S.within_iff _ _).1 ((hn f i n hfl hnd).1 h7) k hk hbit,fun f i n hfl hnd h9 k hk hbit => (S.within_iff _ _).1 ((hn f i n hfl hnd).2.1 h9) k hk hbit,fun f i n hfl hnd h5 => (hn f i n hfl hnd).2.2.1 h5,fun f i n hfl hnd to ht k hk hbit => (S.within_iff _ _).1 ((hn f i n hfl hnd).2.2.2 to ht) k hk hbit⟩
def Links (ls : List Sc) (s : List (Nat × Nat)) : Prop :=
  ∀ g fr fr2,s[g]? = some fr → s[g + 1]? = some fr2 → ∀ k,k < 32 → (Mu.sec ls fr2.1).lx.testBit k = true → (lv ls fr).testBit k = true
theorem LI {ls : List Sc} {s : List (Nat × Nat)} (h : Links ls s) (m : Nat) : Links ls (M.goOn s m):=by
  intro g fr fr2 hg hg2 k hk hbit
  have hlt : g + 1 < s.length:=by have:=(List.getElem?_eq_some_iff.1 hg2).1;rwa [M.goOn_len] at this
  rw [Mu.goOn_low (by omega)] at hg
  obtain ⟨fr2',e2,e3⟩:=goOn_at hg2
  exact h g fr fr2' hg e2 k hk (by rw [e3];exact hbit)
theorem QX {ls : List Sc} {s : List (Nat × Nat)} (h : Links ls s) (hs : 0 < s.length) (m a : Nat) (h1 : ∀ k,k < 32 → (Mu.sec ls a).lx.testBit k = true → (lv ls ((M.top s).1,m)).testBit k = true) : Links ls (M.goOn s m ++ [(a,0)]):=by
  have hlen : (M.goOn s m ++ [(a,0)]).length = s.length + 1:=by rw [List.length_append,M.goOn_len];rfl
  have hlast : (M.goOn s m ++ [(a,0)])[s.length]? = some (a,0):=by
    rw [List.getElem?_append_right (by rw [M.goOn_len];exact Nat.le_refl _),M.goOn_len,Nat.sub_self];rfl
  have hlow : ∀ g,g < s.length → (M.goOn s m ++ [(a,0)])[g]? = (M.goOn s m)[g]?:=fun g hg => List.getElem?_append_left (by rw [M.goOn_len];exact hg)
  intro g fr fr2 hg hg2 k hk hbit
  have hlt : g + 1 < s.length + 1:=by have:=(List.getElem?_eq_some_iff.1 hg2).1;rwa [hlen] at this
  by_cases e : g = s.length - 1
  · subst e
    rw [hlow _ (by omega),Mu.goOn_top hs] at hg
    rw [show s.length - 1 + 1 = s.length by omega,hlast] at hg2
    cases hg;cases hg2
    exact h1 k hk hbit
  · rw [hlow _ (by omega)] at hg hg2
    exact LI h m g fr fr2 hg hg2 k hk hbit
theorem YJ {ls : List Sc} {s : List (Nat × Nat)} (h : Links ls s) (n : Nat) : Links ls (s.take n):=by
  intro g fr fr2 hg hg2 k hk hbit
  have hat : ∀ {g fr},(s.take n)[g]? = some fr → s[g]? = some fr:=fun {g fr} hg => by
    rw [List.getElem?_take] at hg
    split at hg
    · exact hg
    · cases hg
  exact h g fr fr2 (hat hg) (hat hg2) k hk hbit
theorem J7 {ls : List Sc} {a : Nat × Nat} : Links ls [a]:=by
  intro g fr fr2 _ hg2
  have:=(List.getElem?_eq_some_iff.1 hg2).1
  simp at this
def kept (bg : Nat) (lost : Int) (n : Nd) (h : Nat) : Nat:=behind n h h lost (S.has bg n.arg)
theorem yI {bg h L : Nat} {n : Nd} {lost : Int} (hL : L < 32) (hl : lost = (L : Int)) (hj : n.kind = 6 → n.arg ≠ lost) (hb : h.testBit L = true) : (kept bg lost n h).testBit L = true:=by
  unfold kept
  rw [behind_bit hL]
  split
  · rw [hb];simp
  · split
    · rename_i h6
      rw [hb,Bool.true_and]
      have h1:=hj h6
      simp
      omega
    · split
      · exact hb
      · exact hb
theorem LM {bg h k : Nat} {n : Nd} {lost : Int} (hk : k < 32) (hj : n.kind = 6 → n.arg ≠ (k : Int)) (hb : h.testBit k = true) : (kept bg lost n h).testBit k = true:=by
  unfold kept
  rw [behind_bit hk]
  split
  · rw [hb];simp
  · split
    · rename_i h6
      rw [hb,Bool.true_and]
      have h1:=hj h6
      simp
      omega
    · split
      · exact hb
      · exact hb
theorem kept_alt {bg h k : Nat} {n : Nd} {lost : Int} (hk : k < 32) (h5 : n.kind = 5) (ha : n.alt = (k : Int)) : (kept bg lost n h).testBit k = true:=by
  unfold kept
  rw [behind_bit hk,if_pos h5,ha]
  simp
theorem uQ {bg h L : Nat} {n : Nd} {lost : Int} (hL : L < 32) (hl : lost = (L : Int)) (h5 : n.kind = 5) (hb : S.has bg n.arg = true ∨ S.has h n.alt = true) : (kept bg lost n h).testBit L = true:=by
  unfold kept
  rw [behind_bit hL,if_pos h5,hl]
  have h1 : (S.has bg n.arg || S.has h n.alt) = true:=by rcases hb with h1 | h1 <;> rw [h1] <;> simp
  rw [h1]
  simp
theorem act_slots {c : M.Cf} {t : Nat} {n : Nd} {way : Bool} (ht : t < c.ths.length) : ∃ x,(M.act c t n way).ths[t]? = some x ∧ x.slots = if n.kind = 5 then (M.th c t).slots.set n.alt.toNat (c.ths.length + 1) else (M.th c t).slots:=by
  have key : ∀ x : M.Th,(c.ths.set t x)[t]? = some x:=fun x => List.getElem?_set_self ht
  unfold M.act
  by_cases k9 : n.kind = 9
  · rw [if_pos k9,if_neg (show ¬ n.kind = 5 by omega)];exact ⟨_,key _,rfl⟩
  rw [if_neg k9]
  by_cases k3 : n.kind = 3
  · rw [if_pos k3,if_neg (show ¬ n.kind = 5 by omega)];exact ⟨_,key _,rfl⟩
  rw [if_neg k3]
  by_cases k4 : n.kind = 4
  · rw [if_pos k4,if_neg (show ¬ n.kind = 5 by omega)];exact ⟨_,key _,rfl⟩
  rw [if_neg k4]
  by_cases k5 : n.kind = 5
  · rw [if_pos k5,if_pos k5]
    refine ⟨⟨M.goOn (M.th c t).stack n.next.toNat,(M.th c t).slots.set n.alt.toNat (c.ths.length + 1)⟩,?_,rfl⟩
    show (c.ths.set t _ ++ _)[t]? = _
    rw [List.getElem?_append_left (by rw [List.length_set];exact ht)]
    exact key _
  rw [if_neg k5,if_neg k5]
  by_cases k7 : n.kind = 7
  · rw [if_pos k7];exact ⟨_,key _,rfl⟩
  rw [if_neg k7]
  by_cases k8 : n.kind = 8 ∧ way = true
  · rw [if_pos k8];exact ⟨_,key _,rfl⟩
  · rw [if_neg k8];exact ⟨_,key _,rfl⟩
theorem xZ {c : M.Cf} {u : Nat} {y : M.Th} (h : c.ths[u]? = some y) : M.livesN c u = true ↔ 0 < y.stack.length:=by
  unfold M.livesN
  rw [M.th_is h,decide_eq_true_eq]
theorem qN {c : M.Cf} {t u : Nat} {n : Nd} {way : Bool} (hlv : M.livesN c t = true) (h : M.livesN (M.act c t n way) u = true) : (u < c.ths.length ∧ M.livesN c u = true) ∨ (u = c.ths.length ∧ n.kind = 5):=by
  have hu:=M.lives_lt h
  by_cases hul : u < c.ths.length
  · left
    refine ⟨hul,?_⟩
    by_cases hut : u = t
    · rw [hut];exact hlv
    · have h1:=M.act_th (n:=n) (way:=way) hul hut
      have h2:=M.th_at hu
      rw [h1] at h2
      rw [xZ h2]
      exact (xZ (M.th_at hu)).1 h
  · right
    obtain ⟨k5,he,_⟩:=zQ (M.th_at hu) (by omega)
    exact ⟨he,k5⟩
structure Inv (p : Pg) (ls : List Sc) (L : Nat) (c : M.Cf) : Prop where
  links : ∀ (t : Nat) (x : M.Th),c.ths[t]? = some x → Links ls x.stack
  other : ∀ (t : Nat) (x : M.Th),0 < t → c.ths[t]? = some x → 0 < x.stack.length → (lv ls (M.top x.stack)).testBit L = true
  low : ∀ (x : M.Th),c.ths[0]? = some x → ∀ s ∈ x.slots,s ≤ c.ths.length ∧ s ≠ 1
  slot : ∀ (x : M.Th),c.ths[0]? = some x → 0 < x.stack.length → ∀ (k u : Nat),x.slots[k]? = some (u + 1) → M.livesN c u = true → (lv ls (M.top x.stack)).testBit k = true ∨ (lv ls (M.top x.stack)).testBit L = true
  out : ∀ (x : M.Th),c.ths[0]? = some x → 0 < x.stack.length → ∀ (u : Nat),0 < u → M.livesN c u = true → (∀ k : Nat,x.slots[k]? ≠ some (u + 1)) → (lv ls (M.top x.stack)).testBit L = true
  begins : ∀ (x : M.Th),c.ths[0]? = some x → 0 < x.stack.length → ∀ (u : Nat) (y : M.Th),0 < u → c.ths[u]? = some y → ∀ fr ∈ y.stack,(∃ id,id < 32 ∧ MayDo p 5 5 fr.1 id) → (lv ls (M.top x.stack)).testBit L = true
theorem inv_start (p : Pg) (ls : List Sc) (L : Nat) : Inv p ls L M.start:=by
  have one : ∀ {t : Nat} {x : M.Th},M.start.ths[t]? = some x → t = 0 ∧ x = ⟨[(0,0)],List.replicate 8 0⟩:=fun {t x} hx => by
    have e:=List.mem_singleton.1 (List.mem_of_getElem? hx)
    have h1:=(List.getElem?_eq_some_iff.1 hx).1
    exact ⟨by simp [M.start] at h1;omega,e⟩
  refine ⟨fun t x hx => ?_,fun t x ht hx => ?_,fun x hx s hs => ?_,fun x hx _ k u hk => ?_,fun x hx _ u hu hl => ?_,fun x hx _ u y hu hy => ?_⟩
  · rw [(one hx).2];exact J7
  · have:=(one hx).1;omega
  · rw [(one hx).2] at hs
    have:=List.eq_of_mem_replicate hs
    exact ⟨by omega,by omega⟩
  · rw [(one hx).2] at hk
    have:=List.eq_of_mem_replicate (List.mem_of_getElem? hk)
    omega
  · have h1:=M.th_at (M.lives_lt hl)
    have:=(one h1).1
    omega
  · have:=(one hy).1
    omega
theorem top_step {p : Pg} {bg : Nat} {ls : List Sc} {c : M.Cf} (hf : Fine p) (hl : p.fns.length = p.len) (ht : Told p bg ls) (hg : M.Good p c) {t : Nat} (way : Bool) (he : M.enabledN p c t = true) (hk : Links ls (M.th c t).stack) :
    ∃ x,(M.act c t (M.node p c t) way).ths[t]? = some x ∧ Links ls x.stack ∧ (0 < x.stack.length → ∀ k,k < 32 → (kept bg p.s (M.node p c t) (lv ls (M.top (M.th c t).stack))).testBit k = true → (lv ls (M.top x.stack)).testBit k = true) ∧
      x.slots = (if (M.node p c t).kind = 5 then (M.th c t).slots.set (M.node p c t).alt.toNat (c.ths.length + 1) else (M.th c t).slots) ∧
      ∀ fr ∈ x.stack,∀ id,MayDo p 5 5 fr.1 id → ∃ fr' ∈ (M.th c t).stack,MayDo p 5 5 fr'.1 id:=by
  have hlv:=M.enabled_lives he
  have htl:=M.lives_lt hlv
  have hs0 : 0 < (M.th c t).stack.length:=by unfold M.livesN at hlv;simpa using hlv
  obtain ⟨fx,hfn,_,hnd⟩:=M.node_is hg hlv
  have hfit:=M.node_fit hf hg hlv hfn
  have hfl : (M.top (M.th c t).stack).1 < p.len:=by rw [← hl];exact (List.getElem?_eq_some_iff.1 hfn).1
  have hnd2 : (Mu.fn p (M.top (M.th c t).stack).1).nodes[(M.top (M.th c t).stack).2]? = some (M.node p c t):=by
    have e : Mu.fn p (M.top (M.th c t).stack).1 = fx:=by unfold Mu.fn;rw [List.getD_eq_getElem?_getD,hfn];rfl
    rw [e];exact hnd
  obtain ⟨x,hx,hcase⟩:=Mu.act_to (n:=M.node p c t) (way:=way) htl
  obtain ⟨x2,hx2,hsl⟩:=act_slots (n:=M.node p c t) (way:=way) htl
  rw [hx] at hx2;obtain rfl : x = x2:=Option.some.inj hx2
  have old : ∀ m,∀ fr ∈ M.goOn (M.th c t).stack m,∀ id,MayDo p 5 5 fr.1 id → ∃ fr' ∈ (M.th c t).stack,MayDo p 5 5 fr'.1 id:=fun m fr hfr id hm => by
    rcases M.goOn_mem hfr with h1 | h1
    · exact ⟨fr,h1,hm⟩
    · refine ⟨_,M.top_mem hs0,?_⟩
      rw [h1] at hm
      exact hm
  have goTop : ∀ m,M.top (M.goOn (M.th c t).stack m) = ((M.top (M.th c t).stack).1,m):=fun m => by
    unfold M.top
    rw [M.goOn_len,List.getD_eq_getElem?_getD,Mu.goOn_top hs0];rfl
  refine ⟨x,hx,?_,?_,hsl,?_⟩
  · rcases hcase with ⟨k9,hst⟩ | ⟨k7,hst⟩ | ⟨k9,k7,to,hto,hst⟩
    · rw [hst];exact YJ hk _
    · rw [hst]
      have hnx : (M.node p c t).next ∈ Q.succ (M.node p c t):=by
        unfold Q.succ
        rw [if_neg (by omega),if_neg (by omega)]
        simp
      refine QX hk hs0 _ _ fun k hk32 hbit => ht.on _ _ _ hfl hnd2 _ hnx k hk32 ?_
      unfold beh
      rw [behind_bit hk32,if_neg (by omega),if_neg (by omega),if_pos k7]
      unfold exit_
      rw [if_pos k7]
      exact hbit
    · rw [hst];exact LI hk _
  · intro hx0 k hk32 hbit
    rcases hcase with ⟨k9,hst⟩ | ⟨k7,hst⟩ | ⟨k9,k7,to,hto,hst⟩
    · have hbit2 : (lv ls (M.top (M.th c t).stack)).testBit k = true:=by
        unfold kept at hbit
        rw [behind_bit hk32,if_neg (by omega),if_neg (by omega),if_neg (by omega)] at hbit
        exact hbit
      have hlen : x.stack.length = (M.th c t).stack.length - 1:=by rw [hst,List.length_take];omega
      have htop : (M.th c t).stack[(M.th c t).stack.length - 1 - 1]? = some (M.top x.stack):=by
        have h1:=M.top_at hx0
        rw [hlen] at h1
        rw [← h1,hst,List.getElem?_take,if_pos (by omega)]
      refine hk _ _ _ htop (by rw [show (M.th c t).stack.length - 1 - 1 + 1 = (M.th c t).stack.length - 1 by omega];exact M.top_at hs0) k hk32 ?_
      exact ht.exit _ _ _ hfl hnd2 k9 k hk32 hbit2
    · have hbit2 : (lv ls (M.top (M.th c t).stack)).testBit k = true:=by
        unfold kept at hbit
        rw [behind_bit hk32,if_neg (by omega),if_neg (by omega),if_pos k7] at hbit
        exact hbit
      have htop : M.top x.stack = ((M.node p c t).arg.toNat,0):=by
        unfold M.top
        rw [hst,List.length_append,List.length_singleton,Nat.add_sub_cancel,List.getD_eq_getElem?_getD,List.getElem?_append_right (Nat.le_refl _),Nat.sub_self];rfl
      rw [htop]
      exact ht.entry _ (Q4 hf hl hg hlv k7).2 k hk32 (ht.call _ _ _ hfl hnd2 k7 k hk32 hbit2)
    · rw [hst,goTop]
      refine ht.on _ _ _ hfl hnd2 to hto k hk32 ?_
      unfold kept at hbit
      unfold beh
      rw [behind_bit hk32] at hbit ⊢
      rw [if_neg k7] at hbit ⊢
      exact hbit
  · intro fr hfr id hm
    rcases hcase with ⟨k9,hst⟩ | ⟨k7,hst⟩ | ⟨k9,k7,to,hto,hst⟩
    · rw [hst] at hfr;exact ⟨fr,List.mem_of_mem_take hfr,hm⟩
    · rw [hst,List.mem_append] at hfr
      rcases hfr with h | h
      · exact old _ fr h id hm
      · have e:=List.mem_singleton.1 h
        subst e
        exact ⟨_,M.top_mem hs0,QV hfl (Q4 hf hl hg hlv k7) hm⟩
    · rw [hst] at hfr;exact old _ fr hfr id hm
theorem inv_act {p : Pg} {bg L : Nat} {ls : List Sc} {c : M.Cf} (hf : Fine p) (hl : p.fns.length = p.len) (hL : p.s = (L : Int)) (hbg : BitsAre bg (fun f => f < p.len ∧ ∃ id,id < 32 ∧ MayDo p 5 5 f id)) (ht : Told p bg ls) (hg : M.Good p c) (hi : Inv p ls L c) {t : Nat} (way : Bool) (he : M.enabledN p c t = true) :
    Inv p ls L (M.act c t (M.node p c t) way):=by
  have hlv:=M.enabled_lives he
  have htl:=M.lives_lt hlv
  have hs0 : 0 < (M.th c t).stack.length:=by unfold M.livesN at hlv;simpa using hlv
  obtain ⟨fx,hfn,_,hnd⟩:=M.node_is hg hlv
  have hfit:=M.node_fit hf hg hlv hfn
  have hfl : (M.top (M.th c t).stack).1 < p.len:=by rw [← hl];exact (List.getElem?_eq_some_iff.1 hfn).1
  have hnd2 : (Mu.fn p (M.top (M.th c t).stack).1).nodes[(M.top (M.th c t).stack).2]? = some (M.node p c t):=by
    have e : Mu.fn p (M.top (M.th c t).stack).1 = fx:=by unfold Mu.fn;rw [List.getD_eq_getElem?_getD,hfn];rfl
    rw [e];exact hnd
  have hs8:=hf.counts.s
  have hf16:=hf.counts.f
  have hL8 : L < 32:=by omega
  obtain ⟨x,hx,hxl,hxt,hxs,hxd⟩:=top_step hf hl ht hg way he (hi.links t _ (M.th_at htl))
  obtain ⟨n,hn⟩ : ∃ n,M.node p c t = n:=⟨_,rfl⟩
  rw [hn] at hfit hnd2 hx hxt hxs ⊢
  have hjoin : n.kind = 6 → n.arg ≠ p.s ∧ 0 ≤ n.arg ∧ n.arg < 8:=fun h6 => by
    have h1:=M.fine_node hf hfn hnd
    rw [hn] at h1
    have h0:=M.fine_len hf hfn
    unfold Q.may at h1
    simp only [Bool.and_eq_true,decide_eq_true_eq,List.all_eq_true,List.mem_range] at h1
    have a0:=h1.2 0 (by omega)
    have hr : Q.row n.kind = Q.rows.getD 6 []:=by unfold Q.row;rw [if_neg (by omega),h6];rfl
    rw [hr] at a0
    simp [Q.rows,Q.size,Q.fields] at a0
    exact ⟨by omega,by omega,by omega⟩
  have hspawn : n.kind = 5 → ∃ a k : Nat,n.arg = (a : Int) ∧ n.alt = (k : Int) ∧ a < p.len ∧ k < 8:=fun h5 => by
    have h1:=hfit.spawn h5
    have h2:=hfit.arg
    have h3:=hfit.alt
    exact ⟨n.arg.toNat,n.alt.toNat,by omega,by omega,by omega,by omega⟩
  have hdo : n.kind = 5 → ∃ id,id < 32 ∧ MayDo p 5 5 (M.top (M.th c t).stack).1 id:=fun h5 => by
    obtain ⟨a,_,ha,_,hal,_⟩:=hspawn h5
    exact ⟨a,by omega,at_does hl hg hlv (.inl (by rw [hn];exact h5)) (by rw [hn];exact ha)⟩
  have hlen : (M.act c t n way).ths.length = if n.kind = 5 then c.ths.length + 1 else c.ths.length:=M.act_len
  have hge : c.ths.length ≤ (M.act c t n way).ths.length:=by rw [hlen];split <;> omega
  have h0l : 0 < c.ths.length:=hg.one
  -- what is told where the first thread is: behind a step of another thread it stays
  have far : t ≠ 0 → (M.act c t n way).ths[0]? = c.ths[0]?:=fun h0 => M.act_th h0l (fun e => h0 e.symm)
  have hold : ∀ {k : Nat},(M.th c t).slots[k]? = some (c.ths.length + 1) → t = 0 → False:=fun {k} hk h0 => by
    subst h0
    have:=(hi.low _ (M.th_at htl) _ (List.mem_of_getElem? hk)).1
    omega
  refine ⟨fun u y hy => ?_,fun u y hu hy hy0 => ?_,fun y hy s hs => ?_,fun y hy hy0 k u hk hul => ?_,fun y hy hy0 u hu hul hno => ?_,fun y hy hy0 u z hu hz fr hfr hm => ?_⟩
  · by_cases hul : u < c.ths.length
    · by_cases hut : u = t
      · subst hut
        rw [hx] at hy;obtain rfl : x = y:=Option.some.inj hy
        exact hxl
      · rw [M.act_th hul hut] at hy
        exact hi.links u y hy
    · obtain ⟨_,_,hst⟩:=zQ hy (by omega)
      rw [hst];exact J7
  · by_cases hul : u < c.ths.length
    · by_cases hut : u = t
      · subst hut
        rw [hx] at hy;obtain rfl : x = y:=Option.some.inj hy
        exact hxt hy0 L hL8 (yI hL8 hL (fun h6 => (hjoin h6).1) (hi.other u _ hu (M.th_at htl) hs0))
      · rw [M.act_th hul hut] at hy
        exact hi.other u y hu hy hy0
    · obtain ⟨k5,_,hst⟩:=zQ hy (by omega)
      obtain ⟨a,k,ha,_,hal,_⟩:=hspawn k5
      have h1:=ht.spawn _ _ _ hfl hnd2 k5
      rw [hL,S.has_in _ _ (by omega)] at h1
      have htop : M.top y.stack = (n.arg.toNat,0):=by rw [hst];rfl
      rw [htop]
      exact ht.entry _ (by omega) L hL8 h1
  · by_cases h0 : t = 0
    · subst h0
      rw [hx] at hy;obtain rfl : x = y:=Option.some.inj hy
      rw [hxs] at hs
      have old:=hi.low _ (M.th_at htl)
      split at hs
      · rename_i k5
        rw [hlen,if_pos k5]
        rcases List.mem_or_eq_of_mem_set hs with h1 | h1
        · have:=old s h1
          exact ⟨by omega,this.2⟩
        · exact ⟨by omega,by omega⟩
      · have:=old s hs
        exact ⟨by omega,this.2⟩
    · rw [far h0] at hy
      have:=hi.low y hy s hs
      exact ⟨by omega,this.2⟩
  · by_cases h0 : t = 0
    · subst h0
      rw [hx] at hy;obtain rfl : x = y:=Option.some.inj hy
      rw [hxs] at hk
      have old:=hi.slot _ (M.th_at htl) hs0
      have lift : ∀ j : Nat,j < 32 → (kept bg p.s n (lv ls (M.top (M.th c 0).stack))).testBit j = true → (lv ls (M.top x.stack)).testBit j = true:=hxt hy0
      have lost_ : (lv ls (M.top (M.th c 0).stack)).testBit L = true → (lv ls (M.top x.stack)).testBit L = true:=fun h => lift L hL8 (yI hL8 hL (fun h6 => (hjoin h6).1) h)
      have e8:=hg.eight _ (M.th_mem htl)
      have hk8 : k < 8:=by
        have h1:=(List.getElem?_eq_some_iff.1 hk).1
        split at h1
        · rw [List.length_set,e8] at h1;exact h1
        · rw [e8] at h1;exact h1
      split at hk
      · rename_i k5
        obtain ⟨a,ka,ha,hka,hal,hk8a⟩:=hspawn k5
        by_cases hkk : k = ka
        · subst hkk
          exact .inl (lift k (by omega) (kept_alt (by omega) k5 hka))
        · rw [List.getElem?_set_ne (by omega)] at hk
          rcases qN hlv hul with ⟨_,h1⟩ | ⟨h1,_⟩
          · rcases old k u hk h1 with h2 | h2
            · exact .inl (lift k (by omega) (LM (by omega) (fun h6 => by omega) h2))
            · exact .inr (lost_ h2)
          · subst h1
            exact (hold hk rfl).elim
      · rename_i k5
        rcases qN hlv hul with ⟨_,h1⟩ | ⟨_,h1⟩
        · by_cases h6 : n.kind = 6 ∧ n.arg = (k : Int)
          · exfalso
            unfold M.enabledN at he
            rw [hn,if_neg (by omega),if_pos h6.1,h6.2,Int.toNat_natCast,List.getD_eq_getElem?_getD,hk] at he
            have h2 : M.lives c (((some (u + 1)).getD 0 : Nat) - 1 : Int) = M.livesN c u:=by
              rw [show (((some (u + 1)).getD 0 : Nat) - 1 : Int) = (u : Int) by simp]
              exact M.lives_nat c u
            rw [h2,h1] at he
            simp at he
          · rcases old k u hk h1 with h2 | h2
            · exact .inl (lift k (by omega) (LM (by omega) (fun h7 h8 => h6 ⟨h7,h8⟩) h2))
            · exact .inr (lost_ h2)
        · exact absurd h1 k5
    · rw [far h0] at hy
      rcases qN hlv hul with ⟨_,h1⟩ | ⟨h1,_⟩
      · exact hi.slot y hy hy0 k u hk h1
      · have:=(hi.low y hy _ (List.mem_of_getElem? hk)).1
        omega
  · by_cases h0 : t = 0
    · subst h0
      rw [hx] at hy;obtain rfl : x = y:=Option.some.inj hy
      have lift:=hxt hy0
      have lost_ : (lv ls (M.top (M.th c 0).stack)).testBit L = true → (lv ls (M.top x.stack)).testBit L = true:=fun h => lift L hL8 (yI hL8 hL (fun h6 => (hjoin h6).1) h)
      rw [hxs] at hno
      have e8:=hg.eight _ (M.th_mem htl)
      by_cases k5 : n.kind = 5
      · rw [if_pos k5] at hno
        obtain ⟨a,ka,ha,hka,hal,hk8a⟩:=hspawn k5
        have hka2 : n.alt.toNat = ka:=by omega
        rw [hka2] at hno
        rcases qN hlv hul with ⟨_,h1⟩ | ⟨h1,_⟩
        · by_cases hin : (M.th c 0).slots[ka]? = some (u + 1)
          · rcases hi.slot _ (M.th_at htl) hs0 ka u hin h1 with h2 | h2
            · refine lift L hL8 (uQ hL8 hL k5 (.inr ?_))
              rw [hka,S.has_in _ _ (by omega)]
              exact h2
            · exact lost_ h2
          · refine lost_ (hi.out _ (M.th_at htl) hs0 u hu h1 fun k hk => ?_)
            by_cases hkk : ka = k
            · subst hkk;exact hin hk
            · exact hno k (by rw [List.getElem?_set_ne hkk];exact hk)
        · exfalso
          refine hno ka ?_
          rw [h1]
          exact List.getElem?_set_self (by omega)
      · rw [if_neg k5] at hno
        rcases qN hlv hul with ⟨_,h1⟩ | ⟨_,h1⟩
        · exact lost_ (hi.out _ (M.th_at htl) hs0 u hu h1 hno)
        · exact absurd h1 k5
    · rw [far h0] at hy
      rcases qN hlv hul with ⟨_,h1⟩ | ⟨h1,k5⟩
      · exact hi.out y hy hy0 u hu h1 hno
      · exact hi.begins y hy hy0 t _ (by omega) (M.th_at htl) _ (M.top_mem hs0) (hdo k5)
  · obtain ⟨id,hid,hm⟩:=hm
    by_cases h0 : t = 0
    · subst h0
      rw [hx] at hy;obtain rfl : x = y:=Option.some.inj hy
      have lift:=hxt hy0
      by_cases hul : u < c.ths.length
      · rw [M.act_th hul (by omega)] at hz
        exact lift L hL8 (yI hL8 hL (fun h6 => (hjoin h6).1) (hi.begins _ (M.th_at htl) hs0 u z hu hz fr hfr ⟨id,hid,hm⟩))
      · obtain ⟨k5,_,hst⟩:=zQ hz (by omega)
        obtain ⟨a,ka,ha,hka,hal,hk8a⟩:=hspawn k5
        rw [hst] at hfr
        have e:=List.mem_singleton.1 hfr
        subst e
        refine lift L hL8 (uQ hL8 hL k5 (.inl ?_))
        rw [ha,S.has_in _ _ (by omega)]
        refine (hbg.2 a (by omega)).2 ⟨hal,id,hid,?_⟩
        have h1 : n.arg.toNat = a:=by omega
        rw [← h1];exact hm
    · rw [far h0] at hy
      by_cases hul : u < c.ths.length
      · by_cases hut : u = t
        · subst hut
          rw [hx] at hz;obtain rfl : x = z:=Option.some.inj hz
          obtain ⟨fr',h1,h2⟩:=hxd fr hfr id hm
          exact hi.begins y hy hy0 u _ hu (M.th_at htl) fr' h1 ⟨id,hid,h2⟩
        · rw [M.act_th hul hut] at hz
          exact hi.begins y hy hy0 u z hu hz fr hfr ⟨id,hid,hm⟩
      · obtain ⟨k5,_,_⟩:=zQ hz (by omega)
        exact hi.begins y hy hy0 t _ (by omega) (M.th_at htl) _ (M.top_mem hs0) (hdo k5)
theorem inv_step {p : Pg} {bg L : Nat} {ls : List Sc} {c : M.Cf} (hf : Fine p) (hl : p.fns.length = p.len) (hL : p.s = (L : Int)) (hbg : BitsAre bg (fun f => f < p.len ∧ ∃ id,id < 32 ∧ MayDo p 5 5 f id)) (ht : Told p bg ls) (hg : M.Good p c) (hi : Inv p ls L c) (t : Int) (way : Bool) : Inv p ls L (M.step p c t way):=by
  cases he : M.enabled p c t with
  | false => rw [M.step_same he];exact hi
  | true =>
    obtain ⟨_,h1⟩:=M.enabled_split he
    unfold M.step
    rw [he]
    exact inv_act hf hl hL hbg ht hg hi way h1
def livesTo (c : M.Cf) : Nat → Nat
  | 0 => 0
  | n + 1 => livesTo c n + (if M.livesN c n = true then 1 else 0)
theorem livesTo_le (c : M.Cf) : ∀ n,livesTo c n ≤ n
  | 0 => Nat.le_refl _
  | n + 1 => by
    have:=livesTo_le c n
    unfold livesTo
    split <;> omega
theorem vK {c : M.Cf} (h0 : M.livesN c 0 = true) (h : ∀ (u : Nat),0 < u → M.livesN c u = false) : ∀ n,livesTo c (n + 1) = 1
  | 0 => by unfold livesTo livesTo;rw [if_pos h0]
  | n + 1 => by
    unfold livesTo
    rw [vK h0 h n,h (n + 1) (by omega),if_neg (by simp)]
theorem inv_alone {p : Pg} {ls : List Sc} {L : Nat} {c : M.Cf} (hi : Inv p ls L c) {t : Nat} {x : M.Th} (hx : c.ths[t]? = some x) (hs : 0 < x.stack.length) (h0 : lv ls (M.top x.stack) = 0) : livesTo c c.ths.length = 1:=by
  have no : ∀ k,(lv ls (M.top x.stack)).testBit k = true → False:=fun k h => by rw [h0] at h;simp at h
  have ht : t = 0:=Classical.byContradiction fun hne => no L (hi.other t x (by omega) hx hs)
  subst ht
  have hlt:=(List.getElem?_eq_some_iff.1 hx).1
  obtain ⟨m,hm⟩ : ∃ m,c.ths.length = m + 1:=⟨c.ths.length - 1,by omega⟩
  rw [hm]
  refine vK ((xZ hx).2 hs) (fun u hu => ?_) m
  cases hlu : M.livesN c u with
  | false => rfl
  | true =>
    exfalso
    by_cases hin : ∃ k : Nat,x.slots[k]? = some (u + 1)
    · obtain ⟨k,hk⟩:=hin
      rcases hi.slot x hx hs k u hk hlu with h | h
      · exact no _ h
      · exact no _ h
    · exact no L (hi.out x hx hs u hu hlu fun k hk => hin ⟨k,hk⟩)
end Ma
end Go.Proofs.YtoekiejipdabmaaDoor
namespace Go.Proofs.YtoekiejipdabmaaDoor
open Go.RowKit
def frV (f : Nat × Nat) : Nat → Value
  | 0 => .int .i64 (f.1 : Int)
  | _ => .int .i64 (f.2 : Int)
structure Sv where
  A : Option Addr
  len : Nat
  cap : Nat
  stack : List (Nat × Nat)
instance : Inhabited Sv:=⟨⟨none,0,0,[]⟩⟩
def svV (x : Sv) : Value:=.slice x.A x.len x.cap
structure Sv.Ok (x : Sv) (w : World) (B : Nat) : Prop where
  row : Recs 2 frV w B x.A x.len x.stack
  lc : x.len ≤ x.cap
  cm : x.cap ≤ maxLen
structure Tv where
  sv : Sv
  slots : List Nat
instance : Inhabited Tv:=⟨⟨default,[]⟩⟩
def tvV (x : Tv) : Nat → Value
  | 0 => .slice x.sv.A x.sv.len x.sv.cap
  | j + 1 => .int .i64 (x.slots.getD j 0 : Int)
def tvT (x : Tv) : M.Th:=⟨x.sv.stack,x.slots⟩
structure Pc where
  A : Option Addr
  len : Nat
  cap : Nat
  tvs : List Tv
  ow : List Nat
def pcC (q : Pc) : List Value:=.slice q.A q.len q.cap :: q.ow.map natV
def pcA (q : Pc) : Value:=.agg (pcC q).toArray
def Pc.cf (q : Pc) : M.Cf:=⟨q.tvs.map tvT,q.ow⟩
structure Pc.Ok (q : Pc) (w : World) (B : Nat) : Prop where
  row : Recs 9 tvV w B q.A q.len q.tvs
  lc : q.len ≤ q.cap
  cm : q.cap ≤ maxLen
  svs : ∀ x ∈ q.tvs,x.sv.Ok w B
theorem Sv.Ok.keep {x : Sv} {w w' : World} {B : Nat} (h : x.Ok w B) (hk : ∀ p : Addr,p.block < B → w'.cell? p = w.cell? p) : x.Ok w' B:=⟨h.row.keep hk,h.lc,h.cm⟩
theorem Sv.Ok.more {x : Sv} {w : World} {B B' : Nat} (h : x.Ok w B) (hB : B ≤ B') : x.Ok w B':=⟨h.row.more hB,h.lc,h.cm⟩
theorem Pc.Ok.keep {q : Pc} {w w' : World} {B : Nat} (h : q.Ok w B) (hk : ∀ p : Addr,p.block < B → w'.cell? p = w.cell? p) : q.Ok w' B:=⟨h.row.keep hk,h.lc,h.cm,fun x hx => (h.svs x hx).keep hk⟩
theorem Pc.Ok.below {q : Pc} {w w' : World} {B : Nat} (h : q.Ok w B) (hb : Below B w w') : q.Ok w' B:=h.keep fun _ hp => hb.cell hp
theorem Pc.Ok.more {q : Pc} {w : World} {B B' : Nat} (h : q.Ok w B) (hB : B ≤ B') : q.Ok w B':=⟨h.row.more hB,h.lc,h.cm,fun x hx => (h.svs x hx).more hB⟩
theorem Pc.ths_len (q : Pc) : q.cf.ths.length = q.tvs.length:=by simp [Pc.cf]
theorem Pc.Ok.len {q : Pc} {w : World} {B : Nat} (h : q.Ok w B) : q.cf.ths.length = q.len:=by rw [q.ths_len];exact h.row.len
theorem Pc.th_of {q : Pc} {k : Nat} {x : Tv} (h : q.tvs[k]? = some x) : M.th q.cf k = tvT x:=M.th_is (by show (q.tvs.map tvT)[k]? = _;rw [List.getElem?_map,h];rfl)
theorem Pc.Ok.thread {q : Pc} {w : World} {B : Nat} (h : q.Ok w B) {k : Nat} (hk : k < q.len) :
    ∃ ad x,q.A = some ad ∧ ad.block < B ∧ q.tvs[k]? = some x ∧ x.sv.Ok w B ∧ M.th q.cf k = tvT x ∧ x.sv.stack.length = x.sv.len ∧ w.cell? (ad.add (k * 9)) = some (.slice x.sv.A x.sv.len x.sv.cap) ∧
      ∀ j,w.cell? ⟨(ad.add (k * 9)).block,(ad.add (k * 9)).off + (j + 1),none⟩ = some (.int .i64 (x.slots.getD j 0 : Int)) ∨ 8 ≤ j:=by
  obtain ⟨ad,x,e,hb,hx,h0,hc⟩:=h.row.field hk
  refine ⟨ad,x,e,hb,hx,h.svs x (List.mem_of_getElem? hx),Pc.th_of hx,(h.svs x (List.mem_of_getElem? hx)).row.len,h0 (by omega),fun j => ?_⟩
  rcases Nat.lt_or_ge j 8 with hj | hj
  · exact .inl (hc (j + 1) (by omega) (by omega))
  · exact .inr hj
theorem Sv.Ok.last {x : Sv} {w : World} {B : Nat} (h : x.Ok w B) (h0 : 0 < x.len) :
    ∃ ad,x.A = some ad ∧ ad.block < B ∧ w.cell? (ad.add ((x.len - 1) * 2)) = some (.int .i64 ((M.top x.stack).1 : Int)) ∧ w.cell? ⟨(ad.add ((x.len - 1) * 2)).block,(ad.add ((x.len - 1) * 2)).off + 1,none⟩ = some (.int .i64 ((M.top x.stack).2 : Int)):=by
  obtain ⟨ad,f,e,hb,hx,hc0,hc⟩:=h.row.field (k:=x.len - 1) (by omega)
  have ef : M.top x.stack = f:=by
    unfold M.top
    rw [h.row.len,List.getD_eq_getElem?_getD,hx];rfl
  rw [ef]
  exact ⟨ad,e,hb,hc0 (by omega),hc 1 (by omega) (by omega)⟩
theorem YI {c : M.Cf} {t : Int} (h : t < 0 ∨ (c.ths.length : Int) ≤ t) : M.lives c t = false:=by
  unfold M.lives
  by_cases h0 : 0 ≤ t
  · rw [decide_eq_true h0,Bool.true_and]
    cases hl : M.livesN c t.toNat with
    | false => rfl
    | true => have:=M.lives_lt hl;omega
  · rw [decide_eq_false h0];rfl
theorem lives_in {c : M.Cf} {t : Nat} {x : M.Th} (h : M.th c t = x) : M.lives c (t : Int) = decide (0 < x.stack.length):=by
  rw [M.lives_nat];unfold M.livesN;rw [h]
set_option maxRecDepth 100000 in
set_option maxHeartbeats 800000 in
theorem yC (n c : Int) (_hn : I64 n) (_hc : I64 c) (b : Bool) (hb : decide (0 ≤ n ∧ n < c) = b) (w : World) :
    Calls Tryd.prog 29 #[.int .i64 n,.int .i64 c] w fun e w' => e = .returned (.bool b) ∧ w = w':=by
  subst hb
  by_cases h1 : 0 ≤ n
  · by_cases h2 : n < c
    · rw [decide_eq_true (show 0 ≤ n ∧ n < c from ⟨h1,h2⟩)]
      go_enter Tryd.func29,Tryd.ntmps29
      go_wp2
      go_ret
      exact ⟨rfl,rfl⟩
    · rw [decide_eq_false (show ¬ (0 ≤ n ∧ n < c) from fun h => h2 h.2)]
      go_enter Tryd.func29,Tryd.ntmps29
      go_wp2
      go_ret
      exact ⟨rfl,rfl⟩
  · rw [decide_eq_false (show ¬ (0 ≤ n ∧ n < c) from fun h => h1 h.1)]
    go_enter Tryd.func29,Tryd.ntmps29
    go_wp2
    go_ret
    exact ⟨rfl,rfl⟩
set_option maxRecDepth 100000 in
set_option maxHeartbeats 800000 in
theorem vZ (n : Nat) (hn : n ≤ 1000) (w : World) :
    Calls Tryd.prog 69 #[.int .i64 (n : Int)] w fun e w' => e = .returned (.int .i64 ((n + 1 : Nat) : Int)) ∧ w = w':=by
  go_enter Tryd.func69,Tryd.ntmps69
  go_wp2
  go_ret
  exact ⟨l7 (by omega),rfl⟩
set_option maxRecDepth 100000 in
set_option maxHeartbeats 800000 in
theorem QC (n : Nat) (hn : n ≤ 1000) (w : World) :
    Calls Tryd.prog 50 #[.int .i64 (n : Int)] w fun e w' => e = .returned (.int .i64 ((n : Int) - 1)) ∧ w = w':=by
  go_enter Tryd.func50,Tryd.ntmps50
  go_wp2
  go_ret
  exact ⟨l7 (by omega),rfl⟩
set_option maxRecDepth 100000 in
set_option maxHeartbeats 800000 in
theorem u5 (a ad : Addr) (n c : Nat) (w : World) (h0 : 0 < n) (hn : n ≤ 1000) (hc : w.cell? a = some (.slice (some ad) n c)) :
    Calls Tryd.prog 52 #[.pointer (some a)] w fun e w' => e = .returned (.pointer (some (ad.add ((n - 1) * 2)))) ∧ ∃ m,w' = w.drewN m:=by
  obtain ⟨k,rfl⟩ : ∃ k,n = k + 1:=⟨n - 1,by omega⟩
  rw [Nat.add_sub_cancel]
  go_enter Tryd.func52,Tryd.ntmps52
  go_wp2
  go_quiet (fail)
  go_wp2
  go_ret
  exact ⟨rfl,_,rfl⟩
set_option maxRecDepth 100000 in
set_option maxHeartbeats 800000 in
theorem qM (B : Nat) (q : Pc) (w : World) (hq : q.Ok w B) (hB : B ≤ w.heap.size) (hl : q.len ≤ 1000) (t : Int) (ht : I64 t) (b : Bool) (hb : M.lives q.cf t = b) :
    Calls Tryd.prog 15 #[pcA q,.int .i64 t] w fun e w' => e = .returned (.bool b) ∧ Below w.heap.size w w':=by
  have hlen:=hq.len
  have HT:=kp ht
  have HLc : Kept (I64 (q.len : Int)):=kp (by unfold I64;omega)
  have hcap:=hq.lc
  have hcm:=hq.cm
  unfold maxLen at hcm
  by_cases hin : 0 ≤ t ∧ t < (q.len : Int)
  · obtain ⟨k,rfl⟩ : ∃ k : Nat,t = (k : Int):=⟨t.toNat,by omega⟩
    have hk : k < q.len:=by omega
    have HIn:=kp (decide_eq_true hin)
    obtain ⟨ad,x,hA,hbl,hx,hok,hth,hsl,hc0,_⟩:=hq.thread hk
    rw [lives_in hth] at hb
    have hb2 : decide (0 < x.sv.len) = b:=by rw [← hb,← hsl];rfl
    have hxm:=hok.cm;have hxc:=hok.lc
    unfold maxLen at hxm
    have HC0:=kp hc0
    obtain ⟨n,hn⟩ : ∃ n,x.sv.len = n:=⟨_,rfl⟩
    rw [hn] at hb2 hxc HC0
    have HE : Kept (pcC q = .slice (some ad) q.len q.cap :: q.ow.map natV):=kp (by unfold pcC;rw [hA])
    have hbz : ad.block < w.heap.size:=by omega
    clear hq hb hx hok hth hsl hc0 hA hin hn hbl hlen ht
    unfold pcA
    rw [HE.out]
    cases b
    all_goals
      go_enter Tryd.func15,Tryd.ntmps15
      go_wp2_with (first
        | ((with_reducible refine j4 rfl 43 (.tmp 0) rfl (.slice (some ad) q.len q.cap :: q.ow.map natV) rfl ?_);intro g1 w1 hg1 hk1 hw1;have HW1:=kp hw1;have hf0:=hk1.cell 0;have hf1:=(hw1.cell (p:=ad.add (k * 9)) (by rw [add_block];exact hbz)).trans HC0.out;simp only [List.getElem?_cons_zero] at hf0;clear hk1 hw1)
        | (go_at_call 29;go_must (refine (yC _ _ HT.out HLc.out true HIn.out _).mono ?_);rintro e w2 ⟨rfl,rfl⟩))
      go_ret
      exact ⟨rfl,HW1.out⟩
  · have hb0 : M.lives q.cf t = false:=YI (by omega)
    rw [hb0] at hb
    subst hb
    have HIn:=kp (decide_eq_false hin)
    clear hq hlen ht hin hb0
    go_enter Tryd.func15,Tryd.ntmps15
    go_wp2_with (first
      | ((with_reducible refine j4 rfl 43 (.tmp 0) rfl (pcC q) rfl ?_);intro g1 w1 hg1 hk1 hw1;have HW1:=kp hw1;have hf0:=hk1.cell 0;simp only [pcC,List.getElem?_cons_zero] at hf0;clear hk1 hw1)
      | (go_at_call 29;go_must (refine (yC _ _ HT.out HLc.out false HIn.out _).mono ?_);rintro e w2 ⟨rfl,rfl⟩))
    go_ret
    exact ⟨rfl,HW1.out⟩
theorem jH : (Tryd.prog.info? 43).map (·.size) = some 17:=by kernel_rfl
theorem LB {o : List Nat} (h16 : o.length = 16) {k : Nat} (hk : k < 16) : (o.map natV)[k]? = some (.int .i64 (o.getD k 0 : Int)):=by
  rw [List.getElem?_map,List.getElem?_eq_getElem (by omega),List.getD_eq_getElem?_getD,List.getElem?_eq_getElem (by omega)];rfl
section
variable {α : Type} {sz : Nat} {f : α → Nat → Value} {w w' : World} {B : Nat} {e : TypeId} {l : List α}
theorem OwnR.blk {A : Option Addr} {n cap : Nat} (h : OwnR sz f w B e (.slice A n cap) l) (h0 : 0 < n) :
    ∃ g cur,A = some ⟨g,0,none⟩ ∧ Blk w g e cur ∧ cur.length = cap * sz ∧ cur.take (n * sz) = cellsR sz f l ∧ B ≤ g ∧ n ≤ cap ∧ cap ≤ maxLen ∧ l.length = n:=by
  rcases h.2 with ⟨hv,hz⟩ | ⟨g,cap',cur,hv,hB,hg,hn,hm,hs,ht⟩
  · injection hv with _ e2 _;omega
  · injection hv with e1 e2 e3
    subst e1 e3
    rw [← e2] at hn ht
    exact ⟨g,cur.toList,rfl,by unfold Blk;simpa using hg,by simpa using hs,ht,hB,hn,hm,e2.symm⟩
theorem OwnR.of_blk {g n cap : Nat} {cur : List Value} (hb : Blk w g e cur) (hB : B ≤ g) (hl : l.length = n) (hn : n ≤ cap) (hm : cap ≤ maxLen) (hs : cur.length = cap * sz) (ht : cur.take (n * sz) = cellsR sz f l) : OwnR sz f w B e (.slice (some ⟨g,0,none⟩) n cap) l:=by
  subst hl
  exact ⟨lU sz f l,.inr ⟨g,cap,cur.toArray,rfl,hB,hb,hn,hm,by simpa using hs,by simpa using ht⟩⟩
theorem OwnR.len_is {A : Option Addr} {n cap : Nat} (h : OwnR sz f w B e (.slice A n cap) l) : l.length = n ∧ n ≤ cap ∧ cap ≤ maxLen:=by
  obtain ⟨A',c',hv,h1,h2,_⟩:=h.form
  injection hv with _ e2 e3
  omega
theorem OwnR.recs {A : Option Addr} {n cap : Nat} (h : OwnR sz f w B e (.slice A n cap) l) : Recs sz f w w.heap.size A n l:=by
  obtain ⟨A',c',hv,h1,h2,h3⟩:=h.form
  injection hv with e1 e2 e3
  rw [e1,e2];exact h3
theorem OwnR.less {v : Value} {B' : Nat} (h : OwnR sz f w B e v l) (hB : B' ≤ B) : OwnR sz f w B' e v l:=by
  rcases h.2 with h1 | ⟨g,cap,cur,hv,hB1,rest⟩
  · exact ⟨h.1,.inl h1⟩
  · exact ⟨h.1,.inr ⟨g,cap,cur,hv,by omega,rest⟩⟩
theorem X6 {j : Nat} {x x' : α} {v : Value} : ∀ {l : List α} {k : Nat},l[k]? = some x → j < sz → (∀ i,i < sz → f x' i = if i = j then v else f x i) → cellsR sz f (l.set k x') = (cellsR sz f l).set (k * sz + j) v:=by
  intro l k hx hj hf
  apply List.ext_getElem?
  intro i
  have hk : k < l.length:=(List.getElem?_eq_some_iff.1 hx).1
  have hlen : (cellsR sz f (l.set k x')).length = l.length * sz:=by rw [lU,List.length_set]
  have hlen2 : (cellsR sz f l).length = l.length * sz:=lU sz f l
  have hkb : k * sz + sz ≤ l.length * sz:=by
    have:=Nat.mul_le_mul_right sz (show k + 1 ≤ l.length from hk)
    rw [Nat.add_mul,Nat.one_mul] at this;exact this
  rw [List.getElem?_set]
  rcases Nat.lt_or_ge i (l.length * sz) with hi | hi
  · have hsz : 0 < sz:=by omega
    have hq : i = i / sz * sz + i % sz:=by have:=Nat.div_add_mod i sz;rw [Nat.mul_comm] at this;omega
    have hr : i % sz < sz:=Nat.mod_lt _ hsz
    have hd : i / sz < l.length:=by
      rcases Nat.lt_or_ge (i / sz) l.length with h | h
      · exact h
      · have:=Nat.mul_le_mul_right sz h;omega
    generalize i / sz = a at hq hd
    generalize i % sz = b at hq hr
    subst hq
    by_cases e : a = k
    · subst e
      rw [lM sz f (l.set a x') a b x' (by rw [List.getElem?_set,if_pos rfl,if_pos hk]) hr,hf b hr]
      by_cases eb : b = j
      · subst eb
        rw [if_pos rfl,if_pos rfl,if_pos (by omega)]
      · rw [if_neg eb,if_neg (by omega),lM sz f l a b x hx hr]
    · have hya : l[a]? = some l[a]:=List.getElem?_eq_getElem hd
      rw [lM sz f (l.set k x') a b l[a] (by rw [List.getElem?_set,if_neg (fun h => e h.symm)];exact hya) hr,lM sz f l a b l[a] hya hr]
      rw [if_neg]
      intro h
      rcases Nat.lt_or_ge a k with h1 | h1
      · have:=Nat.mul_le_mul_right sz (show a + 1 ≤ k from h1)
        rw [Nat.add_mul,Nat.one_mul] at this;omega
      · have:=Nat.mul_le_mul_right sz (show k + 1 ≤ a by omega)
        rw [Nat.add_mul,Nat.one_mul] at this;omega
  · rw [List.getElem?_eq_none (by omega),if_neg (by omega),List.getElem?_eq_none (by omega)]
theorem OwnR.set {g n cap k j : Nat} {x x' : α} {v : Value} (h : OwnR sz f w B e (.slice (some ⟨g,0,none⟩) n cap) l) (hx : l[k]? = some x) (hj : j < sz) (hf : ∀ i,i < sz → f x' i = if i = j then v else f x i) {cur cur' : List Value} (hb : Blk w g e cur)
    (hc : cur' = cur.set (k * sz + j) v) (hb' : Blk w' g e cur') : OwnR sz f w' B e (.slice (some ⟨g,0,none⟩) n cap) (l.set k x'):=by
  have hk : k < l.length:=(List.getElem?_eq_some_iff.1 hx).1
  have hln:=h.len_is.1
  obtain ⟨g',cur2,e1,hb2,hs,ht,hB,hn,hm,hl⟩:=h.blk (by omega)
  injection e1 with e1
  injection e1 with e1
  subst e1
  have ec : cur2 = cur:=by
    unfold Blk at hb hb2
    rw [hb] at hb2
    have:=Option.some.inj hb2
    injection this with h1 h2 h3
    have:=congrArg Array.toList h1
    simpa using this.symm
  subst ec
  refine OwnR.of_blk hb' hB (by rw [List.length_set];exact hl) hn hm (by rw [hc,List.length_set];exact hs) ?_
  rw [hc,X6 hx hj hf,← ht,List.take_set]
end
structure Fam (e : TypeId) (w : World) (B : Nat) (S : Nat → Prop) (l : List Sv) : Prop where
  own : ∀ (k : Nat) (x : Sv),l[k]? = some x → OwnR 2 frV w B e (svV x) x.stack
  out : ∀ (k : Nat) (x : Sv) (b : Nat),l[k]? = some x → (svV x).ownBlock = some b → ¬ S b
  apart : ∀ (k j : Nat) (x y : Sv) (b : Nat),l[k]? = some x → l[j]? = some y → (svV x).ownBlock = some b → (svV y).ownBlock = some b → k = j
section
variable {e : TypeId} {w w' : World} {B : Nat} {S S' : Nat → Prop} {l : List Sv}
theorem Fam.nil (e : TypeId) (w : World) (B : Nat) (S : Nat → Prop) : Fam e w B S []:=⟨fun _ _ h => by simp at h,fun _ _ _ h => by simp at h,fun _ _ _ _ _ h => by simp at h⟩
theorem Fam.block (h : Fam e w B S l) {k : Nat} {x : Sv} {b : Nat} (hx : l[k]? = some x) (hb : (svV x).ownBlock = some b) : B ≤ b ∧ b < w.heap.size:=(h.own k x hx).block b hb
theorem Fam.turn (h : Fam e w B S l) {row : Option Nat} (hg : w.grownBy w' row) (hr : ∀ b,row = some b → S b) : Fam e w' B S l :=
  ⟨fun k x hx => (h.own k x hx).far hg (by
    cases hv : (svV x).ownBlock with
    | none => exact .inl rfl
    | some b => exact .inr fun e1 => h.out k x b hx hv (hr b e1.symm)),h.out,h.apart⟩
theorem Fam.below (h : Fam e w B S l) {C : Nat} (hb : Below C w w') (hC : w.heap.size ≤ C) : Fam e w' B S l:=⟨fun k x hx => (h.own k x hx).below hb hC,h.out,h.apart⟩
theorem Fam.less (h : Fam e w B S l) (hS : ∀ b,S' b → S b ∨ w.heap.size ≤ b) : Fam e w B S' l :=
  ⟨h.own,fun k x b hx hb hs => by
    rcases hS b hs with h1 | h1
    · exact h.out k x b hx hb h1
    · have:=(h.block hx hb).2;omega,h.apart⟩
theorem Fam.set (h : Fam e w B S l) {k : Nat} {x x' : Sv} (hx : l[k]? = some x) (hg : w.grownBy w' (svV x).ownBlock) (ho : OwnR 2 frV w' B e (svV x') x'.stack)
    (hb : (svV x').ownBlock = (svV x).ownBlock ∨ ∀ b,(svV x').ownBlock = some b → w.heap.size ≤ b) (hS : ∀ b,S b → b < w.heap.size) : Fam e w' B S (l.set k x'):=by
  have hk : k < l.length:=(List.getElem?_eq_some_iff.1 hx).1
  have key : ∀ j y,(l.set k x')[j]? = some y → (j = k ∧ y = x') ∨ (j ≠ k ∧ l[j]? = some y):=fun j y hy => by
    rw [List.getElem?_set] at hy
    by_cases e1 : k = j
    · subst e1
      rw [if_pos rfl,if_pos hk] at hy
      exact .inl ⟨rfl,(Option.some.inj hy).symm⟩
    · rw [if_neg e1] at hy
      exact .inr ⟨fun e2 => e1 e2.symm,hy⟩
  have far : ∀ j y b,j ≠ k → l[j]? = some y → (svV y).ownBlock = some b → (svV x').ownBlock ≠ some b:=fun j y b hne hy hb1 hb2 => by
    rcases hb with hb | hb
    · exact hne (h.apart j k y x b hy hx hb1 (by rw [← hb];exact hb2))
    · have:=hb b hb2
      have:=(h.block hy hb1).2
      omega
  refine ⟨fun j y hy => ?_,fun j y b hy hb1 hs => ?_,fun i j y z b hy hz hb1 hb2 => ?_⟩
  · rcases key j y hy with ⟨_,rfl⟩ | ⟨hne,hy⟩
    · exact ho
    · refine (h.own j y hy).far hg ?_
      cases hv : (svV y).ownBlock with
      | none => exact .inl rfl
      | some b => exact .inr fun e1 => hne (h.apart j k y x b hy hx hv e1.symm)
  · rcases key j y hy with ⟨_,rfl⟩ | ⟨hne,hy⟩
    · rcases hb with hb | hb
      · exact h.out k x b hx (by rw [← hb];exact hb1) hs
      · have:=hb b hb1
        have:=hS b hs
        omega
    · exact h.out j y b hy hb1 hs
  · rcases key i y hy with ⟨e1,e2⟩ | ⟨hne,hy'⟩
    · rcases key j z hz with ⟨e3,_⟩ | ⟨hne2,hz'⟩
      · rw [e1,e3]
      · rw [e2] at hb1;exact absurd hb1 (far j z b hne2 hz' hb2)
    · rcases key j z hz with ⟨_,e4⟩ | ⟨hne2,hz'⟩
      · rw [e4] at hb2;exact absurd hb2 (far i y b hne hy' hb1)
      · exact h.apart i j y z b hy' hz' hb1 hb2
theorem Fam.push (h : Fam e w B S l) {x : Sv} (hg : w.grownBy w' none) (ho : OwnR 2 frV w' B e (svV x) x.stack) (hb : ∀ b,(svV x).ownBlock = some b → w.heap.size ≤ b) (hS : ∀ b,S b → b < w.heap.size) : Fam e w' B S (l ++ [x]):=by
  have key : ∀ j y,(l ++ [x])[j]? = some y → (j = l.length ∧ y = x) ∨ (j < l.length ∧ l[j]? = some y):=fun j y hy => by
    rcases Nat.lt_or_ge j l.length with h1 | h1
    · rw [List.getElem?_append_left h1] at hy
      exact .inr ⟨h1,hy⟩
    · have h2:=(List.getElem?_eq_some_iff.1 hy).1
      simp only [List.length_append,List.length_singleton] at h2
      have e1 : j = l.length:=by omega
      subst e1
      rw [List.getElem?_append_right (Nat.le_refl _),Nat.sub_self] at hy
      exact .inl ⟨rfl,by simpa using hy.symm⟩
  refine ⟨fun j y hy => ?_,fun j y b hy hb1 hs => ?_,fun i j y z b hy hz hb1 hb2 => ?_⟩
  · rcases key j y hy with ⟨_,rfl⟩ | ⟨_,hy⟩
    · exact ho
    · exact (h.own j y hy).far hg (by cases (svV y).ownBlock <;> simp)
  · rcases key j y hy with ⟨_,rfl⟩ | ⟨_,hy⟩
    · have:=hb b hb1;have:=hS b hs;omega
    · exact h.out j y b hy hb1 hs
  · rcases key i y hy with ⟨e1,e2⟩ | ⟨h1,hy'⟩
    · rcases key j z hz with ⟨e3,_⟩ | ⟨h2,hz'⟩
      · rw [e1,e3]
      · rw [e2] at hb1
        have:=hb b hb1;have:=(h.block hz' hb2).2;omega
    · rcases key j z hz with ⟨_,e4⟩ | ⟨h2,hz'⟩
      · rw [e4] at hb2
        have:=hb b hb2;have:=(h.block hy' hb1).2;omega
      · exact h.apart i j y z b hy' hz' hb1 hb2
end
structure St (w : World) (B gN gU : Nat) (q : Pc) : Prop where
  conf : Blk w gN 43 (pcC q)
  row : OwnR 9 tvV w B 50 (.slice q.A q.len q.cap) q.tvs
  fam : Fam 52 w B (fun b => b = gN ∨ b = gU ∨ (Value.slice q.A q.len q.cap).ownBlock = some b) (q.tvs.map (·.sv))
  ne : ∀ b,(Value.slice q.A q.len q.cap).ownBlock = some b → b ≠ gN ∧ b ≠ gU
  low : B ≤ gN ∧ gU < w.heap.size
theorem St.below {w w' : World} {B gN gU C : Nat} {q : Pc} (h : St w B gN gU q) (hb : Below C w w') (hC : w.heap.size ≤ C) : St w' B gN gU q :=
  ⟨h.conf.below hb (Nat.lt_of_lt_of_le h.conf.lt hC),h.row.below hb hC,h.fam.below hb hC,h.ne,h.low.1,Nat.lt_of_lt_of_le h.low.2 hb.size⟩
theorem St.drewN {w : World} {B gN gU : Nat} {q : Pc} (h : St w B gN gU q) (k : Nat) : St (w.drewN k) B gN gU q:=h.below (below_drewN (Below.refl w.heap.size w) k) (Nat.le_refl _)
theorem St.ok {w : World} {B gN gU : Nat} {q : Pc} (h : St w B gN gU q) : q.Ok w w.heap.size :=
  ⟨h.row.recs,h.row.len_is.2.1,h.row.len_is.2.2,fun x hx => by
    obtain ⟨k,hk⟩:=List.mem_iff_getElem?.1 hx
    have ho:=h.fam.own k x.sv (by rw [List.getElem?_map,hk];rfl)
    exact ⟨ho.recs,ho.len_is.2.1,ho.len_is.2.2⟩⟩
theorem St.thread {w : World} {B gN gU k : Nat} {q : Pc} (h : St w B gN gU q) (hk : k < q.len) :
    ∃ gT cur x,q.A = some ⟨gT,0,none⟩ ∧ Blk w gT 50 cur ∧ q.tvs[k]? = some x ∧ cur[k * 9]? = some (.slice x.sv.A x.sv.len x.sv.cap) ∧ (∀ j,j < 8 → cur[k * 9 + (j + 1)]? = some (.int .i64 (x.slots.getD j 0 : Int))) ∧ gT ≠ gN ∧ gT ≠ gU ∧ B ≤ gT ∧
      x.sv.stack.length = x.sv.len ∧ M.th q.cf k = tvT x ∧ k * 9 + 9 ≤ cur.length:=by
  obtain ⟨gT,cur,hA,hb,hs,ht,hB,hn,hm,hl⟩:=h.row.blk (by omega)
  have hkl : k < q.tvs.length:=by omega
  have hx:=List.getElem?_eq_getElem hkl
  have hne:=h.ne gT (by rw [hA];rfl)
  have ho:=h.fam.own k _ (by rw [List.getElem?_map,hx];rfl)
  have hc : ∀ j,j < 9 → cur[k * 9 + j]? = some (tvV q.tvs[k] j):=fun j hj => by
    have h1:=lM 9 tvV q.tvs k j _ hx hj
    rw [← ht,List.getElem?_take] at h1
    split at h1
    · exact h1
    · cases h1
  have hlen : k * 9 + 9 ≤ cur.length:=by rw [hs];omega
  exact ⟨gT,cur,_,hA,hb,hx,hc 0 (by omega),fun j hj => hc (j + 1) (by omega),hne.1,hne.2,hB,ho.len_is.1,Pc.th_of hx,hlen⟩
end Go.Proofs.YtoekiejipdabmaaDoor
