/- SemMath2, KillRun, MustRun, Make, SemIn, SemP1, SemP2, SemP4, SemOwn. -/
import Derived.Test.YtlgaefenhfmjfaaDoorPk9
import Derived.Test.YtlgaefenhfmjfaaDoorPk6
import Derived.Test.YtlgaefenhfmjfaaDoorPk2
import Derived.Test.YtlgaefenhfmjfaaDoorPk14
import Derived.Test.YtlgaefenhfmjfaaDoorPk8
import Derived.BigQuiet
import Derived.Deep.QuietTactic
namespace Go.Proofs.YtlgaefenhfmjfaaDoor.M
theorem act_th {c : Cf} {t : Nat} {n : Nd} {way : Bool} {u : Nat} (hu : u < c.ths.length) (hne : u ≠ t) : (act c t n way).ths[u]? = c.ths[u]?:=by
  have h1 : ∀ x : Th,(c.ths.set t x)[u]? = c.ths[u]?:=fun x => List.getElem?_set_ne (fun e => hne e.symm)
  unfold act
  repeat' split
  all_goals first
    | exact h1 _
    | (rw [List.getElem?_append_left (by rw [List.length_set];exact hu)];exact h1 _)
theorem act_len {c : Cf} {t : Nat} {n : Nd} {way : Bool} : (act c t n way).ths.length = if n.kind = 5 then c.ths.length + 1 else c.ths.length:=by
  unfold act
  by_cases k9 : n.kind = 9
  · rw [if_pos k9,if_neg (show ¬ n.kind = 5 by omega)];simp
  rw [if_neg k9]
  by_cases k3 : n.kind = 3
  · rw [if_pos k3,if_neg (show ¬ n.kind = 5 by omega)];simp
  rw [if_neg k3]
  by_cases k4 : n.kind = 4
  · rw [if_pos k4,if_neg (show ¬ n.kind = 5 by omega)];simp
  rw [if_neg k4]
  by_cases k5 : n.kind = 5
  · rw [if_pos k5,if_pos k5];simp
  rw [if_neg k5,if_neg k5]
  split
  · simp
  · split <;> simp
theorem enabled_split {p : Pg} {c : Cf} {t : Int} (h : enabled p c t = true) : 0 ≤ t ∧ enabledN p c t.toNat = true:=by
  unfold enabled at h
  rw [Bool.and_eq_true,decide_eq_true_eq] at h
  exact h
theorem step_same {p : Pg} {c : Cf} {t : Int} {way : Bool} (h : enabled p c t = false) : step p c t way = c:=by
  unfold step;rw [h];rfl
theorem lives_nat (c : Cf) (u : Nat) : lives c (u : Int) = livesN c u:=by simp [lives]
theorem YG {p : Pg} {c : Cf} {t : Nat} {way : Bool} (he : enabledN p c t = true) (k v : Nat) (hv : v ≠ 0) :
    ((act c t (node p c t) way).owners.getD k 0 = v ↔ c.owners.getD k 0 = v) ∨ (v = t + 1 ∧ (((node p c t).kind = 3 ∧ c.owners.getD k 0 ≠ v) ∨ ((node p c t).kind = 4 ∧ c.owners.getD k 0 = v))):=by
  obtain ⟨n,hn⟩ : ∃ n,node p c t = n:=⟨_,rfl⟩
  have key : ∀ (a v2 : Nat),(c.owners.set a v2).getD k 0 = if a = k ∧ k < c.owners.length then v2 else c.owners.getD k 0:=fun a v2 => by
    rw [List.getD_eq_getElem?_getD,List.getElem?_set,List.getD_eq_getElem?_getD]
    by_cases e : a = k
    · subst e
      by_cases hl : a < c.owners.length
      · rw [if_pos rfl,if_pos hl,if_pos ⟨rfl,hl⟩];rfl
      · rw [if_pos rfl,if_neg hl,if_neg (fun h => hl h.2),List.getElem?_eq_none (by omega)]
    · rw [if_neg e,if_neg (fun h => e h.1)]
  rw [hn]
  unfold act
  by_cases k9 : n.kind = 9
  · rw [if_pos k9];exact .inl Iff.rfl
  rw [if_neg k9]
  by_cases k3 : n.kind = 3
  · rw [if_pos k3]
    show ((c.owners.set n.arg.toNat (t + 1)).getD k 0 = v ↔ _) ∨ _
    rw [key]
    have h0 : c.owners.getD n.arg.toNat 0 = 0:=by
      unfold enabledN at he
      rw [hn,if_pos k3] at he
      rw [Bool.and_eq_true,decide_eq_true_eq] at he
      exact he.2
    by_cases e : n.arg.toNat = k ∧ k < c.owners.length
    · rw [if_pos e]
      by_cases hv2 : v = t + 1
      · right
        refine ⟨hv2,.inl ⟨k3,?_⟩⟩
        rw [← e.1,h0];omega
      · left
        rw [← e.1,h0]
        exact ⟨fun h => absurd h.symm hv2,fun h => absurd h.symm hv⟩
    · rw [if_neg e];exact .inl Iff.rfl
  rw [if_neg k3]
  by_cases k4 : n.kind = 4
  · rw [if_pos k4]
    show ((if c.owners.getD n.arg.toNat 0 = t + 1 then c.owners.set n.arg.toNat 0 else c.owners).getD k 0 = v ↔ _) ∨ _
    by_cases h1 : c.owners.getD n.arg.toNat 0 = t + 1
    · rw [if_pos h1,key]
      by_cases e : n.arg.toNat = k ∧ k < c.owners.length
      · rw [if_pos e]
        by_cases hv2 : v = t + 1
        · right
          exact ⟨hv2,.inr ⟨k4,by rw [← e.1,h1,hv2]⟩⟩
        · left
          rw [← e.1,h1]
          exact ⟨fun h => absurd h.symm hv,fun h => absurd h.symm hv2⟩
      · rw [if_neg e];exact .inl Iff.rfl
    · rw [if_neg h1];exact .inl Iff.rfl
  rw [if_neg k4]
  left
  by_cases k5 : n.kind = 5
  · rw [if_pos k5]
  rw [if_neg k5]
  by_cases k7 : n.kind = 7
  · rw [if_pos k7]
  rw [if_neg k7]
  by_cases k8 : n.kind = 8 ∧ way = true
  · rw [if_pos k8]
  · rw [if_neg k8]
theorem vZ {o o2 : List Nat} {t : Nat} (h : ∀ k,o.getD k 0 = t + 1 ↔ o2.getD k 0 = t + 1) : ∀ n,heldTo o t n = heldTo o2 t n
  | 0 => rfl
  | n + 1 => by
    unfold heldTo
    rw [vZ h n]
    by_cases e : o.getD n 0 = t + 1
    · rw [if_pos e,if_pos ((h n).1 e)]
    · rw [if_neg e,if_neg (fun x => e ((h n).2 x))]
theorem step_held {p : Pg} {c : Cf} {t : Int} {way : Bool} {u : Nat} (hne : (u : Int) ≠ t) : heldTo (step p c t way).owners u 16 = heldTo c.owners u 16:=by
  unfold step
  split
  · rename_i h
    obtain ⟨h0,h1⟩:=enabled_split h
    refine vZ (fun k => ?_) 16
    rcases YG (way:=way) h1 k (u + 1) (by omega) with h2 | ⟨h2,_⟩
    · exact h2
    · omega
  · rfl
end Go.Proofs.YtlgaefenhfmjfaaDoor.M
namespace Go.Proofs.YtlgaefenhfmjfaaDoor
open Go.RowKit
theorem act_new {c : M.Cf} {t u : Nat} {n : Nd} {way : Bool} {x : M.Th} (hu : (M.act c t n way).ths[u]? = some x) (hn : c.ths.length ≤ u) : n.kind = 5 ∧ u = c.ths.length ∧ x.stack = [(n.arg.toNat,0)]:=by
  have hlt:=(List.getElem?_eq_some_iff.1 hu).1
  rw [M.act_len] at hlt
  by_cases k5 : n.kind = 5
  · rw [if_pos k5] at hlt
    have he : u = c.ths.length:=by omega
    subst he
    unfold M.act at hu
    rw [if_neg (by omega),if_neg (by omega),if_neg (by omega),if_pos k5] at hu
    have hu2 : (c.ths.set t (⟨M.goOn (M.th c t).stack n.next.toNat,(M.th c t).slots.set n.alt.toNat (c.ths.length + 1)⟩ : M.Th) ++ [(⟨[(n.arg.toNat,0)],List.replicate 8 0⟩ : M.Th)])[c.ths.length]? = some x:=hu
    rw [List.getElem?_append_right (by simp)] at hu2
    simp at hu2
    subst hu2
    exact ⟨k5,rfl,rfl⟩
  · rw [if_neg k5] at hlt;omega
theorem act_less {c : M.Cf} {t : Nat} {n : Nd} {way : Bool} {k : Nat} (k4 : n.kind = 4) (h : (M.heldTo c.owners t 16).testBit k = true) (hn : (M.heldTo (M.act c t n way).owners t 16).testBit k = false) : k = n.arg.toNat:=by
  rw [M.held_bit,decide_eq_true_eq] at h
  rw [M.held_bit,decide_eq_false_iff_not] at hn
  refine Classical.byContradiction fun hne => hn ⟨h.1,?_⟩
  unfold M.act
  rw [if_neg (by omega),if_neg (by omega),if_pos k4]
  show (if c.owners.getD n.arg.toNat 0 = t + 1 then c.owners.set n.arg.toNat 0 else c.owners).getD k 0 = t + 1
  split
  · rw [List.getD_eq_getElem?_getD,List.getElem?_set_ne (fun e => hne e.symm),← List.getD_eq_getElem?_getD];exact h.2
  · exact h.2
theorem zZ {s : List (Nat × Nat)} {m g : Nat} {fr : Nat × Nat} (h : (M.goOn s m)[g]? = some fr) : ∃ fr',s[g]? = some fr' ∧ fr'.1 = fr.1:=by
  have h1:=congrArg (fun l => l[g]?) (M.goOn_fst s m)
  simp only [List.getElem?_map,h,Option.map_some] at h1
  cases h2 : s[g]? with
  | none => rw [h2] at h1;cases h1
  | some fr' => rw [h2] at h1;simp at h1;exact ⟨fr',rfl,h1.symm⟩
theorem at_does {p : Pg} {c : M.Cf} (hl : p.fns.length = p.len) (hg : M.Good p c) {t : Nat} (h : M.livesN c t = true) {a b : Int} (hk : (M.node p c t).kind = a ∨ (M.node p c t).kind = b) {id : Nat} (ha : (M.node p c t).arg = (id : Int)) :
    MayDo p a b (M.top (M.th c t).stack).1 id:=by
  obtain ⟨fn,h1,_,h3⟩:=M.node_is hg h
  exact XW hl h1 (List.mem_of_getElem? h3) ⟨hk,ha⟩
theorem at_calls {p : Pg} {c : M.Cf} (hf : Fine p) (hl : p.fns.length = p.len) (hg : M.Good p c) {t : Nat} (h : M.livesN c t = true) (hk : (M.node p c t).kind = 7) : CallIn p (M.top (M.th c t).stack).1 (M.node p c t).arg.toNat:=by
  obtain ⟨fn,h1,_,h3⟩:=M.node_is hg h
  have hfit:=M.node_fit hf hg h h1
  have hc : Q.calls p (M.top (M.th c t).stack).1 (M.node p c t).arg.toNat:=⟨fn,h1,_,List.mem_of_getElem? h3,hk,by have:=hfit.arg;omega⟩
  exact ⟨hc,by rw [← hl];exact qJ hf hl hc⟩
theorem zW {a b k : Nat} (hb : b < 4294967296) (h : (a &&& (4294967295 - b)).testBit k = true) : a.testBit k = true ∧ b.testBit k = false:=by
  rw [Nat.testBit_and,Bool.and_eq_true] at h
  refine ⟨h.1,?_⟩
  have e : 4294967295 - b = 2 ^ 32 - (b + 1):=by omega
  rw [e,Nat.testBit_two_pow_sub_succ (by omega)] at h
  have h3:=(Bool.and_eq_true_iff.1 h.2).2
  simpa using h3
def Begun (p : Pg) (fs : List Nat) (c : M.Cf) : Prop :=
  fs.length = c.ths.length ∧ ∀ (t f : Nat) (x : M.Th),fs[t]? = some f → c.ths[t]? = some x → ∀ fr ∈ x.stack,Comes p (fun y => y = f) fr.1
end Go.Proofs.YtlgaefenhfmjfaaDoor
namespace Go.Proofs.YtlgaefenhfmjfaaDoor
open Go.RowKit
namespace Mu
theorem JV (a : Int) {k : Nat} (hk : k < 32) : (S.one a).testBit k = true ↔ a = (k : Int):=by
  unfold S.one
  split
  · rw [Nat.testBit_two_pow,decide_eq_true_eq]
    omega
  · simp
    omega
def hd (ls : List Sc) (x : Nat × Nat) : Nat:=(sec ls x.1).held.z.getD x.2 0
structure Told (p : Pg) (ls : List Sc) : Prop where
  entry : ∀ f,f < p.len → bare p f = true → (sec ls f).en = 0
  first : ∀ f,f < p.len → ∀ k,k < 32 → (hd ls (f,0)).testBit k = true → (sec ls f).en.testBit k = true
  call : ∀ f i n,f < p.len → (fn p f).nodes[i]? = some n → n.kind = 7 → ∀ k,k < 32 → (sec ls n.arg.toNat).en.testBit k = true → (hd ls (f,i)).testBit k = true
  exit : ∀ f i n,f < p.len → (fn p f).nodes[i]? = some n → n.kind = 9 → ∀ k,k < 32 → (sec ls f).ex.testBit k = true → (hd ls (f,i)).testBit k = true
  on : ∀ f i n,f < p.len → (fn p f).nodes[i]? = some n → ∀ to ∈ Q.succ n,∀ k,k < 32 → (hd ls (f,to.toNat)).testBit k = true → (behind (killL p 4 4) ls n (hd ls (f,i))).testBit k = true
theorem told_of {p : Pg} {ls : List Sc} (h : (check p (killL p 4 4) ls).2.2 = 0) : Told p ls:=by
  obtain ⟨_,h0⟩:=check_fine h
  have hf : ∀ f,f < p.len → _:=fun f hf => uS.1 (h0 f hf)
  have hn : ∀ f i n,f < p.len → (fn p f).nodes[i]? = some n → _:=fun f i n hfl hn => by
    have h1:=(hf f hfl).2.2 i (List.getElem?_eq_some_iff.1 hn).1
    unfold at_ at h1
    rw [List.getD_eq_getElem?_getD,hn] at h1
    exact uN.1 h1
  refine ⟨fun f hfl hb => (hf f hfl).1 hb,fun f hfl k hk hbit => (S.within_iff _ _).1 (hf f hfl).2.1 k hk hbit,fun f i n hfl hnd h7 k hk hbit => (S.within_iff _ _).1 ((hn f i n hfl hnd).1 h7) k hk hbit,fun f i n hfl hnd h9 k hk hbit => (S.within_iff _ _).1 ((hn f i n hfl hnd).2.1 h9) k hk hbit,fun f i n hfl hnd to ht k hk hbit => (S.within_iff _ _).1 ((hn f i n hfl hnd).2.2 to ht) k hk hbit⟩
def StackOk (p : Pg) (ls : List Sc) (H : Nat → Prop) (s : List (Nat × Nat)) : Prop :=
  (∀ fr,s[s.length - 1]? = some fr → ∀ k,k < 32 → (hd ls fr).testBit k = true → H k) ∧
  ∀ g fr fr2,s[g]? = some fr → s[g + 1]? = some fr2 → ∀ k,k < 32 → (hd ls fr).testBit k = true →
    (sec ls fr2.1).ex.testBit k = true ∨ (H k ∧ ∀ g' fr',g + 1 ≤ g' → s[g']? = some fr' → ¬ MayDo p 4 4 fr'.1 k)
theorem LC {s : List (Nat × Nat)} {m g : Nat} (hg : g ≠ s.length - 1) : (M.goOn s m)[g]? = s[g]?:=by
  unfold M.goOn
  rw [List.getElem?_set_ne (fun e => hg e.symm)]
theorem LB {s : List (Nat × Nat)} {m : Nat} (hs : 0 < s.length) : (M.goOn s m)[s.length - 1]? = some ((M.top s).1,m):=by
  unfold M.goOn
  rw [List.getElem?_set_self (by omega)]
theorem ok_on {p : Pg} {ls : List Sc} {H H' : Nat → Prop} {s : List (Nat × Nat)} (h : StackOk p ls H s) (hs : 0 < s.length) (m : Nat) (h1 : ∀ k,k < 32 → (hd ls ((M.top s).1,m)).testBit k = true → H' k)
    (h2 : ∀ k,k < 32 → H k → H' k ∨ MayDo p 4 4 (M.top s).1 k) : StackOk p ls H' (M.goOn s m):=by
  refine ⟨fun fr hfr => ?_,fun g fr fr2 hg hg2 k hk hbit => ?_⟩
  · rw [M.goOn_len,LB hs] at hfr
    cases hfr
    exact h1
  · have hlt : g + 1 < s.length:=by have:=(List.getElem?_eq_some_iff.1 hg2).1;rwa [M.goOn_len] at this
    rw [LC (by omega)] at hg
    obtain ⟨fr2',e2,e3⟩:=zZ hg2
    rcases h.2 g fr fr2' hg e2 k hk hbit with h3 | ⟨h3,h4⟩
    · exact .inl (by rw [← e3];exact h3)
    · refine .inr ⟨?_,fun g' fr' hgg hfr' => ?_⟩
      · rcases h2 k hk h3 with h5 | h5
        · exact h5
        · exact absurd h5 (h4 (s.length - 1) _ (by omega) (M.top_at hs))
      · obtain ⟨fr'',e4,e5⟩:=zZ hfr'
        rw [← e5]
        exact h4 g' fr'' hgg e4
theorem ok_push {p : Pg} {ls : List Sc} {H : Nat → Prop} {s : List (Nat × Nat)} (h : StackOk p ls H s) (hs : 0 < s.length) (m a : Nat) (h1 : ∀ k,k < 32 → (hd ls ((M.top s).1,m)).testBit k = true → (sec ls a).ex.testBit k = true ∨ (H k ∧ ¬ MayDo p 4 4 a k))
    (h2 : ∀ k,k < 32 → (hd ls (a,0)).testBit k = true → H k) (h3 : ∀ k,MayDo p 4 4 a k → MayDo p 4 4 (M.top s).1 k) : StackOk p ls H (M.goOn s m ++ [(a,0)]):=by
  have hlen : (M.goOn s m ++ [(a,0)]).length = s.length + 1:=by rw [List.length_append,M.goOn_len];rfl
  have hlast : (M.goOn s m ++ [(a,0)])[s.length]? = some (a,0):=by
    rw [List.getElem?_append_right (by rw [M.goOn_len];exact Nat.le_refl _),M.goOn_len,Nat.sub_self];rfl
  have hlow : ∀ g,g < s.length → (M.goOn s m ++ [(a,0)])[g]? = (M.goOn s m)[g]?:=fun g hg => List.getElem?_append_left (by rw [M.goOn_len];exact hg)
  refine ⟨fun fr hfr => ?_,fun g fr fr2 hg hg2 k hk hbit => ?_⟩
  · rw [hlen,Nat.add_sub_cancel,hlast] at hfr
    cases hfr
    exact h2
  · have hlt : g + 1 < s.length + 1:=by have:=(List.getElem?_eq_some_iff.1 hg2).1;rwa [hlen] at this
    by_cases e : g = s.length - 1
    · subst e
      rw [hlow _ (by omega),LB hs] at hg
      rw [show s.length - 1 + 1 = s.length by omega,hlast] at hg2
      cases hg;cases hg2
      rcases h1 k hk hbit with h4 | ⟨h4,h5⟩
      · exact .inl h4
      · refine .inr ⟨h4,fun g' fr' hgg hfr' => ?_⟩
        have h6:=(List.getElem?_eq_some_iff.1 hfr').1
        rw [hlen] at h6
        have e : g' = s.length:=by omega
        subst e
        rw [hlast] at hfr'
        cases hfr'
        exact h5
    · rw [hlow _ (by omega),LC e] at hg
      rw [hlow _ (by omega)] at hg2
      obtain ⟨fr2',e2,e3⟩:=zZ hg2
      rcases h.2 g fr fr2' hg e2 k hk hbit with h4 | ⟨h4,h5⟩
      · exact .inl (by rw [← e3];exact h4)
      · refine .inr ⟨h4,fun g' fr' hgg hfr' => ?_⟩
        have h6:=(List.getElem?_eq_some_iff.1 hfr').1
        rw [hlen] at h6
        by_cases e7 : g' = s.length
        · subst e7
          rw [hlast] at hfr'
          cases hfr'
          exact fun h8 => h5 (s.length - 1) _ (by omega) (M.top_at hs) (h3 k h8)
        · rw [hlow _ (by omega)] at hfr'
          obtain ⟨fr'',e4,e5⟩:=zZ hfr'
          rw [← e5]
          exact h5 g' fr'' hgg e4
theorem ok_pop {p : Pg} {ls : List Sc} {H : Nat → Prop} {s : List (Nat × Nat)} (h : StackOk p ls H s) (hs : 0 < s.length) (h1 : ∀ k,k < 32 → (sec ls (M.top s).1).ex.testBit k = true → (hd ls (M.top s)).testBit k = true) : StackOk p ls H (s.take (s.length - 1)):=by
  have hlen : (s.take (s.length - 1)).length = s.length - 1:=by rw [List.length_take];omega
  have hat : ∀ {g fr},(s.take (s.length - 1))[g]? = some fr → g < s.length - 1 ∧ s[g]? = some fr:=fun {g fr} hg => by
    rw [List.getElem?_take] at hg
    split at hg
    · exact ⟨‹_›,hg⟩
    · cases hg
  refine ⟨fun fr hfr k hk hbit => ?_,fun g fr fr2 hg hg2 k hk hbit => ?_⟩
  · rw [hlen] at hfr
    obtain ⟨hlt,hfr⟩:=hat hfr
    rcases h.2 (s.length - 1 - 1) fr (M.top s) hfr (by rw [show s.length - 1 - 1 + 1 = s.length - 1 by omega];exact M.top_at hs) k hk hbit with h2 | ⟨h2,_⟩
    · exact h.1 _ (M.top_at hs) k hk (h1 k hk h2)
    · exact h2
  · rcases h.2 g fr fr2 (hat hg).2 (hat hg2).2 k hk hbit with h2 | ⟨h2,h3⟩
    · exact .inl h2
    · exact .inr ⟨h2,fun g' fr' hgg hfr' => h3 g' fr' hgg (hat hfr').2⟩
theorem ok_new {p : Pg} {ls : List Sc} {H : Nat → Prop} {a : Nat} (h : ∀ k,k < 32 → (hd ls (a,0)).testBit k = true → H k) : StackOk p ls H [(a,0)]:=by
  refine ⟨fun fr hfr => ?_,fun g fr fr2 _ hg2 => ?_⟩
  · simp at hfr
    subst hfr
    exact h
  · have:=(List.getElem?_eq_some_iff.1 hg2).1
    simp at this
def AllOk (p : Pg) (ls : List Sc) (c : M.Cf) : Prop:=∀ t x,c.ths[t]? = some x → StackOk p ls (fun k => (M.heldTo c.owners t 16).testBit k = true) x.stack
theorem QZ {n k : Nat} (h : n = 0) : n.testBit k = true → False:=by subst h;simp
theorem all_start {p : Pg} {ls : List Sc} (ht : Told p ls) (h0 : 0 < p.len) : AllOk p ls M.start:=by
  intro t x hx
  have e:=List.mem_singleton.1 (List.mem_of_getElem? hx)
  subst e
  refine ok_new fun k hk hbit => ?_
  have h1:=ht.first 0 h0 k hk hbit
  exact (QZ (ht.entry 0 h0 (bare_iff.2 (.inl rfl))) h1).elim
theorem yT {c : M.Cf} {t k : Nat} {n : Nd} {way : Bool} (h : (M.heldTo c.owners t 16).testBit k = true) : (M.heldTo (M.act c t n way).owners t 16).testBit k = true ∨ (n.kind = 4 ∧ k = n.arg.toNat):=by
  by_cases k4 : n.kind = 4
  · cases hd : (M.heldTo (M.act c t n way).owners t 16).testBit k with
    | true => exact .inl rfl
    | false => exact .inr ⟨k4,act_less k4 h hd⟩
  · left
    rw [M.held_bit,decide_eq_true_eq] at h ⊢
    refine ⟨h.1,?_⟩
    unfold M.act
    by_cases k9 : n.kind = 9
    · rw [if_pos k9];exact h.2
    rw [if_neg k9]
    by_cases k3 : n.kind = 3
    · rw [if_pos k3]
      show (c.owners.set n.arg.toNat (t + 1)).getD k 0 = t + 1
      by_cases e : n.arg.toNat = k
      · subst e
        by_cases hl : n.arg.toNat < c.owners.length
        · rw [List.getD_eq_getElem?_getD,List.getElem?_set_self hl];rfl
        · have h2:=h.2
          rw [List.getD_eq_getElem?_getD,List.getElem?_eq_none (by omega)] at h2
          exact absurd h2 (by show (0 : Nat) ≠ t + 1;omega)
      · rw [List.getD_eq_getElem?_getD,List.getElem?_set_ne e,← List.getD_eq_getElem?_getD];exact h.2
    rw [if_neg k3,if_neg k4]
    by_cases k5 : n.kind = 5
    · rw [if_pos k5];exact h.2
    rw [if_neg k5]
    by_cases k7 : n.kind = 7
    · rw [if_pos k7];exact h.2
    rw [if_neg k7]
    split
    · exact h.2
    · exact h.2
theorem act_gets {c : M.Cf} {t : Nat} {n : Nd} {way : Bool} (k3 : n.kind = 3) (hl : n.arg.toNat < 16) (ho : c.owners.length = 16) : (M.heldTo (M.act c t n way).owners t 16).testBit n.arg.toNat = true:=by
  rw [M.held_bit,decide_eq_true_eq]
  refine ⟨hl,?_⟩
  unfold M.act
  rw [if_neg (by omega),if_pos k3]
  show (c.owners.set n.arg.toNat (t + 1)).getD n.arg.toNat 0 = t + 1
  rw [List.getD_eq_getElem?_getD,List.getElem?_set_self (by omega)];rfl
theorem act_to {c : M.Cf} {t : Nat} {n : Nd} {way : Bool} (ht : t < c.ths.length) : ∃ x,(M.act c t n way).ths[t]? = some x ∧
    ((n.kind = 9 ∧ x.stack = (M.th c t).stack.take ((M.th c t).stack.length - 1)) ∨ (n.kind = 7 ∧ x.stack = M.goOn (M.th c t).stack n.next.toNat ++ [(n.arg.toNat,0)]) ∨ (n.kind ≠ 9 ∧ n.kind ≠ 7 ∧ ∃ to ∈ Q.succ n,x.stack = M.goOn (M.th c t).stack to.toNat)):=by
  have key : ∀ x : M.Th,(c.ths.set t x)[t]? = some x:=fun x => List.getElem?_set_self ht
  have hsn : n.kind ≠ 9 → n.next ∈ Q.succ n:=fun h9 => by
    unfold Q.succ
    rw [if_neg h9]
    split <;> simp
  unfold M.act
  by_cases k9 : n.kind = 9
  · rw [if_pos k9];exact ⟨_,key _,.inl ⟨k9,rfl⟩⟩
  rw [if_neg k9]
  have hnx:=hsn k9
  by_cases k3 : n.kind = 3
  · rw [if_pos k3];exact ⟨_,key _,.inr (.inr ⟨k9,by omega,_,hnx,rfl⟩)⟩
  rw [if_neg k3]
  by_cases k4 : n.kind = 4
  · rw [if_pos k4];exact ⟨_,key _,.inr (.inr ⟨k9,by omega,_,hnx,rfl⟩)⟩
  rw [if_neg k4]
  by_cases k5 : n.kind = 5
  · rw [if_pos k5]
    refine ⟨⟨M.goOn (M.th c t).stack n.next.toNat,(M.th c t).slots.set n.alt.toNat (c.ths.length + 1)⟩,?_,.inr (.inr ⟨k9,by omega,_,hnx,rfl⟩)⟩
    show (c.ths.set t _ ++ _)[t]? = _
    rw [List.getElem?_append_left (by rw [List.length_set];exact ht)]
    exact key _
  rw [if_neg k5]
  by_cases k7 : n.kind = 7
  · rw [if_pos k7];exact ⟨_,key _,.inr (.inl ⟨k7,rfl⟩)⟩
  rw [if_neg k7]
  by_cases k8 : n.kind = 8 ∧ way = true
  · rw [if_pos k8]
    refine ⟨_,key _,.inr (.inr ⟨k9,k7,n.alt,?_,rfl⟩)⟩
    unfold Q.succ
    rw [if_neg k9,if_pos k8.1]
    simp
  · rw [if_neg k8];exact ⟨_,key _,.inr (.inr ⟨k9,k7,_,hnx,rfl⟩)⟩
theorem all_act {p : Pg} {ls : List Sc} {c : M.Cf} (hf : Fine p) (hl : p.fns.length = p.len) (ht : Told p ls) (hg : M.Good p c) (hk : AllOk p ls c) {t : Nat} (way : Bool) (he : M.enabledN p c t = true) : AllOk p ls (M.act c t (M.node p c t) way):=by
  have hlv:=M.enabled_lives he
  have htl:=M.lives_lt hlv
  have hs0 : 0 < (M.th c t).stack.length:=by unfold M.livesN at hlv;simpa using hlv
  obtain ⟨fx,hfn,_,hnd⟩:=M.node_is hg hlv
  have hfit:=M.node_fit hf hg hlv hfn
  have hfl : (M.top (M.th c t).stack).1 < p.len:=by rw [← hl];exact (List.getElem?_eq_some_iff.1 hfn).1
  have hnd2 : (fn p (M.top (M.th c t).stack).1).nodes[(M.top (M.th c t).stack).2]? = some (M.node p c t):=by
    have e : fn p (M.top (M.th c t).stack).1 = fx:=by unfold fn;rw [List.getD_eq_getElem?_getD,hfn];rfl
    rw [e];exact hnd
  intro u y hy
  by_cases hul : u < c.ths.length
  rotate_left
  · obtain ⟨k5,rfl,hst⟩:=act_new hy (by omega)
    rw [hst]
    have hal : (M.node p c t).arg.toNat < p.len:=by have:=(hfit.spawn k5).1;have:=hfit.arg;omega
    refine ok_new fun k hk hbit => ?_
    have h1:=ht.first _ hal k hk hbit
    have h2 : bare p (M.node p c t).arg.toNat = true:=bare_iff.2 (.inr ⟨fx,List.mem_of_getElem? hfn,M.node p c t,List.mem_of_getElem? hnd,k5,by have:=hfit.arg;omega⟩)
    exact (QZ (ht.entry _ hal h2) h1).elim
  by_cases hut : u = t
  rotate_left
  · rw [M.act_th hul hut] at hy
    have hen : M.enabled p c (t : Int) = true:=by unfold M.enabled;rw [Int.toNat_natCast,he];simp
    have hstep : M.step p c (t : Int) way = M.act c t (M.node p c t) way:=by unfold M.step;rw [hen,Int.toNat_natCast];rfl
    have hheld:=M.step_held (p:=p) (c:=c) (t:=(t : Int)) (way:=way) (u:=u) (by omega)
    rw [hstep] at hheld
    rw [hheld]
    exact hk u y hy
  subst hut
  have hold:=hk u _ (M.th_at htl)
  have htop : ∀ k,k < 32 → (hd ls (M.top (M.th c u).stack)).testBit k = true → (M.heldTo c.owners u 16).testBit k = true:=hold.1 _ (M.top_at hs0)
  obtain ⟨x,hx,hcase⟩:=act_to (n:=M.node p c u) (way:=way) htl
  rw [hx] at hy;obtain rfl : x = y:=Option.some.inj hy
  rcases hcase with ⟨k9,hst⟩ | ⟨k7,hst⟩ | ⟨k9,k7,to,hto,hst⟩
  · rw [hst]
    have how : (M.act c u (M.node p c u) way).owners = c.owners:=by unfold M.act;rw [if_pos k9]
    rw [how]
    exact ok_pop hold hs0 fun k hk hbit => ht.exit _ _ _ hfl hnd2 k9 k hk hbit
  · rw [hst]
    have how : (M.act c u (M.node p c u) way).owners = c.owners:=by
      unfold M.act
      rw [if_neg (by omega),if_neg (by omega),if_neg (by omega),if_neg (by omega),if_pos k7]
    rw [how]
    have hci:=at_calls hf hl hg hlv k7
    have hnx : (M.node p c u).next ∈ Q.succ (M.node p c u):=by
      unfold Q.succ
      rw [if_neg (by omega),if_neg (by omega)]
      simp
    refine ok_push hold hs0 _ _ (fun k hk hbit => ?_) (fun k hk hbit => ?_) fun k hm => QF hfl hci hm
    · have h1:=ht.on _ _ _ hfl hnd2 _ hnx k hk hbit
      unfold behind at h1
      rw [if_neg (by omega),if_neg (by omega),if_pos k7,Nat.testBit_or,Bool.or_eq_true] at h1
      rcases h1 with h1 | h1
      · right
        have hu2 : (killL p 4 4)[(M.node p c u).arg.toNat]? = some ((killL p 4 4).getD (M.node p c u).arg.toNat 0):=by
          rw [List.getD_eq_getElem?_getD,List.getElem?_eq_getElem (by rw [xV];exact hci.2)];rfl
        have hB:=vX hu2
        obtain ⟨b1,b2⟩:=zW hB.1 h1
        refine ⟨htop k hk b1,fun hm => ?_⟩
        have:=(hB.2 k hk).2 hm
        rw [b2] at this
        cases this
      · exact .inl h1
    · exact htop k hk (ht.call _ _ _ hfl hnd2 k7 k hk (ht.first _ hci.2 k hk hbit))
  · rw [hst]
    refine ok_on hold hs0 _ (fun k hk hbit => ?_) fun k hk h1 => ?_
    · have h1:=ht.on _ _ _ hfl hnd2 to hto k hk hbit
      unfold behind at h1
      by_cases k3 : (M.node p c u).kind = 3
      · rw [if_pos k3,Nat.testBit_or,Bool.or_eq_true] at h1
        rcases h1 with h1 | h1
        · rcases yT (n:=M.node p c u) (way:=way) (htop k hk h1) with h2 | ⟨h2,_⟩
          · exact h2
          · omega
        · have h2:=(JV (M.node p c u).arg hk).1 h1
          have h3 : k = (M.node p c u).arg.toNat:=by omega
          rw [h3]
          exact act_gets k3 (by have:=hfit.lock (.inl k3);have:=hfit.arg;omega) hg.owns
      rw [if_neg k3] at h1
      by_cases k4 : (M.node p c u).kind = 4
      · rw [if_pos k4] at h1
        obtain ⟨b1,b2⟩:=zW (S.one_lt _) h1
        rcases yT (n:=M.node p c u) (way:=way) (htop k hk b1) with h2 | ⟨_,h2⟩
        · exact h2
        · have h3:=(JV (M.node p c u).arg hk).2 (by have:=hfit.arg;omega)
          rw [b2] at h3
          cases h3
      rw [if_neg k4,if_neg k7] at h1
      rcases yT (n:=M.node p c u) (way:=way) (htop k hk h1) with h2 | ⟨h2,_⟩
      · exact h2
      · exact absurd h2 k4
    · rcases yT (n:=M.node p c u) (way:=way) h1 with h2 | ⟨k4,h2⟩
      · exact .inl h2
      · right
        exact at_does hl hg hlv (.inl k4) (by have:=hfit.arg;omega)
theorem all_step {p : Pg} {ls : List Sc} {c : M.Cf} (hf : Fine p) (hl : p.fns.length = p.len) (ht : Told p ls) (hg : M.Good p c) (hk : AllOk p ls c) (t : Int) (way : Bool) : AllOk p ls (M.step p c t way):=by
  cases he : M.enabled p c t with
  | false => rw [M.step_same he];exact hk
  | true =>
    obtain ⟨_,h1⟩:=M.enabled_split he
    unfold M.step
    rw [he]
    exact all_act hf hl ht hg hk way h1
theorem all_asks {p : Pg} {ls : List Sc} {c : M.Cf} (hk : AllOk p ls c) {t : Nat} {x : M.Th} (hx : c.ths[t]? = some x) (hs : 0 < x.stack.length) (hb : hd ls (M.top x.stack) < 4294967296) : hd ls (M.top x.stack) &&& (4294967295 - M.heldTo c.owners t 16) = 0:=by
  have h1:=(hk t x hx).1 _ (M.top_at hs)
  have h2 : S.within (hd ls (M.top x.stack)) (M.heldTo c.owners t 16) 32 = true:=(S.within_iff _ _).2 h1
  have h3:=S.within_not _ (M.heldTo c.owners t 16) hb (Nat.lt_of_lt_of_le (M.held_lt c.owners t 16) (by decide))
  rw [h2] at h3
  exact of_decide_eq_true h3.symm
end Mu
end Go.Proofs.YtlgaefenhfmjfaaDoor
namespace Go.Proofs.YtlgaefenhfmjfaaDoor
open Go.RowKit
theorem jG {P : Program} {ops : Array Oper} {rest : List Oper} {o : Oper} {a : Act} {w : World} {Q : Exit → Act → World → Prop} (hgd : o.guard = none) (ty : TypeId) (x y : Operand) (ho : o.op = .store ty x y)
    (g k : Nat) (v : Value) (hx : a.eval x = .pointer (some ⟨g,k,none⟩)) (hy : a.eval y = v) (h1 : v.oneCell' = true) (hc : v.cells = #[v])
    (t : TypeId) (cs : List Value) (hg : Blk w g t cs) (hk : k < cs.length) (hi : (P.info? ty).map (·.size) = some 1)
    (h : ∀ w',Blk w' g t (cs.set k v) → w.grownBy w' (some g) → w'.heap.size = w.heap.size → wpList P ops Q rest (a.put o.dst undef) w') : wpList P ops Q (o :: rest) a w:=by
  refine wpList_plain hgd fun K hK => ?_
  have hrun : (storeVar ty ⟨g,k,none⟩ v).run P w = .ok () (w.setCells g k [v]):=by
    have hst:=run_storeCells_cells (P:=P) g k [v] 0 w (fun j hj => by
      have : j = 0:=by simp at hj;exact hj
      subst this
      show (w.cell? ⟨g,k,none⟩).isSome = true
      rw [hg.cell,List.getElem?_eq_getElem hk];rfl) (fun j hj => by
      have : j = 0:=by simp at hj;exact hj
      subst this
      exact hg.frozen _) (fun u hu => by rw [List.mem_singleton] at hu;subst hu;exact h1)
    cases hq : P.info? ty with
    | none => simp [hq] at hi
    | some i =>
      have hs : i.size = 1:=by simpa [hq] using hi
      simp only [Nat.add_zero] at hst
      simp [storeVar,sizeOf,typeInfo,hq,hc,hs,hst]
  have hw : w.setCells g k [v] = w.setCell ⟨g,k,none⟩ v:=rfl
  rw [hw] at hrun
  unfold Oper.wp execOp
  simp only [ho,hx,hy,Instr.storeAt,Instr.sureAddr,Sem.run_bind,Sem.run_pure,Result.andThen_ok,hrun]
  exact hK _ _ (h _ (hg.set k v) (jV (jR _ _)) (by simp))
def frV (f : Nat × Nat) : Nat → Value
  | 0 => .int .i64 (f.1 : Int)
  | _ => .int .i64 (f.2 : Int)
structure Sv where
  A : Option Addr
  len : Nat
  cap : Nat
  stack : List (Nat × Nat)
instance : Inhabited Sv:=⟨⟨none,0,0,[]⟩⟩
def svV (x : Sv) : Value:=.slice x.A x.len x.cap
structure Sv.Ok (x : Sv) (w : World) (B : Nat) : Prop where
  row : Recs 2 frV w B x.A x.len x.stack
  lc : x.len ≤ x.cap
  cm : x.cap ≤ maxLen
structure Tv where
  sv : Sv
  slots : List Nat
instance : Inhabited Tv:=⟨⟨default,[]⟩⟩
def tvV (x : Tv) : Nat → Value
  | 0 => .slice x.sv.A x.sv.len x.sv.cap
  | j + 1 => .int .i64 (x.slots.getD j 0 : Int)
def tvT (x : Tv) : M.Th:=⟨x.sv.stack,x.slots⟩
structure Pc where
  A : Option Addr
  len : Nat
  cap : Nat
  tvs : List Tv
  ow : List Nat
def pcC (q : Pc) : List Value:=.slice q.A q.len q.cap :: q.ow.map natV
def pcA (q : Pc) : Value:=.agg (pcC q).toArray
def Pc.cf (q : Pc) : M.Cf:=⟨q.tvs.map tvT,q.ow⟩
structure Pc.Ok (q : Pc) (w : World) (B : Nat) : Prop where
  row : Recs 9 tvV w B q.A q.len q.tvs
  lc : q.len ≤ q.cap
  cm : q.cap ≤ maxLen
  svs : ∀ x ∈ q.tvs,x.sv.Ok w B
theorem Sv.Ok.keep {x : Sv} {w w' : World} {B : Nat} (h : x.Ok w B) (hk : ∀ p : Addr,p.block < B → w'.cell? p = w.cell? p) : x.Ok w' B:=⟨h.row.keep hk,h.lc,h.cm⟩
theorem Sv.Ok.more {x : Sv} {w : World} {B B' : Nat} (h : x.Ok w B) (hB : B ≤ B') : x.Ok w B':=⟨h.row.more hB,h.lc,h.cm⟩
theorem Pc.Ok.keep {q : Pc} {w w' : World} {B : Nat} (h : q.Ok w B) (hk : ∀ p : Addr,p.block < B → w'.cell? p = w.cell? p) : q.Ok w' B:=⟨h.row.keep hk,h.lc,h.cm,fun x hx => (h.svs x hx).keep hk⟩
theorem Pc.Ok.below {q : Pc} {w w' : World} {B : Nat} (h : q.Ok w B) (hb : Below B w w') : q.Ok w' B:=h.keep fun _ hp => hb.cell hp
theorem Pc.Ok.more {q : Pc} {w : World} {B B' : Nat} (h : q.Ok w B) (hB : B ≤ B') : q.Ok w B':=⟨h.row.more hB,h.lc,h.cm,fun x hx => (h.svs x hx).more hB⟩
theorem Pc.ths_len (q : Pc) : q.cf.ths.length = q.tvs.length:=by simp [Pc.cf]
theorem Pc.Ok.len {q : Pc} {w : World} {B : Nat} (h : q.Ok w B) : q.cf.ths.length = q.len:=by rw [q.ths_len];exact h.row.len
theorem Pc.th_of {q : Pc} {k : Nat} {x : Tv} (h : q.tvs[k]? = some x) : M.th q.cf k = tvT x:=M.th_is (by show (q.tvs.map tvT)[k]? = _;rw [List.getElem?_map,h];rfl)
theorem Pc.Ok.thread {q : Pc} {w : World} {B : Nat} (h : q.Ok w B) {k : Nat} (hk : k < q.len) :
    ∃ ad x,q.A = some ad ∧ ad.block < B ∧ q.tvs[k]? = some x ∧ x.sv.Ok w B ∧ M.th q.cf k = tvT x ∧ x.sv.stack.length = x.sv.len ∧ w.cell? (ad.add (k * 9)) = some (.slice x.sv.A x.sv.len x.sv.cap) ∧
      ∀ j,w.cell? ⟨(ad.add (k * 9)).block,(ad.add (k * 9)).off + (j + 1),none⟩ = some (.int .i64 (x.slots.getD j 0 : Int)) ∨ 8 ≤ j:=by
  obtain ⟨ad,x,e,hb,hx,h0,hc⟩:=h.row.field hk
  refine ⟨ad,x,e,hb,hx,h.svs x (List.mem_of_getElem? hx),Pc.th_of hx,(h.svs x (List.mem_of_getElem? hx)).row.len,h0 (by omega),fun j => ?_⟩
  rcases Nat.lt_or_ge j 8 with hj | hj
  · exact .inl (hc (j + 1) (by omega) (by omega))
  · exact .inr hj
theorem Sv.Ok.last {x : Sv} {w : World} {B : Nat} (h : x.Ok w B) (h0 : 0 < x.len) :
    ∃ ad,x.A = some ad ∧ ad.block < B ∧ w.cell? (ad.add ((x.len - 1) * 2)) = some (.int .i64 ((M.top x.stack).1 : Int)) ∧ w.cell? ⟨(ad.add ((x.len - 1) * 2)).block,(ad.add ((x.len - 1) * 2)).off + 1,none⟩ = some (.int .i64 ((M.top x.stack).2 : Int)):=by
  obtain ⟨ad,f,e,hb,hx,hc0,hc⟩:=h.row.field (k:=x.len - 1) (by omega)
  have ef : M.top x.stack = f:=by
    unfold M.top
    rw [h.row.len,List.getD_eq_getElem?_getD,hx];rfl
  rw [ef]
  exact ⟨ad,e,hb,hc0 (by omega),hc 1 (by omega) (by omega)⟩
theorem XY {c : M.Cf} {t : Int} (h : t < 0 ∨ (c.ths.length : Int) ≤ t) : M.lives c t = false:=by
  unfold M.lives
  by_cases h0 : 0 ≤ t
  · rw [decide_eq_true h0,Bool.true_and]
    cases hl : M.livesN c t.toNat with
    | false => rfl
    | true => have:=M.lives_lt hl;omega
  · rw [decide_eq_false h0];rfl
theorem lives_in {c : M.Cf} {t : Nat} {x : M.Th} (h : M.th c t = x) : M.lives c (t : Int) = decide (0 < x.stack.length):=by
  rw [M.lives_nat];unfold M.livesN;rw [h]
set_option maxRecDepth 100000 in
set_option maxHeartbeats 800000 in
theorem qB (n c : Int) (_hn : I64 n) (_hc : I64 c) (b : Bool) (hb : decide (0 ≤ n ∧ n < c) = b) (w : World) :
    Calls Tryd.prog 29 #[.int .i64 n,.int .i64 c] w fun e w' => e = .returned (.bool b) ∧ w = w':=by
  subst hb
  by_cases h1 : 0 ≤ n
  · by_cases h2 : n < c
    · rw [decide_eq_true (show 0 ≤ n ∧ n < c from ⟨h1,h2⟩)]
      go_enter Tryd.func29,Tryd.ntmps29
      go_wp2
      go_ret
      exact ⟨rfl,rfl⟩
    · rw [decide_eq_false (show ¬ (0 ≤ n ∧ n < c) from fun h => h2 h.2)]
      go_enter Tryd.func29,Tryd.ntmps29
      go_wp2
      go_ret
      exact ⟨rfl,rfl⟩
  · rw [decide_eq_false (show ¬ (0 ≤ n ∧ n < c) from fun h => h1 h.1)]
    go_enter Tryd.func29,Tryd.ntmps29
    go_wp2
    go_ret
    exact ⟨rfl,rfl⟩
set_option maxRecDepth 100000 in
set_option maxHeartbeats 800000 in
theorem xI (n : Nat) (hn : n ≤ 1000) (w : World) :
    Calls Tryd.prog 30 #[.int .i64 (n : Int)] w fun e w' => e = .returned (.int .i64 ((n + 1 : Nat) : Int)) ∧ w = w':=by
  go_enter Tryd.func30,Tryd.ntmps30
  go_wp2
  go_ret
  exact ⟨l2 (by omega),rfl⟩
set_option maxRecDepth 100000 in
set_option maxHeartbeats 800000 in
theorem LW (n : Nat) (hn : n ≤ 1000) (w : World) :
    Calls Tryd.prog 54 #[.int .i64 (n : Int)] w fun e w' => e = .returned (.int .i64 ((n : Int) - 1)) ∧ w = w':=by
  go_enter Tryd.func54,Tryd.ntmps54
  go_wp2
  go_ret
  exact ⟨l2 (by omega),rfl⟩
set_option maxRecDepth 100000 in
set_option maxHeartbeats 800000 in
theorem vF (a ad : Addr) (n c : Nat) (w : World) (h0 : 0 < n) (hn : n ≤ 1000) (hc : w.cell? a = some (.slice (some ad) n c)) :
    Calls Tryd.prog 56 #[.pointer (some a)] w fun e w' => e = .returned (.pointer (some (ad.add ((n - 1) * 2)))) ∧ ∃ m,w' = w.drewN m:=by
  obtain ⟨k,rfl⟩ : ∃ k,n = k + 1:=⟨n - 1,by omega⟩
  rw [Nat.add_sub_cancel]
  go_enter Tryd.func56,Tryd.ntmps56
  go_wp2
  go_quiet (fail)
  go_wp2
  go_ret
  exact ⟨rfl,_,rfl⟩
set_option maxRecDepth 100000 in
set_option maxHeartbeats 800000 in
theorem yU (B : Nat) (q : Pc) (w : World) (hq : q.Ok w B) (hB : B ≤ w.heap.size) (hl : q.len ≤ 1000) (t : Int) (ht : I64 t) (b : Bool) (hb : M.lives q.cf t = b) :
    Calls Tryd.prog 53 #[pcA q,.int .i64 t] w fun e w' => e = .returned (.bool b) ∧ Below w.heap.size w w':=by
  have hlen:=hq.len
  have HT:=kp ht
  have HLc : Kept (I64 (q.len : Int)):=kp (by unfold I64;omega)
  have hcap:=hq.lc
  have hcm:=hq.cm
  unfold maxLen at hcm
  by_cases hin : 0 ≤ t ∧ t < (q.len : Int)
  · obtain ⟨k,rfl⟩ : ∃ k : Nat,t = (k : Int):=⟨t.toNat,by omega⟩
    have hk : k < q.len:=by omega
    have HIn:=kp (decide_eq_true hin)
    obtain ⟨ad,x,hA,hbl,hx,hok,hth,hsl,hc0,_⟩:=hq.thread hk
    rw [lives_in hth] at hb
    have hb2 : decide (0 < x.sv.len) = b:=by rw [← hb,← hsl];rfl
    have hxm:=hok.cm;have hxc:=hok.lc
    unfold maxLen at hxm
    have HC0:=kp hc0
    obtain ⟨n,hn⟩ : ∃ n,x.sv.len = n:=⟨_,rfl⟩
    rw [hn] at hb2 hxc HC0
    have HE : Kept (pcC q = .slice (some ad) q.len q.cap :: q.ow.map natV):=kp (by unfold pcC;rw [hA])
    have hbz : ad.block < w.heap.size:=by omega
    clear hq hb hx hok hth hsl hc0 hA hin hn hbl hlen ht
    unfold pcA
    rw [HE.out]
    cases b
    all_goals
      go_enter Tryd.func53,Tryd.ntmps53
      go_wp2_with (first
        | ((with_reducible refine j4 rfl 42 (.tmp 0) rfl (.slice (some ad) q.len q.cap :: q.ow.map natV) rfl ?_);intro g1 w1 hg1 hk1 hw1;have HW1:=kp hw1;have hf0:=hk1.cell 0;have hf1:=(hw1.cell (p:=ad.add (k * 9)) (by rw [add_block];exact hbz)).trans HC0.out;simp only [List.getElem?_cons_zero] at hf0;clear hk1 hw1)
        | (go_at_call 29;go_must (refine (qB _ _ HT.out HLc.out true HIn.out _).mono ?_);rintro e w2 ⟨rfl,rfl⟩))
      go_ret
      exact ⟨rfl,HW1.out⟩
  · have hb0 : M.lives q.cf t = false:=XY (by omega)
    rw [hb0] at hb
    subst hb
    have HIn:=kp (decide_eq_false hin)
    clear hq hlen ht hin hb0
    go_enter Tryd.func53,Tryd.ntmps53
    go_wp2_with (first
      | ((with_reducible refine j4 rfl 42 (.tmp 0) rfl (pcC q) rfl ?_);intro g1 w1 hg1 hk1 hw1;have HW1:=kp hw1;have hf0:=hk1.cell 0;simp only [pcC,List.getElem?_cons_zero] at hf0;clear hk1 hw1)
      | (go_at_call 29;go_must (refine (qB _ _ HT.out HLc.out false HIn.out _).mono ?_);rintro e w2 ⟨rfl,rfl⟩))
    go_ret
    exact ⟨rfl,HW1.out⟩
theorem JT : (Tryd.prog.info? 40).map (·.size) = some 16:=by kernel_rfl
theorem jF : (Tryd.prog.info? 42).map (·.size) = some 17:=by kernel_rfl
theorem vR {o : List Nat} (h16 : o.length = 16) {k : Nat} (hk : k < 16) : (o.map natV)[k]? = some (.int .i64 (o.getD k 0 : Int)):=by
  rw [List.getElem?_map,List.getElem?_eq_getElem (by omega),List.getD_eq_getElem?_getD,List.getElem?_eq_getElem (by omega)];rfl
set_option maxRecDepth 100000 in
set_option maxHeartbeats 1600000 in
theorem sem_held (q : Pc) (w : World) (hl : q.tvs.length = q.len) (h8 : q.len ≤ 8) (h16 : q.ow.length = 16) (how : ∀ o ∈ q.ow,o ≤ 8) (t : Int) (ht : I64 t) (m : Nat) (hm : M.held q.cf t = m) :
    Calls Tryd.prog 16 #[pcA q,.int .i64 t] w fun e w' => e = .returned (.int .u32 (m : Int)) ∧ Below w.heap.size w w':=by
  have HT:=kp ht
  have HLc : Kept (I64 (q.len : Int)):=kp (by unfold I64;omega)
  have hm2 : (if 0 ≤ t ∧ t < (q.len : Int) then M.heldTo q.ow t.toNat 16 else 0) = m:=by rw [← hm];unfold M.held;rw [q.ths_len,hl];rfl
  by_cases hin : 0 ≤ t ∧ t < (q.len : Int)
  · rw [if_pos hin] at hm2
    obtain ⟨k,rfl⟩ : ∃ k : Nat,t = (k : Int):=⟨t.toNat,by omega⟩
    rw [Int.toNat_natCast] at hm2
    have hk : k < 8:=by omega
    have HIn:=kp (decide_eq_true hin)
    have HM:=kp hm2;have H16:=kp h16;have HOw:=kp how
    obtain ⟨ow,how2⟩ : ∃ ow,q.ow = ow:=⟨_,rfl⟩
    have hE : pcC q = .slice q.A q.len q.cap :: ow.map natV:=by unfold pcC;rw [how2]
    rw [how2] at HM H16 HOw
    unfold pcA
    rw [hE]
    have hcl : (Value.slice q.A q.len q.cap :: ow.map natV).length = 17:=by simp [H16.out]
    have hol : (ow.map natV).length = 16:=by simp [H16.out]
    have HCl:=kp hcl;have HOl:=kp hol
    have HS : Kept (∀ i : Nat,i < 16 → I64 (i : Int)):=kp fun i hi => by unfold I64;omega
    clear hm hm2 h16 how how2 hE hl hin ht hcl hol
    go_enter Tryd.func16,Tryd.ntmps16
    go_wp2_with (first
      | ((with_reducible refine j4 rfl 42 (.tmp 0) rfl (.slice q.A q.len q.cap :: ow.map natV) rfl ?_);intro g1 w1 hg1 hk1 hw1;have HW1:=kp hw1;have hf0:=hk1.cell 0;simp only [List.getElem?_cons_zero] at hf0
         have HR1 : Kept (w1.rangeAt g1 1 (ow.map natV)):=kp (by have h:=hk1.range 1 16;rw [List.drop_succ_cons,List.drop_zero,List.take_of_length_le (Nat.le_of_eq HOl.out)] at h;exact h)
         clear hk1 hw1)
      | ((with_reducible show Sl 16);go_must (refine wpList_load_mid rfl 40 (.tmp 15) rfl g1 1 rfl (ow.map natV) _ HR1.out Tryd.underlying40 rfl (by rw [HOl.out];exact JT) ?_))
      | (go_at_call 29;go_must (refine (qB _ _ HT.out HLc.out true HIn.out _).mono ?_);rintro e w2 ⟨rfl,rfl⟩))
    clear hf0
    go_loop [5,17] (fun v5 v17 => ∃ i : Nat,i ≤ 16 ∧ v17 = .int .i64 i ∧ v5 = .int .u32 (M.heldTo ow k i : Int)) (fun _ v17 => 16 - (intOf v17).toNat)
    case atStart => exact ⟨0,by omega,rfl,rfl⟩
    case round =>
      obtain ⟨i,hi,rfl,rfl⟩:=hrel
      by_cases hlt : i < 16
      · have hoc:=vR H16.out hlt
        have HOc:=kp hoc
        have ho8 : ow.getD i 0 ≤ 8:=by rw [List.getD_eq_getElem?_getD,List.getElem?_eq_getElem (by rw [H16.out];exact hlt)];exact HOw.out _ (List.getElem_mem _)
        have HN : Kept (M.heldTo ow k (i + 1) = if ow.getD i 0 = k + 1 then M.heldTo ow k i ||| 2 ^ i else M.heldTo ow k i):=kp rfl
        have hlim:=M.held_lt ow k i
        have hp2 : 2 ^ i ≤ 2 ^ 15:=Nat.pow_le_pow_right (by decide) (by omega)
        obtain ⟨o,ho⟩ : ∃ o,ow.getD i 0 = o:=⟨_,rfl⟩
        obtain ⟨mm,hmm⟩ : ∃ mm,M.heldTo ow k i = mm:=⟨_,rfl⟩
        rw [ho] at HOc ho8 HN
        rw [hmm] at HN hlim ⊢
        have HOne : Kept (S.one (i : Int) = 2 ^ i):=kp (S.one_nat i (by omega))
        obtain ⟨pw,hpw⟩ : ∃ pw,2 ^ i = pw:=⟨_,rfl⟩
        rw [hpw] at HN HOne hp2
        have hmlt : mm < 65536:=by
          have : 2 ^ i ≤ 2 ^ 15:=Nat.pow_le_pow_right (by decide) (by omega)
          omega
        have HBits : Kept (bits .or .u32 (mm : Int) (pw : Int) = ((mm ||| pw : Nat) : Int)):=kp (u32_or_nat mm pw (by omega) (by omega))
        have HMk:=kp (by omega : k ≤ 1000)
        have HI:=kp (HS.out i hlt)
        clear hoc ho hmm hlim hp2 hpw
        by_cases hok : o = k + 1
        · rw [if_pos hok] at HN
          have hoe : ((o : Int) == ((k + 1 : Nat) : Int)) = true:=by rw [beq_iff_eq];omega
          clear hok
          go_wp2_with (first
            | ((with_reducible show Sl 20);go_must (refine lX rfl 40 (.tmp 16) (.tmp 17) rfl 16 3 Tryd.underlying40 _ Tryd.underlying3 rfl qK (ow.map natV) rfl i rfl hlt _ HOc.out ?_))
            | (go_at_call 30;go_must (refine (xI k HMk.out _).mono ?_);rintro e w2 ⟨rfl,rfl⟩)
            | (go_at_call 20;go_must (refine (qA (i : Int) HI.out pw HOne.out _).mono ?_);rintro e w2 ⟨rfl,rfl⟩))
          go_round
          case rel => exact ⟨i + 1,by omega,by go_num,by rw [HN.out,HBits.out]⟩
          case measure => simp [intOf];omega
        · rw [if_neg hok] at HN
          have hoe : ((o : Int) == ((k + 1 : Nat) : Int)) = false:=by rw [beq_eq_false_iff_ne];omega
          clear hok
          go_wp2_with (first
            | ((with_reducible show Sl 20);go_must (refine lX rfl 40 (.tmp 16) (.tmp 17) rfl 16 3 Tryd.underlying40 _ Tryd.underlying3 rfl qK (ow.map natV) rfl i rfl hlt _ HOc.out ?_))
            | (go_at_call 30;go_must (refine (xI k HMk.out _).mono ?_);rintro e w2 ⟨rfl,rfl⟩))
          go_round
          case rel => exact ⟨i + 1,by omega,by go_num,by rw [HN.out]⟩
          case measure => simp [intOf];omega
      · have he : i = 16:=by omega
        subst he
        have HM2:=kp HM.out
        go_wp2
        go_ret
        exact ⟨l2 (by rw [HM2.out]),HW1.out⟩
  · rw [if_neg hin] at hm2
    subst hm2
    have HIn:=kp (decide_eq_false hin)
    clear hm hl how ht hin
    go_enter Tryd.func16,Tryd.ntmps16
    go_wp2_with (first
      | ((with_reducible refine j4 rfl 42 (.tmp 0) rfl (pcC q) rfl ?_);intro g1 w1 hg1 hk1 hw1;have HW1:=kp hw1;have hf0:=hk1.cell 0;simp only [pcC,List.getElem?_cons_zero] at hf0;clear hk1 hw1)
      | (go_at_call 29;go_must (refine (qB _ _ HT.out HLc.out false HIn.out _).mono ?_);rintro e w2 ⟨rfl,rfl⟩))
    go_ret
    exact ⟨rfl,HW1.out⟩
section
variable {α : Type} {sz : Nat} {f : α → Nat → Value} {w w' : World} {B : Nat} {e : TypeId} {l : List α}
theorem OwnR.blk {A : Option Addr} {n cap : Nat} (h : OwnR sz f w B e (.slice A n cap) l) (h0 : 0 < n) :
    ∃ g cur,A = some ⟨g,0,none⟩ ∧ Blk w g e cur ∧ cur.length = cap * sz ∧ cur.take (n * sz) = cellsR sz f l ∧ B ≤ g ∧ n ≤ cap ∧ cap ≤ maxLen ∧ l.length = n:=by
  rcases h.2 with ⟨hv,hz⟩ | ⟨g,cap',cur,hv,hB,hg,hn,hm,hs,ht⟩
  · injection hv with _ e2 _;omega
  · injection hv with e1 e2 e3
    subst e1 e3
    rw [← e2] at hn ht
    exact ⟨g,cur.toList,rfl,by unfold Blk;simpa using hg,by simpa using hs,ht,hB,hn,hm,e2.symm⟩
theorem OwnR.of_blk {g n cap : Nat} {cur : List Value} (hb : Blk w g e cur) (hB : B ≤ g) (hl : l.length = n) (hn : n ≤ cap) (hm : cap ≤ maxLen) (hs : cur.length = cap * sz) (ht : cur.take (n * sz) = cellsR sz f l) : OwnR sz f w B e (.slice (some ⟨g,0,none⟩) n cap) l:=by
  subst hl
  exact ⟨lP sz f l,.inr ⟨g,cap,cur.toArray,rfl,hB,hb,hn,hm,by simpa using hs,by simpa using ht⟩⟩
theorem OwnR.len_is {A : Option Addr} {n cap : Nat} (h : OwnR sz f w B e (.slice A n cap) l) : l.length = n ∧ n ≤ cap ∧ cap ≤ maxLen:=by
  obtain ⟨A',c',hv,h1,h2,_⟩:=h.form
  injection hv with _ e2 e3
  omega
theorem OwnR.recs {A : Option Addr} {n cap : Nat} (h : OwnR sz f w B e (.slice A n cap) l) : Recs sz f w w.heap.size A n l:=by
  obtain ⟨A',c',hv,h1,h2,h3⟩:=h.form
  injection hv with e1 e2 e3
  rw [e1,e2];exact h3
theorem OwnR.less {v : Value} {B' : Nat} (h : OwnR sz f w B e v l) (hB : B' ≤ B) : OwnR sz f w B' e v l:=by
  rcases h.2 with h1 | ⟨g,cap,cur,hv,hB1,rest⟩
  · exact ⟨h.1,.inl h1⟩
  · exact ⟨h.1,.inr ⟨g,cap,cur,hv,by omega,rest⟩⟩
theorem QO {j : Nat} {x x' : α} {v : Value} : ∀ {l : List α} {k : Nat},l[k]? = some x → j < sz → (∀ i,i < sz → f x' i = if i = j then v else f x i) → cellsR sz f (l.set k x') = (cellsR sz f l).set (k * sz + j) v:=by
  intro l k hx hj hf
  apply List.ext_getElem?
  intro i
  have hk : k < l.length:=(List.getElem?_eq_some_iff.1 hx).1
  have hlen : (cellsR sz f (l.set k x')).length = l.length * sz:=by rw [lP,List.length_set]
  have hlen2 : (cellsR sz f l).length = l.length * sz:=lP sz f l
  have hkb : k * sz + sz ≤ l.length * sz:=by
    have:=Nat.mul_le_mul_right sz (show k + 1 ≤ l.length from hk)
    rw [Nat.add_mul,Nat.one_mul] at this;exact this
  rw [List.getElem?_set]
  rcases Nat.lt_or_ge i (l.length * sz) with hi | hi
  · have hsz : 0 < sz:=by omega
    have hq : i = i / sz * sz + i % sz:=by have:=Nat.div_add_mod i sz;rw [Nat.mul_comm] at this;omega
    have hr : i % sz < sz:=Nat.mod_lt _ hsz
    have hd : i / sz < l.length:=by
      rcases Nat.lt_or_ge (i / sz) l.length with h | h
      · exact h
      · have:=Nat.mul_le_mul_right sz h;omega
    generalize i / sz = a at hq hd
    generalize i % sz = b at hq hr
    subst hq
    by_cases e : a = k
    · subst e
      rw [lH sz f (l.set a x') a b x' (by rw [List.getElem?_set,if_pos rfl,if_pos hk]) hr,hf b hr]
      by_cases eb : b = j
      · subst eb
        rw [if_pos rfl,if_pos rfl,if_pos (by omega)]
      · rw [if_neg eb,if_neg (by omega),lH sz f l a b x hx hr]
    · have hya : l[a]? = some l[a]:=List.getElem?_eq_getElem hd
      rw [lH sz f (l.set k x') a b l[a] (by rw [List.getElem?_set,if_neg (fun h => e h.symm)];exact hya) hr,lH sz f l a b l[a] hya hr]
      rw [if_neg]
      intro h
      rcases Nat.lt_or_ge a k with h1 | h1
      · have:=Nat.mul_le_mul_right sz (show a + 1 ≤ k from h1)
        rw [Nat.add_mul,Nat.one_mul] at this;omega
      · have:=Nat.mul_le_mul_right sz (show k + 1 ≤ a by omega)
        rw [Nat.add_mul,Nat.one_mul] at this;omega
  · rw [List.getElem?_eq_none (by omega),if_neg (by omega),List.getElem?_eq_none (by omega)]
theorem OwnR.set {g n cap k j : Nat} {x x' : α} {v : Value} (h : OwnR sz f w B e (.slice (some ⟨g,0,none⟩) n cap) l) (hx : l[k]? = some x) (hj : j < sz) (hf : ∀ i,i < sz → f x' i = if i = j then v else f x i) {cur cur' : List Value} (hb : Blk w g e cur)
    (hc : cur' = cur.set (k * sz + j) v) (hb' : Blk w' g e cur') : OwnR sz f w' B e (.slice (some ⟨g,0,none⟩) n cap) (l.set k x'):=by
  have hk : k < l.length:=(List.getElem?_eq_some_iff.1 hx).1
  have hln:=h.len_is.1
  obtain ⟨g',cur2,e1,hb2,hs,ht,hB,hn,hm,hl⟩:=h.blk (by omega)
  injection e1 with e1
  injection e1 with e1
  subst e1
  have ec : cur2 = cur:=by
    unfold Blk at hb hb2
    rw [hb] at hb2
    have:=Option.some.inj hb2
    injection this with h1 h2 h3
    have:=congrArg Array.toList h1
    simpa using this.symm
  subst ec
  refine OwnR.of_blk hb' hB (by rw [List.length_set];exact hl) hn hm (by rw [hc,List.length_set];exact hs) ?_
  rw [hc,QO hx hj hf,← ht,List.take_set]
end
structure Fam (e : TypeId) (w : World) (B : Nat) (S : Nat → Prop) (l : List Sv) : Prop where
  own : ∀ (k : Nat) (x : Sv),l[k]? = some x → OwnR 2 frV w B e (svV x) x.stack
  out : ∀ (k : Nat) (x : Sv) (b : Nat),l[k]? = some x → (svV x).ownBlock = some b → ¬ S b
  apart : ∀ (k j : Nat) (x y : Sv) (b : Nat),l[k]? = some x → l[j]? = some y → (svV x).ownBlock = some b → (svV y).ownBlock = some b → k = j
section
variable {e : TypeId} {w w' : World} {B : Nat} {S S' : Nat → Prop} {l : List Sv}
theorem Fam.nil (e : TypeId) (w : World) (B : Nat) (S : Nat → Prop) : Fam e w B S []:=⟨fun _ _ h => by simp at h,fun _ _ _ h => by simp at h,fun _ _ _ _ _ h => by simp at h⟩
theorem Fam.block (h : Fam e w B S l) {k : Nat} {x : Sv} {b : Nat} (hx : l[k]? = some x) (hb : (svV x).ownBlock = some b) : B ≤ b ∧ b < w.heap.size:=(h.own k x hx).block b hb
theorem Fam.turn (h : Fam e w B S l) {row : Option Nat} (hg : w.grownBy w' row) (hr : ∀ b,row = some b → S b) : Fam e w' B S l :=
  ⟨fun k x hx => (h.own k x hx).far hg (by
    cases hv : (svV x).ownBlock with
    | none => exact .inl rfl
    | some b => exact .inr fun e1 => h.out k x b hx hv (hr b e1.symm)),h.out,h.apart⟩
theorem Fam.below (h : Fam e w B S l) {C : Nat} (hb : Below C w w') (hC : w.heap.size ≤ C) : Fam e w' B S l:=⟨fun k x hx => (h.own k x hx).below hb hC,h.out,h.apart⟩
theorem Fam.less (h : Fam e w B S l) (hS : ∀ b,S' b → S b ∨ w.heap.size ≤ b) : Fam e w B S' l :=
  ⟨h.own,fun k x b hx hb hs => by
    rcases hS b hs with h1 | h1
    · exact h.out k x b hx hb h1
    · have:=(h.block hx hb).2;omega,h.apart⟩
theorem Fam.set (h : Fam e w B S l) {k : Nat} {x x' : Sv} (hx : l[k]? = some x) (hg : w.grownBy w' (svV x).ownBlock) (ho : OwnR 2 frV w' B e (svV x') x'.stack)
    (hb : (svV x').ownBlock = (svV x).ownBlock ∨ ∀ b,(svV x').ownBlock = some b → w.heap.size ≤ b) (hS : ∀ b,S b → b < w.heap.size) : Fam e w' B S (l.set k x'):=by
  have hk : k < l.length:=(List.getElem?_eq_some_iff.1 hx).1
  have key : ∀ j y,(l.set k x')[j]? = some y → (j = k ∧ y = x') ∨ (j ≠ k ∧ l[j]? = some y):=fun j y hy => by
    rw [List.getElem?_set] at hy
    by_cases e1 : k = j
    · subst e1
      rw [if_pos rfl,if_pos hk] at hy
      exact .inl ⟨rfl,(Option.some.inj hy).symm⟩
    · rw [if_neg e1] at hy
      exact .inr ⟨fun e2 => e1 e2.symm,hy⟩
  have far : ∀ j y b,j ≠ k → l[j]? = some y → (svV y).ownBlock = some b → (svV x').ownBlock ≠ some b:=fun j y b hne hy hb1 hb2 => by
    rcases hb with hb | hb
    · exact hne (h.apart j k y x b hy hx hb1 (by rw [← hb];exact hb2))
    · have:=hb b hb2
      have:=(h.block hy hb1).2
      omega
  refine ⟨fun j y hy => ?_,fun j y b hy hb1 hs => ?_,fun i j y z b hy hz hb1 hb2 => ?_⟩
  · rcases key j y hy with ⟨_,rfl⟩ | ⟨hne,hy⟩
    · exact ho
    · refine (h.own j y hy).far hg ?_
      cases hv : (svV y).ownBlock with
      | none => exact .inl rfl
      | some b => exact .inr fun e1 => hne (h.apart j k y x b hy hx hv e1.symm)
  · rcases key j y hy with ⟨_,rfl⟩ | ⟨hne,hy⟩
    · rcases hb with hb | hb
      · exact h.out k x b hx (by rw [← hb];exact hb1) hs
      · have:=hb b hb1
        have:=hS b hs
        omega
    · exact h.out j y b hy hb1 hs
  · rcases key i y hy with ⟨e1,e2⟩ | ⟨hne,hy'⟩
    · rcases key j z hz with ⟨e3,_⟩ | ⟨hne2,hz'⟩
      · rw [e1,e3]
      · rw [e2] at hb1;exact absurd hb1 (far j z b hne2 hz' hb2)
    · rcases key j z hz with ⟨_,e4⟩ | ⟨hne2,hz'⟩
      · rw [e4] at hb2;exact absurd hb2 (far i y b hne hy' hb1)
      · exact h.apart i j y z b hy' hz' hb1 hb2
theorem Fam.push (h : Fam e w B S l) {x : Sv} (hg : w.grownBy w' none) (ho : OwnR 2 frV w' B e (svV x) x.stack) (hb : ∀ b,(svV x).ownBlock = some b → w.heap.size ≤ b) (hS : ∀ b,S b → b < w.heap.size) : Fam e w' B S (l ++ [x]):=by
  have key : ∀ j y,(l ++ [x])[j]? = some y → (j = l.length ∧ y = x) ∨ (j < l.length ∧ l[j]? = some y):=fun j y hy => by
    rcases Nat.lt_or_ge j l.length with h1 | h1
    · rw [List.getElem?_append_left h1] at hy
      exact .inr ⟨h1,hy⟩
    · have h2:=(List.getElem?_eq_some_iff.1 hy).1
      simp only [List.length_append,List.length_singleton] at h2
      have e1 : j = l.length:=by omega
      subst e1
      rw [List.getElem?_append_right (Nat.le_refl _),Nat.sub_self] at hy
      exact .inl ⟨rfl,by simpa using hy.symm⟩
  refine ⟨fun j y hy => ?_,fun j y b hy hb1 hs => ?_,fun i j y z b hy hz hb1 hb2 => ?_⟩
  · rcases key j y hy with ⟨_,rfl⟩ | ⟨_,hy⟩
    · exact ho
    · exact (h.own j y hy).far hg (by cases (svV y).ownBlock <;> simp)
  · rcases key j y hy with ⟨_,rfl⟩ | ⟨_,hy⟩
    · have:=hb b hb1;have:=hS b hs;omega
    · exact h.out j y b hy hb1 hs
  · rcases key i y hy with ⟨e1,e2⟩ | ⟨h1,hy'⟩
    · rcases key j z hz with ⟨e3,_⟩ | ⟨h2,hz'⟩
      · rw [e1,e3]
      · rw [e2] at hb1
        have:=hb b hb1;have:=(h.block hz' hb2).2;omega
    · rcases key j z hz with ⟨_,e4⟩ | ⟨h2,hz'⟩
      · rw [e4] at hb2
        have:=hb b hb2;have:=(h.block hy' hb1).2;omega
      · exact h.apart i j y z b hy' hz' hb1 hb2
end
structure St (w : World) (B gN gU : Nat) (q : Pc) : Prop where
  conf : Blk w gN 42 (pcC q)
  row : OwnR 9 tvV w B 48 (.slice q.A q.len q.cap) q.tvs
  fam : Fam 50 w B (fun b => b = gN ∨ b = gU ∨ (Value.slice q.A q.len q.cap).ownBlock = some b) (q.tvs.map (·.sv))
  ne : ∀ b,(Value.slice q.A q.len q.cap).ownBlock = some b → b ≠ gN ∧ b ≠ gU
  low : B ≤ gN ∧ gU < w.heap.size
theorem St.below {w w' : World} {B gN gU C : Nat} {q : Pc} (h : St w B gN gU q) (hb : Below C w w') (hC : w.heap.size ≤ C) : St w' B gN gU q :=
  ⟨h.conf.below hb (Nat.lt_of_lt_of_le h.conf.lt hC),h.row.below hb hC,h.fam.below hb hC,h.ne,h.low.1,Nat.lt_of_lt_of_le h.low.2 hb.size⟩
theorem St.drewN {w : World} {B gN gU : Nat} {q : Pc} (h : St w B gN gU q) (k : Nat) : St (w.drewN k) B gN gU q:=h.below (below_drewN (Below.refl w.heap.size w) k) (Nat.le_refl _)
theorem St.ok {w : World} {B gN gU : Nat} {q : Pc} (h : St w B gN gU q) : q.Ok w w.heap.size :=
  ⟨h.row.recs,h.row.len_is.2.1,h.row.len_is.2.2,fun x hx => by
    obtain ⟨k,hk⟩:=List.mem_iff_getElem?.1 hx
    have ho:=h.fam.own k x.sv (by rw [List.getElem?_map,hk];rfl)
    exact ⟨ho.recs,ho.len_is.2.1,ho.len_is.2.2⟩⟩
theorem St.thread {w : World} {B gN gU k : Nat} {q : Pc} (h : St w B gN gU q) (hk : k < q.len) :
    ∃ gT cur x,q.A = some ⟨gT,0,none⟩ ∧ Blk w gT 48 cur ∧ q.tvs[k]? = some x ∧ cur[k * 9]? = some (.slice x.sv.A x.sv.len x.sv.cap) ∧ (∀ j,j < 8 → cur[k * 9 + (j + 1)]? = some (.int .i64 (x.slots.getD j 0 : Int))) ∧ gT ≠ gN ∧ gT ≠ gU ∧ B ≤ gT ∧
      x.sv.stack.length = x.sv.len ∧ M.th q.cf k = tvT x ∧ k * 9 + 9 ≤ cur.length:=by
  obtain ⟨gT,cur,hA,hb,hs,ht,hB,hn,hm,hl⟩:=h.row.blk (by omega)
  have hkl : k < q.tvs.length:=by omega
  have hx:=List.getElem?_eq_getElem hkl
  have hne:=h.ne gT (by rw [hA];rfl)
  have ho:=h.fam.own k _ (by rw [List.getElem?_map,hx];rfl)
  have hc : ∀ j,j < 9 → cur[k * 9 + j]? = some (tvV q.tvs[k] j):=fun j hj => by
    have h1:=lH 9 tvV q.tvs k j _ hx hj
    rw [← ht,List.getElem?_take] at h1
    split at h1
    · exact h1
    · cases h1
  have hlen : k * 9 + 9 ≤ cur.length:=by rw [hs];omega
  exact ⟨gT,cur,_,hA,hb,hx,hc 0 (by omega),fun j hj => hc (j + 1) (by omega),hne.1,hne.2,hB,ho.len_is.1,Pc.th_of hx,hlen⟩
end Go.Proofs.YtlgaefenhfmjfaaDoor
