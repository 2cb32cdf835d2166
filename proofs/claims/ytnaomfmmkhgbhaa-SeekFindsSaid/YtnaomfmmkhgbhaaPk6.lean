/- SetMath2, SetRef2, SetP1, SemP4, SemOwn, SemSt, Acts, Early. -/
import Derived.Test.YtnaomfmmkhgbhaaPk5
import Derived.Test.YtnaomfmmkhgbhaaRows
import Derived.Test.YtnaomfmmkhgbhaaPk1
import Derived.Deep.QuietTactic
import Derived.BigQuiet
import Derived.Deep.RegionWith
import Derived.Laws.BitsAllLaws
import Derived.Test.YtnaomfmmkhgbhaaPk3
namespace Go.Proofs.Ytnaomfmmkhgbhaa.S
def rest (m : Nat) : Nat:=m &&& (m - 1)
theorem low_split : ∀ m : Nat,0 < m → ∃ k q,m = 2 ^ (k + 1) * q + 2 ^ k:=by
  intro m
  induction m using Nat.strongRecOn with
  | _ m ih =>
    intro h
    by_cases ho : m % 2 = 1
    · exact ⟨0,m / 2,by omega⟩
    · obtain ⟨k,q,e⟩:=ih (m / 2) (by omega) (by omega)
      refine ⟨k + 1,q,?_⟩
      have e1 : 2 ^ (k + 1 + 1) * q = 2 * (2 ^ (k + 1) * q):=by rw [Nat.pow_succ 2 (k + 1)];rw [Nat.mul_comm (2 ^ (k + 1)) 2,Nat.mul_assoc]
      have e2 : 2 ^ (k + 1) = 2 * 2 ^ k:=by rw [Nat.pow_succ];omega
      rw [e1]
      generalize 2 ^ (k + 1) * q = z at *
      omega
theorem uQ (k q i : Nat) : (2 ^ (k + 1) * q + 2 ^ k).testBit i = (decide (i = k) || (decide (k < i) && q.testBit (i - (k + 1)))):=by
  have h2 : 2 ^ k < 2 ^ (k + 1):=Nat.pow_lt_pow_right (by decide) (by omega)
  rw [Nat.testBit_two_pow_mul_add q h2]
  by_cases hi : i < k + 1
  · rw [if_pos hi,Nat.testBit_two_pow,decide_eq_false (by omega : ¬ k < i)]
    simp [eq_comm]
  · rw [if_neg hi,decide_eq_false (by omega : ¬ i = k),decide_eq_true (by omega : k < i)]
    simp
theorem YA (k q i : Nat) : (2 ^ (k + 1) * q + 2 ^ k - 1).testBit i = (decide (i < k) || (decide (k < i) && q.testBit (i - (k + 1)))):=by
  have h1 : 0 < 2 ^ k:=Nat.pow_pos (by decide)
  have h2 : 2 ^ k - 1 < 2 ^ (k + 1):=by have : 2 ^ k < 2 ^ (k + 1):=Nat.pow_lt_pow_right (by decide) (by omega);omega
  rw [show 2 ^ (k + 1) * q + 2 ^ k - 1 = 2 ^ (k + 1) * q + (2 ^ k - 1) by omega,Nat.testBit_two_pow_mul_add q h2]
  by_cases hi : i < k + 1
  · rw [if_pos hi,Nat.testBit_two_pow_sub_one,decide_eq_false (by omega : ¬ k < i)]
    simp
  · rw [if_neg hi,decide_eq_false (by omega : ¬ i < k),decide_eq_true (by omega : k < i)]
    simp
theorem XJ (k q i : Nat) : (rest (2 ^ (k + 1) * q + 2 ^ k)).testBit i = (decide (k < i) && q.testBit (i - (k + 1))):=by
  unfold rest
  rw [Nat.testBit_and,uQ,YA]
  by_cases h : k < i
  · rw [decide_eq_true h,decide_eq_false (by omega : ¬ i = k)];cases q.testBit (i - (k + 1)) <;> simp
  · rw [decide_eq_false h]
    by_cases h2 : i = k
    · rw [decide_eq_true h2,decide_eq_false (by omega : ¬ i < k)];simp
    · rw [decide_eq_false h2];simp
theorem Q2 (k q : Nat) : ∀ n,ids (2 ^ (k + 1) * q + 2 ^ k) n = if k < n then k :: ids (rest (2 ^ (k + 1) * q + 2 ^ k)) n else ids (rest (2 ^ (k + 1) * q + 2 ^ k)) n
  | 0 => by simp [ids]
  | n + 1 => by
    rw [XX,XX,Q2 k q n,XJ,uQ]
    by_cases h1 : k < n
    · rw [if_pos h1,if_pos (by omega : k < n + 1),decide_eq_false (by omega : ¬ n = k)];rfl
    · rw [if_neg h1]
      by_cases h2 : n = k
      · subst h2
        have e : ids (rest (2 ^ (n + 1) * q + 2 ^ n)) n = []:=by
          unfold ids
          rw [List.filter_eq_nil_iff]
          intro i hi
          have:=List.mem_range.1 hi
          rw [XJ,decide_eq_false (by omega)];simp
        rw [e];simp
      · rw [decide_eq_false h2,decide_eq_false h1,if_neg (show ¬ k < n + 1 by omega)];rfl
theorem neg_bit (k q : Nat) (hm : 2 ^ (k + 1) * q + 2 ^ k < 4294967296) : ((2 ^ (k + 1) * q + 2 ^ k) &&& (4294967296 - (2 ^ (k + 1) * q + 2 ^ k))) = 2 ^ k:=by
  have h1 : 0 < 2 ^ k:=Nat.pow_pos (by decide)
  apply Nat.eq_of_testBit_eq
  intro j
  have e : 4294967296 - (2 ^ (k + 1) * q + 2 ^ k) = 2 ^ 32 - ((2 ^ (k + 1) * q + 2 ^ k - 1) + 1):=by
    have : 4294967296 = 2 ^ 32:=by decide
    omega
  rw [Nat.testBit_and,e,Nat.testBit_two_pow_sub_succ (by omega),uQ,YA,Nat.testBit_two_pow]
  by_cases h2 : j = k
  · subst h2
    have : j < 32:=by
      rcases Nat.lt_or_ge j 32 with h | h
      · exact h
      · have:=Nat.pow_le_pow_right (by decide : 0 < 2) h
        omega
    simp [this]
  · rw [decide_eq_false h2,decide_eq_false (by omega : ¬ k = j)]
    by_cases h3 : k < j
    · rw [decide_eq_true h3,decide_eq_false (by omega : ¬ j < k)]
      cases q.testBit (j - (k + 1)) <;> simp
    · rw [decide_eq_false h3];simp
theorem low (m : Nat) (h0 : m ≠ 0) (hm : m < 4294967296) : ∃ k,k ≤ 31 ∧ ids m 32 = k :: ids (rest m) 32 ∧ (m &&& (4294967296 - m)) = 2 ^ k ∧ rest m < m:=by
  obtain ⟨k,q,rfl⟩:=low_split m (by omega)
  have h1 : 0 < 2 ^ k:=Nat.pow_pos (by decide)
  have hk : k < 32:=by
    rcases Nat.lt_or_ge k 32 with h | h
    · exact h
    · have:=Nat.pow_le_pow_right (by decide : 0 < 2) h
      omega
  refine ⟨k,by omega,?_,neg_bit k q hm,?_⟩
  · have:=Q2 k q 32
    rw [if_pos hk] at this
    exact this
  · unfold rest
    exact Nat.lt_of_le_of_lt Nat.and_le_right (by omega)
end Go.Proofs.Ytnaomfmmkhgbhaa.S
namespace Go.Proofs.Ytnaomfmmkhgbhaa
open Go.RowKit
theorem qE : (Try.prog.info? 44).map (·.size) = some 16:=by kernel_rfl
theorem jA : (Try.prog.info? 46).map (·.size) = some 17:=by kernel_rfl
theorem JX {o : List Nat} (h16 : o.length = 16) {k : Nat} (hk : k < 16) : (o.map natV)[k]? = some (.int .i64 (o.getD k 0 : Int)):=by
  rw [List.getElem?_map,List.getElem?_eq_getElem (by omega),List.getD_eq_getElem?_getD,List.getElem?_eq_getElem (by omega)];rfl
section
variable {α : Type} {sz : Nat} {f : α → Nat → Value} {w w' : World} {B : Nat} {e : TypeId} {l : List α}
theorem OwnR.blk {A : Option Addr} {n cap : Nat} (h : OwnR sz f w B e (.slice A n cap) l) (h0 : 0 < n) :
    ∃ g cur,A = some ⟨g,0,none⟩ ∧ Blk w g e cur ∧ cur.length = cap * sz ∧ cur.take (n * sz) = cellsR sz f l ∧ B ≤ g ∧ n ≤ cap ∧ cap ≤ maxLen ∧ l.length = n:=by
  rcases h.2 with ⟨hv,hz⟩ | ⟨g,cap',cur,hv,hB,hg,hn,hm,hs,ht⟩
  · injection hv with _ e2 _;omega
  · injection hv with e1 e2 e3
    subst e1 e3
    rw [← e2] at hn ht
    exact ⟨g,cur.toList,rfl,by unfold Blk;simpa using hg,by simpa using hs,ht,hB,hn,hm,e2.symm⟩
theorem OwnR.of_blk {g n cap : Nat} {cur : List Value} (hb : Blk w g e cur) (hB : B ≤ g) (hl : l.length = n) (hn : n ≤ cap) (hm : cap ≤ maxLen) (hs : cur.length = cap * sz) (ht : cur.take (n * sz) = cellsR sz f l) : OwnR sz f w B e (.slice (some ⟨g,0,none⟩) n cap) l:=by
  subst hl
  exact ⟨lU sz f l,.inr ⟨g,cap,cur.toArray,rfl,hB,hb,hn,hm,by simpa using hs,by simpa using ht⟩⟩
theorem OwnR.len_is {A : Option Addr} {n cap : Nat} (h : OwnR sz f w B e (.slice A n cap) l) : l.length = n ∧ n ≤ cap ∧ cap ≤ maxLen:=by
  obtain ⟨A',c',hv,h1,h2,_⟩:=h.form
  injection hv with _ e2 e3
  omega
theorem OwnR.recs {A : Option Addr} {n cap : Nat} (h : OwnR sz f w B e (.slice A n cap) l) : Recs sz f w w.heap.size A n l:=by
  obtain ⟨A',c',hv,h1,h2,h3⟩:=h.form
  injection hv with e1 e2 e3
  rw [e1,e2];exact h3
theorem OwnR.less {v : Value} {B' : Nat} (h : OwnR sz f w B e v l) (hB : B' ≤ B) : OwnR sz f w B' e v l:=by
  rcases h.2 with h1 | ⟨g,cap,cur,hv,hB1,rest⟩
  · exact ⟨h.1,.inl h1⟩
  · exact ⟨h.1,.inr ⟨g,cap,cur,hv,by omega,rest⟩⟩
theorem cellsR_set {j : Nat} {x x' : α} {v : Value} : ∀ {l : List α} {k : Nat},l[k]? = some x → j < sz → (∀ i,i < sz → f x' i = if i = j then v else f x i) → cellsR sz f (l.set k x') = (cellsR sz f l).set (k * sz + j) v:=by
  intro l k hx hj hf
  apply List.ext_getElem?
  intro i
  have hk : k < l.length:=(List.getElem?_eq_some_iff.1 hx).1
  have hlen : (cellsR sz f (l.set k x')).length = l.length * sz:=by rw [lU,List.length_set]
  have hlen2 : (cellsR sz f l).length = l.length * sz:=lU sz f l
  have hkb : k * sz + sz ≤ l.length * sz:=by
    have:=Nat.mul_le_mul_right sz (show k + 1 ≤ l.length from hk)
    rw [Nat.add_mul,Nat.one_mul] at this;exact this
  rw [List.getElem?_set]
  rcases Nat.lt_or_ge i (l.length * sz) with hi | hi
  · have hsz : 0 < sz:=by omega
    have hq : i = i / sz * sz + i % sz:=by have:=Nat.div_add_mod i sz;rw [Nat.mul_comm] at this;omega
    have hr : i % sz < sz:=Nat.mod_lt _ hsz
    have hd : i / sz < l.length:=by
      rcases Nat.lt_or_ge (i / sz) l.length with h | h
      · exact h
      · have:=Nat.mul_le_mul_right sz h;omega
    generalize i / sz = a at hq hd
    generalize i % sz = b at hq hr
    subst hq
    by_cases e : a = k
    · subst e
      rw [lE sz f (l.set a x') a b x' (by rw [List.getElem?_set,if_pos rfl,if_pos hk]) hr,hf b hr]
      by_cases eb : b = j
      · subst eb
        rw [if_pos rfl,if_pos rfl,if_pos (by omega)]
      · rw [if_neg eb,if_neg (by omega),lE sz f l a b x hx hr]
    · have hya : l[a]? = some l[a]:=List.getElem?_eq_getElem hd
      rw [lE sz f (l.set k x') a b l[a] (by rw [List.getElem?_set,if_neg (fun h => e h.symm)];exact hya) hr,lE sz f l a b l[a] hya hr]
      rw [if_neg]
      intro h
      rcases Nat.lt_or_ge a k with h1 | h1
      · have:=Nat.mul_le_mul_right sz (show a + 1 ≤ k from h1)
        rw [Nat.add_mul,Nat.one_mul] at this;omega
      · have:=Nat.mul_le_mul_right sz (show k + 1 ≤ a by omega)
        rw [Nat.add_mul,Nat.one_mul] at this;omega
  · rw [List.getElem?_eq_none (by omega),if_neg (by omega),List.getElem?_eq_none (by omega)]
theorem OwnR.set {g n cap k j : Nat} {x x' : α} {v : Value} (h : OwnR sz f w B e (.slice (some ⟨g,0,none⟩) n cap) l) (hx : l[k]? = some x) (hj : j < sz) (hf : ∀ i,i < sz → f x' i = if i = j then v else f x i) {cur cur' : List Value} (hb : Blk w g e cur)
    (hc : cur' = cur.set (k * sz + j) v) (hb' : Blk w' g e cur') : OwnR sz f w' B e (.slice (some ⟨g,0,none⟩) n cap) (l.set k x'):=by
  have hk : k < l.length:=(List.getElem?_eq_some_iff.1 hx).1
  have hln:=h.len_is.1
  obtain ⟨g',cur2,e1,hb2,hs,ht,hB,hn,hm,hl⟩:=h.blk (by omega)
  injection e1 with e1
  injection e1 with e1
  subst e1
  have ec : cur2 = cur:=by
    unfold Blk at hb hb2
    rw [hb] at hb2
    have:=Option.some.inj hb2
    injection this with h1 h2 h3
    have:=congrArg Array.toList h1
    simpa using this.symm
  subst ec
  refine OwnR.of_blk hb' hB (by rw [List.length_set];exact hl) hn hm (by rw [hc,List.length_set];exact hs) ?_
  rw [hc,cellsR_set hx hj hf,← ht,List.take_set]
end
structure Fam (e : TypeId) (w : World) (B : Nat) (S : Nat → Prop) (l : List Sv) : Prop where
  own : ∀ (k : Nat) (x : Sv),l[k]? = some x → OwnR 2 frV w B e (svV x) x.stack
  out : ∀ (k : Nat) (x : Sv) (b : Nat),l[k]? = some x → (svV x).ownBlock = some b → ¬ S b
  apart : ∀ (k j : Nat) (x y : Sv) (b : Nat),l[k]? = some x → l[j]? = some y → (svV x).ownBlock = some b → (svV y).ownBlock = some b → k = j
section
variable {e : TypeId} {w w' : World} {B : Nat} {S S' : Nat → Prop} {l : List Sv}
theorem Fam.nil (e : TypeId) (w : World) (B : Nat) (S : Nat → Prop) : Fam e w B S []:=⟨fun _ _ h => by simp at h,fun _ _ _ h => by simp at h,fun _ _ _ _ _ h => by simp at h⟩
theorem Fam.block (h : Fam e w B S l) {k : Nat} {x : Sv} {b : Nat} (hx : l[k]? = some x) (hb : (svV x).ownBlock = some b) : B ≤ b ∧ b < w.heap.size:=(h.own k x hx).block b hb
theorem Fam.turn (h : Fam e w B S l) {row : Option Nat} (hg : w.grownBy w' row) (hr : ∀ b,row = some b → S b) : Fam e w' B S l :=
  ⟨fun k x hx => (h.own k x hx).far hg (by
    cases hv : (svV x).ownBlock with
    | none => exact .inl rfl
    | some b => exact .inr fun e1 => h.out k x b hx hv (hr b e1.symm)),h.out,h.apart⟩
theorem Fam.below (h : Fam e w B S l) {C : Nat} (hb : Below C w w') (hC : w.heap.size ≤ C) : Fam e w' B S l:=⟨fun k x hx => (h.own k x hx).below hb hC,h.out,h.apart⟩
theorem Fam.less (h : Fam e w B S l) (hS : ∀ b,S' b → S b ∨ w.heap.size ≤ b) : Fam e w B S' l :=
  ⟨h.own,fun k x b hx hb hs => by
    rcases hS b hs with h1 | h1
    · exact h.out k x b hx hb h1
    · have:=(h.block hx hb).2;omega,h.apart⟩
theorem Fam.set (h : Fam e w B S l) {k : Nat} {x x' : Sv} (hx : l[k]? = some x) (hg : w.grownBy w' (svV x).ownBlock) (ho : OwnR 2 frV w' B e (svV x') x'.stack)
    (hb : (svV x').ownBlock = (svV x).ownBlock ∨ ∀ b,(svV x').ownBlock = some b → w.heap.size ≤ b) (hS : ∀ b,S b → b < w.heap.size) : Fam e w' B S (l.set k x'):=by
  have hk : k < l.length:=(List.getElem?_eq_some_iff.1 hx).1
  have key : ∀ j y,(l.set k x')[j]? = some y → (j = k ∧ y = x') ∨ (j ≠ k ∧ l[j]? = some y):=fun j y hy => by
    rw [List.getElem?_set] at hy
    by_cases e1 : k = j
    · subst e1
      rw [if_pos rfl,if_pos hk] at hy
      exact .inl ⟨rfl,(Option.some.inj hy).symm⟩
    · rw [if_neg e1] at hy
      exact .inr ⟨fun e2 => e1 e2.symm,hy⟩
  have far : ∀ j y b,j ≠ k → l[j]? = some y → (svV y).ownBlock = some b → (svV x').ownBlock ≠ some b:=fun j y b hne hy hb1 hb2 => by
    rcases hb with hb | hb
    · exact hne (h.apart j k y x b hy hx hb1 (by rw [← hb];exact hb2))
    · have:=hb b hb2
      have:=(h.block hy hb1).2
      omega
  refine ⟨fun j y hy => ?_,fun j y b hy hb1 hs => ?_,fun i j y z b hy hz hb1 hb2 => ?_⟩
  · rcases key j y hy with ⟨_,rfl⟩ | ⟨hne,hy⟩
    · exact ho
    · refine (h.own j y hy).far hg ?_
      cases hv : (svV y).ownBlock with
      | none => exact .inl rfl
      | some b => exact .inr fun e1 => hne (h.apart j k y x b hy hx hv e1.symm)
  · rcases key j y hy with ⟨_,rfl⟩ | ⟨hne,hy⟩
    · rcases hb with hb | hb
      · exact h.out k x b hx (by rw [← hb];exact hb1) hs
      · have:=hb b hb1
        have:=hS b hs
        omega
    · exact h.out j y b hy hb1 hs
  · rcases key i y hy with ⟨e1,e2⟩ | ⟨hne,hy'⟩
    · rcases key j z hz with ⟨e3,_⟩ | ⟨hne2,hz'⟩
      · rw [e1,e3]
      · rw [e2] at hb1;exact absurd hb1 (far j z b hne2 hz' hb2)
    · rcases key j z hz with ⟨_,e4⟩ | ⟨hne2,hz'⟩
      · rw [e4] at hb2;exact absurd hb2 (far i y b hne hy' hb1)
      · exact h.apart i j y z b hy' hz' hb1 hb2
theorem Fam.push (h : Fam e w B S l) {x : Sv} (hg : w.grownBy w' none) (ho : OwnR 2 frV w' B e (svV x) x.stack) (hb : ∀ b,(svV x).ownBlock = some b → w.heap.size ≤ b) (hS : ∀ b,S b → b < w.heap.size) : Fam e w' B S (l ++ [x]):=by
  have key : ∀ j y,(l ++ [x])[j]? = some y → (j = l.length ∧ y = x) ∨ (j < l.length ∧ l[j]? = some y):=fun j y hy => by
    rcases Nat.lt_or_ge j l.length with h1 | h1
    · rw [List.getElem?_append_left h1] at hy
      exact .inr ⟨h1,hy⟩
    · have h2:=(List.getElem?_eq_some_iff.1 hy).1
      simp only [List.length_append,List.length_singleton] at h2
      have e1 : j = l.length:=by omega
      subst e1
      rw [List.getElem?_append_right (Nat.le_refl _),Nat.sub_self] at hy
      exact .inl ⟨rfl,by simpa using hy.symm⟩
  refine ⟨fun j y hy => ?_,fun j y b hy hb1 hs => ?_,fun i j y z b hy hz hb1 hb2 => ?_⟩
  · rcases key j y hy with ⟨_,rfl⟩ | ⟨_,hy⟩
    · exact ho
    · exact (h.own j y hy).far hg (by cases (svV y).ownBlock <;> simp)
  · rcases key j y hy with ⟨_,rfl⟩ | ⟨_,hy⟩
    · have:=hb b hb1;have:=hS b hs;omega
    · exact h.out j y b hy hb1 hs
  · rcases key i y hy with ⟨e1,e2⟩ | ⟨h1,hy'⟩
    · rcases key j z hz with ⟨e3,_⟩ | ⟨h2,hz'⟩
      · rw [e1,e3]
      · rw [e2] at hb1
        have:=hb b hb1;have:=(h.block hz' hb2).2;omega
    · rcases key j z hz with ⟨_,e4⟩ | ⟨h2,hz'⟩
      · rw [e4] at hb2
        have:=hb b hb2;have:=(h.block hy' hb1).2;omega
      · exact h.apart i j y z b hy' hz' hb1 hb2
end
structure St (w : World) (B gN gU : Nat) (q : Pc) : Prop where
  conf : Blk w gN 46 (pcC q)
  row : OwnR 9 tvV w B 94 (.slice q.A q.len q.cap) q.tvs
  fam : Fam 133 w B (fun b => b = gN ∨ b = gU ∨ (Value.slice q.A q.len q.cap).ownBlock = some b) (q.tvs.map (·.sv))
  ne : ∀ b,(Value.slice q.A q.len q.cap).ownBlock = some b → b ≠ gN ∧ b ≠ gU
  low : B ≤ gN ∧ gU < w.heap.size
theorem St.below {w w' : World} {B gN gU C : Nat} {q : Pc} (h : St w B gN gU q) (hb : Below C w w') (hC : w.heap.size ≤ C) : St w' B gN gU q :=
  ⟨h.conf.below hb (Nat.lt_of_lt_of_le h.conf.lt hC),h.row.below hb hC,h.fam.below hb hC,h.ne,h.low.1,Nat.lt_of_lt_of_le h.low.2 hb.size⟩
theorem St.drewN {w : World} {B gN gU : Nat} {q : Pc} (h : St w B gN gU q) (k : Nat) : St (w.drewN k) B gN gU q:=h.below (below_drewN (Below.refl w.heap.size w) k) (Nat.le_refl _)
theorem St.ok {w : World} {B gN gU : Nat} {q : Pc} (h : St w B gN gU q) : q.Ok w w.heap.size :=
  ⟨h.row.recs,h.row.len_is.2.1,h.row.len_is.2.2,fun x hx => by
    obtain ⟨k,hk⟩:=List.mem_iff_getElem?.1 hx
    have ho:=h.fam.own k x.sv (by rw [List.getElem?_map,hk];rfl)
    exact ⟨ho.recs,ho.len_is.2.1,ho.len_is.2.2⟩⟩
theorem St.thread {w : World} {B gN gU k : Nat} {q : Pc} (h : St w B gN gU q) (hk : k < q.len) :
    ∃ gT cur x,q.A = some ⟨gT,0,none⟩ ∧ Blk w gT 94 cur ∧ q.tvs[k]? = some x ∧ cur[k * 9]? = some (.slice x.sv.A x.sv.len x.sv.cap) ∧ (∀ j,j < 8 → cur[k * 9 + (j + 1)]? = some (.int .i64 (x.slots.getD j 0 : Int))) ∧ gT ≠ gN ∧ gT ≠ gU ∧ B ≤ gT ∧
      x.sv.stack.length = x.sv.len ∧ M.th q.cf k = tvT x ∧ k * 9 + 9 ≤ cur.length:=by
  obtain ⟨gT,cur,hA,hb,hs,ht,hB,hn,hm,hl⟩:=h.row.blk (by omega)
  have hkl : k < q.tvs.length:=by omega
  have hx:=List.getElem?_eq_getElem hkl
  have hne:=h.ne gT (by rw [hA];rfl)
  have ho:=h.fam.own k _ (by rw [List.getElem?_map,hx];rfl)
  have hc : ∀ j,j < 9 → cur[k * 9 + j]? = some (tvV q.tvs[k] j):=fun j hj => by
    have h1:=lE 9 tvV q.tvs k j _ hx hj
    rw [← ht,List.getElem?_take] at h1
    split at h1
    · exact h1
    · cases h1
  have hlen : k * 9 + 9 ≤ cur.length:=by rw [hs];omega
  exact ⟨gT,cur,_,hA,hb,hx,hc 0 (by omega),fun j hj => hc (j + 1) (by omega),hne.1,hne.2,hB,ho.len_is.1,Pc.th_of hx,hlen⟩
theorem OwnR.congr {α : Type} {sz : Nat} {f : α → Nat → Value} {w : World} {B : Nat} {e : TypeId} {v : Value} {l l' : List α} (h : OwnR sz f w B e v l) (hl : l'.length = l.length) (hc : cellsR sz f l' = cellsR sz f l) : OwnR sz f w B e v l':=by
  unfold OwnR
  rw [hl,hc];exact h
theorem J2 {α : Type} {sz : Nat} {f : α → Nat → Value} {x x' : α} {l : List α} {k : Nat} (hx : l[k]? = some x) (hf : f x' = f x) : cellsR sz f (l.set k x') = cellsR sz f l:=by
  unfold cellsR
  rw [List.flatMap_def,List.flatMap_def,List.map_set,hf]
  congr 1
  apply List.ext_getElem?
  intro i
  rw [List.getElem?_set]
  by_cases e : k = i
  · subst e
    have hk : k < l.length:=(List.getElem?_eq_some_iff.1 hx).1
    rw [if_pos rfl,List.getElem?_map,hx,if_pos (by simpa using hk)];rfl
  · rw [if_neg e]
def Pc.put (q : Pc) (k : Nat) (x : Tv) : Pc:=⟨q.A,q.len,q.cap,q.tvs.set k x,q.ow⟩
theorem Pc.put_cf (q : Pc) (k : Nat) (x : Tv) : (q.put k x).cf = ⟨q.cf.ths.set k (tvT x),q.ow⟩:=by unfold Pc.put Pc.cf;simp [List.map_set]
def tvGo (x : Tv) (n : Nat) : Tv:=⟨⟨x.sv.A,x.sv.len,x.sv.cap,M.goOn x.sv.stack n⟩,x.slots⟩
theorem frV_go {f : Nat × Nat} {n : Nat} : ∀ i,i < 2 → frV (f.1,n) i = if i = 1 then .int .i64 (n : Int) else frV f i:=by
  intro i hi
  match i,hi with
  | 0,_ => rfl
  | 1,_ => rfl
theorem St.goes {w : World} {B gN gU k : Nat} {q : Pc} {x : Tv} (h : St w B gN gU q) (hx : q.tvs[k]? = some x) (h0 : 0 < x.sv.len) :
    ∃ gS cur,x.sv.A = some ⟨gS,0,none⟩ ∧ Blk w gS 133 cur ∧ (x.sv.len - 1) * 2 + 1 < cur.length ∧ gS ≠ gN ∧ gS ≠ gU ∧ B ≤ gS ∧
      ∀ W w' n,Below w.heap.size w W → Blk w' gS 133 (cur.set ((x.sv.len - 1) * 2 + 1) (.int .i64 ((n : Nat) : Int))) → W.grownBy w' (some gS) → w'.heap.size = W.heap.size → St w' B gN gU (q.put k (tvGo x n)):=by
  have hxs : (q.tvs.map (·.sv))[k]? = some x.sv:=by rw [List.getElem?_map,hx];rfl
  have ho:=h.fam.own k _ hxs
  obtain ⟨gS,cur,hA,hb,hs,ht,hB,hn,hm,hl⟩:=ho.blk h0
  have hbk : (svV x.sv).ownBlock = some gS:=by unfold svV;rw [hA];rfl
  have hout:=h.fam.out k _ gS hxs hbk
  have hlen : (x.sv.len - 1) * 2 + 1 < cur.length:=by rw [hs];omega
  have hgl:=hb.lt
  refine ⟨gS,cur,hA,hb,hlen,fun e => hout (.inl e),fun e => hout (.inr (.inl e)),hB,fun W w' n hW hb' hg hz => ?_⟩
  replace hb:=hb.below hW hgl
  replace h:=h.below hW (Nat.le_refl _)
  replace ho:=h.fam.own k _ hxs
  have htop : x.sv.stack[x.sv.len - 1]? = some (M.top x.sv.stack):=by rw [← hl];exact M.top_at (by omega)
  have hown : OwnR 2 frV w' B 133 (svV (tvGo x n).sv) (tvGo x n).sv.stack:=by
    have hv : svV (tvGo x n).sv = .slice (some ⟨gS,0,none⟩) x.sv.len x.sv.cap:=by unfold svV tvGo;simp only;rw [hA]
    have hst : (tvGo x n).sv.stack = x.sv.stack.set (x.sv.len - 1) ((M.top x.sv.stack).1,n):=by unfold tvGo M.goOn;simp only;rw [hl]
    rw [hv,hst]
    have ho2:=ho
    unfold svV at ho2
    rw [hA] at ho2
    exact ho2.set htop (by omega) frV_go hb rfl hb'
  have hown' : (svV (tvGo x n).sv).ownBlock = (svV x.sv).ownBlock:=rfl
  refine ⟨h.conf.grown hg (fun e => hout (.inl (by cases e;rfl))),?_,?_,h.ne,h.low.1,by rw [hz];exact h.low.2⟩
  · refine (h.row.far hg ?_).congr (by unfold Pc.put;simp) (J2 hx ?_)
    · cases hv : (Value.slice q.A q.len q.cap).ownBlock with
      | none => exact .inl rfl
      | some b => exact .inr fun e => hout (.inr (.inr (by cases e;exact hv)))
    · funext j
      cases j <;> rfl
  · have e : (q.put k (tvGo x n)).tvs.map (·.sv) = (q.tvs.map (·.sv)).set k (tvGo x n).sv:=by unfold Pc.put;rw [List.map_set]
    rw [e]
    refine h.fam.set hxs (by rw [hbk];exact hg) hown (.inl hown') fun b hb2 => ?_
    rcases hb2 with rfl | rfl | hb2
    · exact h.conf.lt
    · exact h.low.2
    · exact (h.row.block b hb2).2
def Pc.own (q : Pc) (a o : Nat) : Pc:=⟨q.A,q.len,q.cap,q.tvs,q.ow.set a o⟩
theorem St.owns {w w' : World} {B gN gU a o : Nat} {q : Pc} (h : St w B gN gU q) (hb : Blk w' gN 46 ((pcC q).set (1 + a) (.int .i64 (o : Int)))) (hg : w.grownBy w' (some gN)) (hz : w'.heap.size = w.heap.size) : St w' B gN gU (q.own a o):=by
  refine ⟨?_,?_,?_,h.ne,h.low.1,by rw [hz];exact h.low.2⟩
  · have e : pcC (q.own a o) = (pcC q).set (1 + a) (.int .i64 (o : Int)):=by
      unfold pcC Pc.own
      rw [show 1 + a = a + 1 by omega,List.set_cons_succ,List.map_set];rfl
    rw [e];exact hb
  · refine h.row.far hg ?_
    cases hv : (Value.slice q.A q.len q.cap).ownBlock with
    | none => exact .inl rfl
    | some b => exact .inr fun e => (h.ne b hv).1 (by cases e;rfl)
  · exact h.fam.turn hg fun b e => .inl (by cases e;rfl)
theorem St.field {w w' : World} {B gN gU k gT : Nat} {q : Pc} {x x' : Tv} {cur : List Value} {j : Nat} {v : Value} (hconf : Blk w gN 46 (pcC q)) (hrow : OwnR 9 tvV w B 94 (.slice q.A q.len q.cap) q.tvs)
    (hne : ∀ b,(Value.slice q.A q.len q.cap).ownBlock = some b → b ≠ gN ∧ b ≠ gU) (hlow : B ≤ gN ∧ gU < w.heap.size) (hA : q.A = some ⟨gT,0,none⟩) (hc : Blk w gT 94 cur) (hx : q.tvs[k]? = some x) (hj : j < 9)
    (hf : ∀ i,i < 9 → tvV x' i = if i = j then v else tvV x i) (hb : Blk w' gT 94 (cur.set (k * 9 + j) v)) (hg : w.grownBy w' (some gT)) (hz : w'.heap.size = w.heap.size)
    (hfam : Fam 133 w B (fun b => b = gN ∨ b = gU ∨ (Value.slice q.A q.len q.cap).ownBlock = some b) ((q.tvs.map (·.sv)).set k x'.sv)) : St w' B gN gU (q.put k x'):=by
  have hbk : (Value.slice q.A q.len q.cap).ownBlock = some gT:=by rw [hA];rfl
  refine ⟨hconf.grown hg (fun e => (hne gT hbk).1 (by cases e;rfl)),?_,?_,hne,hlow.1,by rw [hz];exact hlow.2⟩
  · have hr:=hrow
    show OwnR 9 tvV w' B _ (.slice q.A q.len q.cap) (q.tvs.set k x')
    rw [hA] at hr ⊢
    exact hr.set hx hj hf hc rfl hb
  · have e : (q.put k x').tvs.map (·.sv) = (q.tvs.map (·.sv)).set k x'.sv:=by unfold Pc.put;rw [List.map_set]
    rw [e]
    exact hfam.turn hg fun b eb => .inr (.inr (by cases eb;exact hbk))
theorem fam_same {e : TypeId} {w : World} {B : Nat} {S : Nat → Prop} {l : List Sv} {k : Nat} {x : Sv} (h : Fam e w B S l) (hx : l[k]? = some x) : Fam e w B S (l.set k x):=by
  have es : l.set k x = l:=by
    apply List.ext_getElem?
    intro i
    rw [List.getElem?_set]
    by_cases e1 : k = i
    · subst e1
      rw [if_pos rfl,if_pos (List.getElem?_eq_some_iff.1 hx).1,hx]
    · rw [if_neg e1]
  rw [es];exact h
theorem St.slot {w w' : World} {B gN gU k gT j o : Nat} {q : Pc} {x : Tv} {cur : List Value} (h : St w B gN gU q) (hA : q.A = some ⟨gT,0,none⟩) (hc : Blk w gT 94 cur) (hx : q.tvs[k]? = some x) (h8 : x.slots.length = 8) (hj : j < 8)
    (hb : Blk w' gT 94 (cur.set (k * 9 + (j + 1)) (.int .i64 (o : Int)))) (hg : w.grownBy w' (some gT)) (hz : w'.heap.size = w.heap.size) : St w' B gN gU (q.put k ⟨x.sv,x.slots.set j o⟩):=by
  refine St.field (x':=⟨x.sv,x.slots.set j o⟩) h.conf h.row h.ne h.low hA hc hx (j:=j + 1) (by omega) (fun i hi => ?_) hb hg hz (fam_same h.fam (by rw [List.getElem?_map,hx];rfl))
  match i,hi with
  | 0,_ => rfl
  | i + 1,hi =>
    show Value.int .i64 (((x.slots.set j o).getD i 0 : Nat) : Int) = if i + 1 = j + 1 then _ else .int .i64 ((x.slots.getD i 0 : Nat) : Int)
    rw [List.getD_eq_getElem?_getD,List.getElem?_set,List.getD_eq_getElem?_getD]
    by_cases e : j = i
    · subst e
      rw [if_pos rfl,if_pos (by omega),if_pos rfl];rfl
    · rw [if_neg e,if_neg (by omega)]
theorem St.stack {w0 w w' : World} {B gN gU k gT : Nat} {q : Pc} {x : Tv} {sv : Sv} {cur : List Value} (h : St w0 B gN gU q) (hA : q.A = some ⟨gT,0,none⟩) (hc : Blk w0 gT 94 cur) (hx : q.tvs[k]? = some x)
    (hg0 : w0.grownBy w (svV x.sv).ownBlock) (ho : OwnR 2 frV w B 133 (svV sv) sv.stack) (hbk : (svV sv).ownBlock = (svV x.sv).ownBlock ∨ ∀ b,(svV sv).ownBlock = some b → w0.heap.size ≤ b)
    (hb : Blk w' gT 94 (cur.set (k * 9) (svV sv))) (hg : w.grownBy w' (some gT)) (hz : w'.heap.size = w.heap.size) : St w' B gN gU (q.put k ⟨sv,x.slots⟩):=by
  have hxs : (q.tvs.map (·.sv))[k]? = some x.sv:=by rw [List.getElem?_map,hx];rfl
  have hout : ∀ b,(svV x.sv).ownBlock = some b → ¬ (b = gN ∨ b = gU ∨ (Value.slice q.A q.len q.cap).ownBlock = some b):=fun b hb => h.fam.out k _ b hxs hb
  have hAb : (Value.slice q.A q.len q.cap).ownBlock = some gT:=by rw [hA];rfl
  have hnT : some gT ≠ (svV x.sv).ownBlock:=fun e => hout gT e.symm (.inr (.inr hAb))
  have hnN : some gN ≠ (svV x.sv).ownBlock:=fun e => hout gN e.symm (.inl rfl)
  refine St.field (x':=⟨sv,x.slots⟩) (h.conf.grown hg0 hnN) (h.row.far hg0 ?_) h.ne ⟨h.low.1,Nat.lt_of_lt_of_le h.low.2 hg0.size⟩ hA (hc.grown hg0 hnT) hx (j:=0) (by omega) (fun i hi => ?_) hb hg hz ?_
  · rw [hAb];exact .inr hnT
  · match i,hi with
    | 0,_ => rfl
    | i + 1,_ => rfl
  · refine h.fam.set hxs hg0 ho hbk fun b hb2 => ?_
    rcases hb2 with rfl | rfl | hb2
    · exact h.conf.lt
    · exact h.low.2
    · exact (h.row.block b hb2).2
theorem vK {P : Program} {ops : Array Oper} {rest : List Oper} {o : Oper} {a : Act} {w : World} {Q : Exit → Act → World → Prop} (hgd : o.guard = none) (ty : TypeId) (x hi : Operand) (ho : o.op = .slice ty x none (some hi) none)
    (e : TypeId) (sz : Nat) (hu : P.underlying ty = some (.slice e)) (hsz : (P.info? e).map (·.size) = some sz) (A : Option Addr) (n c : Nat) (hx : a.eval x = .slice A n c) (k : IntKind) (m : Nat) (hl : a.eval hi = .int k (m : Int)) (hmc : m ≤ c)
    (h : wpList P ops Q rest (a.put o.dst (.slice A m c)) w) : wpList P ops Q (o :: rest) a w:=by
  refine wpList_plain hgd fun K hK => ?_
  have hel : P.elem ty = e:=by simp [Program.elem,hu]
  have h1:=run_slice_h (P:=P) w ty A n c (by rw [hel];exact hu) k (m : Int) (by omega) (by omega)
  have h2:=run_sliceAt_slice (P:=P) w ty (.slice A n c) none (some (.int k (m : Int))) none (by rw [hel];exact hu)
  rw [h1] at h2
  cases hq : P.info? e with
  | none => simp [hq] at hsz
  | some ie =>
    have hs : ie.size = sz:=by simpa [hq] using hsz
    have hso : (sizeOf e).run P w = .ok sz w:=by simp [sizeOf,typeInfo,hq,hs]
    have hk:=hK _ _ h
    have e0 : (if c = 0 then A else Option.map (fun x => x.add 0) A) = A:=by
      split
      · rfl
      · cases A <;> simp [Addr.add]
    unfold Oper.wp execOp
    simp only [ho,hx,hl,Option.map_some,Option.map_none,h2,Sem.run_bind,Sem.run_pure,hel,hso,sliced,Result.andThen_ok,Int.toNat_natCast,Nat.zero_mul,Nat.sub_zero,e0]
    exact hk
theorem OwnR.front {α : Type} {sz : Nat} {f : α → Nat → Value} {w : World} {B : Nat} {e : TypeId} {l : List α} {A : Option Addr} {n c m : Nat} (h : OwnR sz f w B e (.slice A n c) l) (hm : m ≤ n) : OwnR sz f w B e (.slice A m c) (l.take m):=by
  obtain ⟨hln,hnc,hcm⟩:=h.len_is
  rcases Nat.eq_zero_or_pos n with h0 | h0
  · have hm0 : m = 0:=by omega
    subst hm0
    have hl0 : l = []:=List.eq_nil_of_length_eq_zero (by omega)
    subst hl0
    rw [h0] at h
    exact h
  · obtain ⟨g,cur,hA,hb,hs,ht,hB,_,_,_⟩:=h.blk h0
    rw [hA]
    have e1 : cellsR sz f l = cellsR sz f (l.take m) ++ cellsR sz f (l.drop m):=by rw [← xT,List.take_append_drop]
    have e2 : (cellsR sz f (l.take m)).length = m * sz:=by rw [lU,List.length_take,Nat.min_eq_left (by omega)]
    refine OwnR.of_blk hb hB (by rw [List.length_take,Nat.min_eq_left (by omega)]) (by omega) hcm hs ?_
    have h3 : m * sz ≤ n * sz:=Nat.mul_le_mul_right sz hm
    have h4 : cur.take (m * sz) = (cur.take (n * sz)).take (m * sz):=by rw [List.take_take,Nat.min_eq_left h3]
    rw [h4,ht,e1,← e2,List.take_left]
structure Only (G : Nat → Prop) (w w' : World) : Prop where
  os : w'.os = w.os
  tape : w'.tape = w.tape
  output : w'.output = w.output
  size : w.heap.size ≤ w'.heap.size
  block : ∀ k,k < w.heap.size → ¬ G k → w'.heap[k]? = w.heap[k]?
theorem Only.refl (G : Nat → Prop) (w : World) : Only G w w:=⟨rfl,rfl,rfl,Nat.le_refl _,fun _ _ _ => rfl⟩
theorem Only.trans {G : Nat → Prop} {w w1 w2 : World} (h : Only G w w1) (k : Only G w1 w2) : Only G w w2 :=
  ⟨k.os.trans h.os,k.tape.trans h.tape,k.output.trans h.output,Nat.le_trans h.size k.size,fun i hi hg => (k.block i (Nat.lt_of_lt_of_le hi h.size) hg).trans (h.block i hi hg)⟩
theorem Only.of_below {G : Nat → Prop} {w w' : World} (h : Below w.heap.size w w') : Only G w w':=⟨h.os,h.tape,h.output,h.size,fun k hk _ => h.block k hk⟩
theorem Only.of_grown {G : Nat → Prop} {w w' : World} {g : Nat} (h : w.grownBy w' (some g)) (hg : G g) : Only G w w':=⟨h.os,h.tape,h.output,h.size,fun k hk hn => h.block k hk (by intro e;cases e;exact hn hg)⟩
theorem Only.below {G : Nat → Prop} {w w' : World} {B : Nat} (h : Only G w w') (hB : B ≤ w.heap.size) (hG : ∀ k,G k → B ≤ k) : Below B w w' :=
  ⟨h.os,h.tape,h.output,h.size,fun k hk => h.block k (by omega) fun hg => by have:=hG k hg;omega⟩
theorem Only.cell {G : Nat → Prop} {w w' : World} (h : Only G w w') {p : Addr} (hp : p.block < w.heap.size) (hg : ¬ G p.block) : w'.cell? p = w.cell? p:=World.cell?_of_block (w:=w) (h.block _ hp hg)
theorem Only.blk {G : Nat → Prop} {w w' : World} {g : Nat} {t : TypeId} {cs : List Value} (h : Only G w w') (hk : Blk w g t cs) (hg : ¬ G g) : Blk w' g t cs:=by
  unfold Blk;rw [h.block g hk.lt hg];exact hk
theorem Row.only {α : Type} {f : α → Value} {G : Nat → Prop} {w w' : World} {B n : Nat} {A : Option Addr} {l : List α} (h : Row f w B A n l) (ho : Only G w w') (hB : B ≤ w.heap.size) (hg : ∀ ad,0 < n → A = some ad → ¬ G ad.block) : Row f w' B A n l :=
  ⟨h.len,fun hn => by
    obtain ⟨ad,e,hb,hc⟩:=h.cells hn
    exact ⟨ad,e,hb,fun k hlt => (ho.cell (by rw [add_block];omega) (by rw [add_block];exact hg ad hn e)).trans (hc k hlt)⟩⟩
structure GFact (G : Nat → Prop) where
  holds : Value → World → Prop
  stays : ∀ v w w',Only G w w' → holds v w → holds v w'
def GFact.any (G : Nat → Prop) : GFact G:=⟨fun _ _ => True,fun _ _ _ _ h => h⟩
def GFact.is {G : Nat → Prop} (c : Value) : GFact G:=⟨fun v _ => v = c,fun _ _ _ _ h => h⟩
def GFact.bytes {G : Nat → Prop} (bs : List Nat) : GFact G :=
  ⟨fun v w => ∃ A cap,v = .slice A bs.length cap ∧ Row byteV w w.heap.size A bs.length bs ∧ ∀ ad,A = some ad → ¬ G ad.block,
   fun _ _ _ hb ⟨A,cap,hv,hr,hg⟩ => ⟨A,cap,hv,(hr.only hb (Nat.le_refl _) fun ad _ e => hg ad e).more hb.size,hg⟩⟩
def ActPost (G : Nat → Prop) (J : Nat → World → Prop) (p : Nat) (D : List Deferred) (W : World) (o : Oper) (R : GFact G) : Exit → Act → World → Prop
  | .normal,a,w => a.defers = D ∧ Only G W w ∧ J p w ∧ R.holds (slotOf o a) w
  | _,_,_ => False
def gfactAt {G : Nat → Prop} (R : List (GFact G)) (i : Nat) : GFact G:=R.getD i (.any G)
def ggiven {G : Nat → Prop} (R : List (GFact G)) (W : World) (T : Act → Prop) : List (Nat × Nat) → Act → Prop
  | [],a => T a
  | p :: ps,a => ∀ v,(gfactAt R p.1).holds v W → ggiven R W T ps (a.put (some p.2) v)
theorem zJ {G : Nat → Prop} {R : List (GFact G)} {W : World} {T : Act → Prop} {a : Act} : ∀ (ps : List (Nat × Nat)) (b : Act),ggiven R W T ps b → (∀ p ∈ ps,(gfactAt R p.1).holds (a.tmps.getD p.2 undef) W) → T (fill a ps b)
  | [],_,h,_ => h
  | p :: ps,_,h,hp => zJ ps _ (h _ (hp p (List.mem_cons_self))) fun q hq => hp q (List.mem_cons_of_mem _ hq)
def phase (acts : List Nat) (listed : Array Bool) : Nat:=acts.countP fun j => listed.getD j false
def rank (acts : List Nat) (i : Nat) : Nat:=acts.countP fun j => decide (j < i)
def actsOk (l : List Oper) (acts : List Nat) : Bool:=acts.all fun i => decide (i < l.length) && acts.all fun j => decide (i ≤ j) || ((masks l).getD i 0).testBit j
section
variable {P : Program} {l : List Oper} {Q : Exit → Act → World → Prop} {a0 : Act} {w : World} {G : Nat → Prop} {R : List (GFact G)} {J : Nat → World → Prop} {acts : List Nat} {D : List (List (Nat × Nat))} {every : List (Nat × Nat)}
structure GInv (l : List Oper) (acts : List Nat) (J : Nat → World → Prop) (R : List (GFact G)) (a0 : Act) (w : World) (listed : Array Bool) (a : Act) (W : World) : Prop where
  size : listed.size = l.length
  ext : Only G w W
  ph : J (phase acts listed) W
  defs : a.defers = a0.defers
  tsz : a.tmps.size = a0.tmps.size
  got : ∀ j oj d,l.toArray[j]? = some oj → oj.dst = some d → listed.getD j false = true → (gfactAt R j).holds (a.tmps.getD d undef) W
  old : ∀ t,(∀ j oj,l.toArray[j]? = some oj → oj.dst = some t → listed.getD j false = false) → a.tmps[t]? = a0.tmps[t]?
  shut : ∀ j oj,l.toArray[j]? = some oj → listed.getD j false = true → ∀ e ∈ oj.after,Region.binds .any e = true → listed.getD e.on false = true
theorem uX (acts : List Nat) (listed : Array Bool) (i : Nat) (h : i ∉ acts) : phase acts (listed.setIfInBounds i true) = phase acts listed:=by
  unfold phase
  refine List.countP_congr fun j hj => ?_
  have : i ≠ j:=fun e => h (by rw [e];exact hj)
  rw [getD_set_ne false this]
theorem phase_at {acts : List Nat} {listed : Array Bool} {i : Nat} (hb : ∀ j ∈ acts,j < i → listed.getD j false = true) (ha : ∀ j ∈ acts,i ≤ j → listed.getD j false = false) : phase acts listed = rank acts i:=by
  unfold phase rank
  refine List.countP_congr fun j hj => ?_
  rcases Nat.lt_or_ge j i with h | h
  · rw [hb j hj h];simpa using h
  · rw [ha j hj h];simp;omega
theorem phase_next {acts : List Nat} {listed : Array Bool} {i : Nat} (hn : acts.Nodup) (hi : i ∈ acts) (hs : i < listed.size) (hf : listed.getD i false = false) : phase acts (listed.setIfInBounds i true) = phase acts listed + 1:=by
  unfold phase
  induction acts with
  | nil => cases hi
  | cons x r ih =>
    rw [List.nodup_cons] at hn
    rw [List.countP_cons,List.countP_cons]
    by_cases hx : x = i
    · subst hx
      have h1 : (listed.setIfInBounds x true).getD x false = true:=by simp [hs]
      have h2:=uX r listed x hn.1
      unfold phase at h2
      rw [h1,hf,h2];simp
    · have hir : i ∈ r:=by
        rcases List.mem_cons.1 hi with h | h
        · exact absurd h.symm hx
        · exact h
      rw [ih hn.2 hir,getD_set_ne false (Ne.symm hx)]
      omega
theorem act_ready (hok : ∀ i o,l[i]? = some o → ∀ e ∈ o.after,Region.binds .any e = true → e.on < i) (hacts : actsOk l acts = true) {listed : Array Bool} {a : Act} {W : World} {i : Nat} {o : Oper} (hi : l[i]? = some o) (ha : i ∈ acts)
    (h : GInv l acts J R a0 w listed a W) (hall : ∀ e ∈ o.after,Region.binds .any e = true → listed.getD e.on false = true) (hlf : listed.getD i false = false) : phase acts listed = rank acts i:=by
  have hshut : ∀ j oj,l[j]? = some oj → listed.getD j false = true → ∀ e ∈ oj.after,Region.binds .any e = true → listed.getD e.on false = true:=fun j oj hj => h.shut j oj (by simpa using hj)
  unfold actsOk at hacts
  have h1:=List.all_eq_true.1 hacts i ha
  rw [Bool.and_eq_true] at h1
  refine phase_at (fun j hj hlt => ?_) fun j hj hle => ?_
  · have h2:=List.all_eq_true.1 h1.2 j hj
    rw [Bool.or_eq_true] at h2
    rcases h2 with h2 | h2
    · have : i ≤ j:=by simpa using h2
      omega
    · exact lV hok hshut i o hi hall j h2
  · by_cases hij : j = i
    · rw [hij];exact hlf
    · cases hlj : listed.getD j false
      · rfl
      · exfalso
        have h2:=List.all_eq_true.1 hacts j hj
        rw [Bool.and_eq_true] at h2
        have hjl : j < l.length:=by simpa using h2.1
        have h3:=List.all_eq_true.1 h2.2 i ha
        rw [Bool.or_eq_true] at h3
        rcases h3 with h3 | h3
        · have : j ≤ i:=by simpa using h3
          omega
        · have hjo : l[j]? = some l[j]:=List.getElem?_eq_getElem hjl
          have:=lV hok hshut j _ hjo (hshut j _ hjo hlj) i h3
          rw [hlf] at this;cases this
theorem GInv.step {listed : Array Bool} {a : Act} {W W' : World} {i : Nat} {o : Oper} {v : Value} (h : GInv l acts J R a0 w listed a W) (hi : l.toArray[i]? = some o) (hok : OpOk l.toArray D every a0.tmps.size i o)
    (hr : i ∈ Region.ready .any l.toArray listed) (hb : Only G W W') (hph : J (phase acts (listed.setIfInBounds i true)) W') (hv : ∀ d,o.dst = some d → (gfactAt R i).holds v W') : GInv l acts J R a0 w (listed.setIfInBounds i true) (a.put o.dst v) W':=by
  obtain ⟨hl,o',ho',hall⟩:=mem_ready.1 hr
  have hoo : o' = o:=by rw [hi] at ho';cases ho';rfl
  subst hoo
  have hilt : i < l.length:=by have:=(Array.getElem?_eq_some_iff.1 hi).1;simpa using this
  have hii : (listed.setIfInBounds i true).getD i false = true:=by
    have : i < listed.size:=by rw [h.size];exact hilt
    simp [this]
  refine ⟨by simp [h.size],h.ext.trans hb,hph,(y2 _ _ _).trans h.defs,(zE _ _ _).trans h.tsz,fun j oj d hj hd hlj => ?_,fun t ht => ?_,fun j oj hj hlj e he hbe => ?_⟩
  · by_cases hji : j = i
    · subst hji
      have : oj = o':=by rw [hi] at hj;cases hj;rfl
      subst this
      have hlt:=(hok.dst d hd).1
      rw [hd]
      have e1 : (a.put (some d) v).tmps.getD d undef = v:=by
        have:=qP a d d v
        rw [if_pos ⟨rfl,by rw [h.tsz];exact hlt⟩] at this
        simp [Array.getD_eq_getD_getElem?,this]
      rw [e1]
      exact hv d hd
    · have h1:=h.got j oj d hj hd (by rw [getD_set_ne false (Ne.symm hji)] at hlj;exact hlj)
      have e1 : (a.put o'.dst v).tmps.getD d undef = a.tmps.getD d undef:=by
        cases hod : o'.dst with
        | none => rfl
        | some d' =>
          have hne : d' ≠ d:=fun e => (hok.dst d' hod).2.2 j oj hj hji (by rw [e];exact hd)
          have:=qP a d' d v
          rw [if_neg (fun hh => hne hh.1)] at this
          simp [Array.getD_eq_getD_getElem?,this]
      rw [e1]
      exact (gfactAt R j).stays _ _ _ hb h1
  · have h1:=h.old t fun j oj hj hd => by
      have:=ht j oj hj hd
      by_cases hji : j = i
      · subst hji;rw [hii] at this;cases this
      · rwa [getD_set_ne false (Ne.symm hji)] at this
    cases hod : o'.dst with
    | none => exact h1
    | some d' =>
      have hne : d' ≠ t:=fun e => by
        have:=ht i o' hi (by rw [hod,e])
        rw [hii] at this;cases this
      rw [qP,if_neg (fun hh => hne hh.1)]
      exact h1
  · by_cases hji : j = i
    · subst hji
      have : oj = o':=by rw [hi] at hj;cases hj;rfl
      subst this
      exact getD_set_true (hall e he hbe)
    · rw [getD_set_ne false (Ne.symm hji)] at hlj
      exact getD_set_true (h.shut j oj hj hlj e he hbe)
theorem act_one {listed : Array Bool} {a : Act} {W : World} {K : Act → World → Prop} {i : Nat} {o : Oper} (hi : l.toArray[i]? = some o) (ok : OpOk l.toArray D every a0.tmps.size i o)
    (hob : ggiven R W (fun a1 => wpList P l.toArray (ActPost G J (phase acts (listed.setIfInBounds i true)) a0.defers W o (gfactAt R i)) [o] a1 W) (D.getD i []) a0)
    (h : GInv l acts J R a0 w listed a W) (hr : i ∈ Region.ready .any l.toArray listed) (hK : ∀ a' W',GInv l acts J R a0 w (listed.setIfInBounds i true) a' W' → K a' W') : wpOp P l.toArray Q i K a W:=by
  obtain ⟨hl,o',hi',hall'⟩:=mem_ready.1 hr
  have hall : ∀ e ∈ o.after,Region.binds .any e = true → listed.getD e.on false = true:=by
    rw [hi] at hi';cases hi';exact hall'
  have hlf : listed.getD i false = false:=by
    have : i < listed.size:=by rw [h.size];exact (by have:=(Array.getElem?_eq_some_iff.1 hi).1;simpa using this)
    simp [this] at hl ⊢;exact hl
  have hg:=zJ (a:=a) (D.getD i []) a0 hob fun p hp => by
    obtain ⟨⟨oj,hj,hd⟩,e,he,hb,hon⟩:=ok.deps p hp
    exact h.got p.1 oj p.2 hj hd (by rw [← hon];exact hall e he hb)
  generalize ha1 : fill a (D.getD i []) a0 = a1 at hg
  have agree : ∀ t ∈ o.looksAt l.toArray,a.tmps[t]? = a1.tmps[t]?:=by
    intro t ht
    rw [← ha1,xF]
    by_cases hc : t ∈ (D.getD i []).map (·.2) ∧ t < a0.tmps.size
    · rw [if_pos hc,y7 a t (by rw [h.tsz];exact hc.2)]
    · rw [if_neg hc]
      by_cases htl : t < a0.tmps.size
      · refine h.old t fun j oj hj hd => ?_
        rcases ok.looks t ht j oj hj hd with hin | ⟨e,he,hb,hon⟩
        · exact absurd ⟨List.mem_map.2 ⟨(j,t),hin,rfl⟩,htl⟩ hc
        · cases hlj : listed.getD j false
          · rfl
          · have:=h.shut j oj hj hlj e he hb
            rw [hon,hlf] at this;cases this
      · have n1 : a.tmps[t]? = none:=Array.getElem?_eq_none (by rw [h.tsz];exact Nat.le_of_not_lt htl)
        have n2 : a0.tmps[t]? = none:=Array.getElem?_eq_none (Nat.le_of_not_lt htl)
        rw [n1,n2]
  have hex : execOp a1.eval o = execOp a.eval o:=execOp_congr o ok.sel fun x hx => by
    cases x with
    | tmp t =>
      have:=agree t (List.mem_append_left _ (List.mem_filterMap.2 ⟨.tmp t,by simpa using hx,rfl⟩))
      simp [Act.eval,Array.getD_eq_getD_getElem?,this]
    | _ => rfl
  have hwt : Region.wanted o (yielded l.toArray a1.tmps) = Region.wanted o (yielded l.toArray a.tmps):=by
    unfold Region.wanted
    cases hgd : o.guard with
    | none => rfl
    | some gw =>
      obtain ⟨g,want⟩:=gw
      have hy : yielded l.toArray a1.tmps g = yielded l.toArray a.tmps g:=by
        unfold yielded
        cases ht : (l.toArray[g]?).bind (·.dst) with
        | none => rfl
        | some t =>
          have ht2 : (l[g]?.bind fun x => x.dst) = some t:=by simpa using ht
          have:=agree t (by simp [Oper.looksAt,hgd,ht2])
          simp [this]
      simp only [hy]
  have hsl : ∀ v d,o.dst = some d → slotOf o (a1.put o.dst v) = v:=by
    intro v d hd
    have hlt:=(ok.dst d hd).1
    have:=qP a1 d d v
    rw [if_pos ⟨rfl,by rw [← ha1,zR];exact hlt⟩] at this
    simp [slotOf,hd,Array.getD_eq_getD_getElem?,this]
  have done : ∀ v W',ActPost G J (phase acts (listed.setIfInBounds i true)) a0.defers W o (gfactAt R i) .normal (a1.put o.dst v) W' → K (a.put o.dst v) W':=by
    rintro v W' ⟨_,hb,hph,hv⟩
    refine hK _ _ (h.step hi ok hr hb hph fun d hd => ?_)
    rw [hsl v d hd] at hv
    exact hv
  unfold wpOp
  simp only [hi]
  rw [← hwt]
  unfold wpList at hg
  by_cases hw : Region.wanted o (yielded l.toArray a1.tmps) = true
  · rw [if_pos hw] at hg ⊢
    rcases hg with hg | ⟨_,_,_,hf⟩
    case inr => exact hf.elim
    refine .inl ?_
    unfold Oper.wp at hg ⊢
    rw [hex] at hg
    generalize (execOp a.eval o).run P W = r at *
    cases r with
    | ok n w' =>
      cases n <;> simp only [Oper.upon] at hg ⊢
      case value v => exact done v w' hg
      case skip => exact done undef w' hg
      case defer d =>
        obtain ⟨hd,_⟩:=hg
        rw [y2] at hd
        have e1 : a1.defers = a0.defers:=by rw [← ha1];exact qR _ _ _
        simp only [e1] at hd
        exact absurd hd (by simp)
      case enter f args =>
        refine Calls.mono hg fun e w'' he => ?_
        cases e with
        | returned v => exact done v w'' he
        | panicked c => exact he.elim
        | outgrown => obtain ⟨_,_,hf⟩:=he;exact hf.elim
      case row row args => exact Rows.mono hg fun v w'' he => done v w'' he
    | halt x w' =>
      cases x <;> simp only [Oper.upon] at hg ⊢
      case panic v => exact hg.elim
  · rw [if_neg hw] at hg ⊢
    exact done undef W hg
theorem acts_any (hacts : ∀ i ∈ acts,i < l.length) (hok : ∀ i o,l.toArray[i]? = some o → OpOk l.toArray D every a0.tmps.size i o) (hev : ∀ p ∈ every,∃ oj,l.toArray[p.1]? = some oj ∧ oj.dst = some p.2)
    (hob : ∀ i o,l.toArray[i]? = some o → ∀ (listed : Array Bool) a W,GInv l acts J R a0 w listed a W → i ∈ Region.ready .any l.toArray listed → ggiven R W (fun a1 => wpList P l.toArray (ActPost G J (phase acts (listed.setIfInBounds i true)) a0.defers W o (gfactAt R i)) [o] a1 W) (D.getD i []) a0)
    (hend : ∀ W,Only G w W → J acts.length W → ggiven R W (fun a => Q .normal a W) every a0) :
    ∀ (fuel : Nat) (listed : Array Bool) (a : Act) (W : World),GInv l acts J R a0 w listed a W → listed.toList.count false ≤ fuel → wpAny P .any l.toArray Q fuel listed a W:=by
  have phase_all : ∀ {listed : Array Bool},(∀ j,j < l.toArray.size → listed.getD j false = true) → phase acts listed = acts.length:=by
    intro listed hall
    unfold phase
    exact List.countP_eq_length.2 fun j hj => hall j (by simpa using hacts j hj)
  have fin : ∀ (listed : Array Bool) (a : Act) (W : World),GInv l acts J R a0 w listed a W → (∀ j,j < l.toArray.size → listed.getD j false = true) → Q .normal a W:=by
    intro listed a W h hall
    have h1:=zJ (a:=a) every a0 (hend W h.ext (by have:=h.ph;rwa [phase_all hall] at this)) fun p hp => by
      obtain ⟨oj,hj,hd⟩:=hev p hp
      exact h.got p.1 oj p.2 hj hd (hall p.1 (Array.getElem?_eq_some_iff.1 hj).1)
    have e1 : fill a every a0 = a:=by
      have e2 : (fill a every a0).tmps = a.tmps:=by
        apply Array.ext_getElem?
        intro t
        rw [xF]
        by_cases hc : t ∈ every.map (·.2) ∧ t < a0.tmps.size
        · rw [if_pos hc,y7 a t (by rw [h.tsz];exact hc.2)]
        · rw [if_neg hc]
          by_cases ht : t < a0.tmps.size
          · refine (h.old t fun j oj hj hd => ?_).symm
            exfalso
            exact hc ⟨List.mem_map.2 ⟨(j,t),((hok j oj hj).dst t hd).2.1,rfl⟩,ht⟩
          · rw [Array.getElem?_eq_none (by omega),Array.getElem?_eq_none (by rw [h.tsz];omega)]
      have e3:=(qR a every a0).trans h.defs.symm
      cases hf : fill a every a0
      cases a
      rw [hf] at e2 e3
      simp only at e2 e3
      rw [e2,e3]
    rw [e1] at h1
    exact h1
  have one : ∀ (fuel : Nat) (listed : Array Bool) (a : Act) (W : World) (K : Act → World → Prop) (i : Nat),GInv l acts J R a0 w listed a W → i ∈ Region.ready .any l.toArray listed →
      (∀ a' W',GInv l acts J R a0 w (listed.setIfInBounds i true) a' W' → K a' W') → wpOp P l.toArray Q i K a W:=by
    intro fuel listed a W K i h hr hK
    obtain ⟨_,o,hi,_⟩:=mem_ready.1 hr
    exact act_one hi (hok i o hi) (hob i o hi listed a W h hr) h hr hK
  intro fuel
  induction fuel with
  | zero =>
    intro listed a W h hc
    have hall : ∀ j,j < l.toArray.size → listed.getD j false = true:=by
      intro j hj
      have hn : false ∉ listed.toList:=List.count_eq_zero.1 (by omega)
      have hjl : j < listed.size:=by rw [h.size];simpa using hj
      cases hb : listed[j]
      · exact absurd (by rw [← hb];exact Array.getElem_mem_toList hjl) hn
      · simp [hjl,hb]
    refine ⟨?_,fin _ _ _ h hall⟩
    cases hr : Region.ready .any l.toArray listed with
    | nil => rfl
    | cons x xs =>
      have hx : x ∈ Region.ready .any l.toArray listed:=by rw [hr];exact List.mem_cons_self
      obtain ⟨hl,o,hi,_⟩:=mem_ready.1 hx
      have hlt : x < l.toArray.size:=(Array.getElem?_eq_some_iff.1 hi).1
      have:=hall x hlt
      have hxl : x < listed.size:=by rw [h.size];simpa using hlt
      simp [hxl] at hl this
      rw [hl] at this;cases this
  | succ fuel ih =>
    intro listed a W h hc
    refine ⟨fun hr => fin _ _ _ h (xW hok (by simpa using h.size) hr),fun i hi => one fuel listed a W _ i h hi fun a' W' h' => ih _ _ _ h' ?_⟩
    obtain ⟨hl,o,ho,_⟩:=mem_ready.1 hi
    have hil : i < listed.size:=by rw [h.size];have:=(Array.getElem?_eq_some_iff.1 ho).1;simpa using this
    have:=qX listed.toList i (by
      simp [hil] at hl ⊢;exact hl)
    rw [Array.toList_setIfInBounds]
    omega
def phs (l : List (World → Prop)) (p : Nat) (W : World) : Prop:=l.getD p (fun _ => True) W
end
theorem j9 {G : Nat → Prop} {J : Nat → World → Prop} {p : Nat} {D : List Deferred} {W : World} {o : Oper} {d : Nat} {c : Value} {a : Act} (ho : o.dst = some d) (hs : a.tmps.toList[d]? = some c) (hd : a.defers = D) (hj : J p W) : ActPost G J p D W o (GFact.is c) .normal a W:=by
  refine ⟨hd,Only.refl _ _,hj,?_⟩
  show slotOf o a = c
  have h : a.tmps[d]? = some c:=by simpa using hs
  simp [slotOf,ho,Array.getD_eq_getD_getElem?,h]
theorem lK {G : Nat → Prop} {J : Nat → World → Prop} {p : Nat} {D : List Deferred} {W W' : World} {o : Oper} {d : Nat} {c : Value} {R : GFact G} {a : Act} (ho : o.dst = some d) (hs : a.tmps.toList[d]? = some c) (hd : a.defers = D) (hb : Only G W W') (hj : J p W') (hr : R.holds c W') : ActPost G J p D W o R .normal a W':=by
  refine ⟨hd,hb,hj,?_⟩
  have h : a.tmps[d]? = some c:=by simpa using hs
  simp only [slotOf,ho,Array.getD_eq_getD_getElem?,h,Option.getD_some]
  exact hr
def earlyOk (l : List Oper) (acts E : List Nat) : Bool:=acts.all fun a => decide (a < l.length) && E.all fun i => ((masks l).getD a 0).testBit i
section
variable {P : Program} {l : List Oper} {Q : Exit → Act → World → Prop} {a0 : Act} {w : World} {G : Nat → Prop} {R : List (GFact G)} {J : Nat → World → Prop} {acts E : List Nat} {D : List (List (Nat × Nat))} {every : List (Nat × Nat)}
theorem Y3 (hok : ∀ i o,l[i]? = some o → ∀ e ∈ o.after,Region.binds .any e = true → e.on < i) (he : earlyOk l acts E = true) {listed : Array Bool} {a : Act} {W : World} {i : Nat} (hi : i ∈ E)
    (h : GInv l acts J R a0 w listed a W) (hlf : listed.getD i false = false) : phase acts listed = 0:=by
  unfold phase
  refine List.countP_eq_zero.2 fun j hj => ?_
  intro hlj
  have h1:=List.all_eq_true.1 he j hj
  rw [Bool.and_eq_true] at h1
  have hjl : j < l.length:=by simpa using h1.1
  have h2:=List.all_eq_true.1 h1.2 i hi
  have hshut : ∀ j oj,l[j]? = some oj → listed.getD j false = true → ∀ e ∈ oj.after,Region.binds .any e = true → listed.getD e.on false = true:=fun j oj hj => h.shut j oj (by simpa using hj)
  have hjo : l[j]? = some l[j]:=List.getElem?_eq_getElem hjl
  have:=lV hok hshut j _ hjo (hshut j _ hjo hlj) i h2
  rw [hlf] at this;cases this
def eobs (P : Program) (ops : Array Oper) (acts E : List Nat) (J : Nat → World → Prop) (R : List (GFact G)) (D : List (List (Nat × Nat))) (w : World) (a0 : Act) : Nat → List Oper → Prop
  | _,[] => True
  | i,o :: r => (if acts.contains i then ∀ W,Only G w W → J (rank acts i) W → ggiven R W (fun a1 => wpList P ops (ActPost G J (rank acts i + 1) a0.defers W o (gfactAt R i)) [o] a1 W) (D.getD i []) a0
      else if E.contains i then ∀ W,Only G w W → J 0 W → ggiven R W (fun a1 => wpList P ops (ActPost G J 0 a0.defers W o (gfactAt R i)) [o] a1 W) (D.getD i []) a0
      else ∀ p W,Only G w W → J p W → ggiven R W (fun a1 => wpList P ops (ActPost G J p a0.defers W o (gfactAt R i)) [o] a1 W) (D.getD i []) a0) ∧ eobs P ops acts E J R D w a0 (i + 1) r
theorem eobs_at {ops : Array Oper} : ∀ (l : List Oper) (k : Nat),eobs P ops acts E J R D w a0 k l → ∀ j o,l[j]? = some o →
    if acts.contains (k + j) then ∀ W,Only G w W → J (rank acts (k + j)) W → ggiven R W (fun a1 => wpList P ops (ActPost G J (rank acts (k + j) + 1) a0.defers W o (gfactAt R (k + j))) [o] a1 W) (D.getD (k + j) []) a0
      else if E.contains (k + j) then ∀ W,Only G w W → J 0 W → ggiven R W (fun a1 => wpList P ops (ActPost G J 0 a0.defers W o (gfactAt R (k + j))) [o] a1 W) (D.getD (k + j) []) a0
      else ∀ p W,Only G w W → J p W → ggiven R W (fun a1 => wpList P ops (ActPost G J p a0.defers W o (gfactAt R (k + j))) [o] a1 W) (D.getD (k + j) []) a0
  | [],_,_,j,o,h => by simp at h
  | x :: l,k,ho,0,o,h => by
    simp at h;subst h
    exact ho.1
  | x :: l,k,ho,j + 1,o,h => by
    have:=eobs_at l (k + 1) ho.2 j o (by simpa using h)
    rw [show k + (j + 1) = k + 1 + j by omega]
    exact this
theorem xS {ops : Array Oper} {i : Nat} : eobs P ops acts E J R D w a0 i []:=trivial
theorem lA {ops : Array Oper} {i : Nat} {o : Oper} {r : List Oper} (hn : acts.contains i = false) (he : E.contains i = false) (h : ∀ p W,Only G w W → J p W → ggiven R W (fun a1 => wpList P ops (ActPost G J p a0.defers W o (gfactAt R i)) [o] a1 W) (D.getD i []) a0) (hr : eobs P ops acts E J R D w a0 (i + 1) r) : eobs P ops acts E J R D w a0 i (o :: r) :=
  ⟨by rw [if_neg (by rw [hn];decide),if_neg (by rw [he];decide)];exact h,hr⟩
theorem j7 {ops : Array Oper} {i : Nat} {o : Oper} {r : List Oper} (hn : acts.contains i = false) (he : E.contains i = true) (h : ∀ W,Only G w W → J 0 W → ggiven R W (fun a1 => wpList P ops (ActPost G J 0 a0.defers W o (gfactAt R i)) [o] a1 W) (D.getD i []) a0) (hr : eobs P ops acts E J R D w a0 (i + 1) r) : eobs P ops acts E J R D w a0 i (o :: r) :=
  ⟨by rw [if_neg (by rw [hn];decide),if_pos he];exact h,hr⟩
theorem lR {ops : Array Oper} {i : Nat} {o : Oper} {r : List Oper} (q : Nat) (hq : rank acts i = q) (hn : acts.contains i = true) (h : ∀ W,Only G w W → J q W → ggiven R W (fun a1 => wpList P ops (ActPost G J (q + 1) a0.defers W o (gfactAt R i)) [o] a1 W) (D.getD i []) a0) (hr : eobs P ops acts E J R D w a0 (i + 1) r) : eobs P ops acts E J R D w a0 i (o :: r) :=
  ⟨by rw [if_pos hn,hq];exact h,hr⟩
theorem lY {id : Nat} (G : Nat → Prop) (acts E : List Nat) (J : Nat → World → Prop) (R : List (GFact G)) (D : List (List (Nat × Nat))) (every : List (Nat × Nat)) (hm : P.follows .mixedOrders = true) (hok : partsOk l.toArray D every a0.tmps.size = true)
    (hacts : actsOk l acts = true) (hearly : earlyOk l acts E = true) (hnd : acts.Nodup) (h0 : J 0 w.drew) (hob : eobs P l.toArray acts E J R D w a0 0 l) (hend : ∀ W,Only G w W → J acts.length W → ggiven R W (fun a => Q .normal a W) every a0) : (Code.region id l.toArray true).wp P Q a0 w:=by
  unfold partsOk at hok
  simp only [Bool.and_eq_true] at hok
  have ok : ∀ i o,l.toArray[i]? = some o → OpOk l.toArray D every a0.tmps.size i o:=fun i o hi => OpOk.of (by
    have:=List.all_eq_true.1 hok.1 i (List.mem_range.2 (Array.getElem?_eq_some_iff.1 hi).1)
    rw [hi] at this
    exact this)
  have hev : ∀ p ∈ every,∃ oj,l.toArray[p.1]? = some oj ∧ oj.dst = some p.2:=fun p hp => by
    have:=List.all_eq_true.1 hok.2 p hp
    obtain ⟨oj,h6,h7⟩:=Option.bind_eq_some_iff.1 (beq_iff_eq.1 this)
    exact ⟨oj,h6,h7⟩
  have hacts2 : ∀ i ∈ acts,i < l.length:=fun i hi => by
    have:=List.all_eq_true.1 hacts i hi
    rw [Bool.and_eq_true] at this
    simpa using this.1
  have hback : ∀ i o,l[i]? = some o → ∀ e ∈ o.after,Region.binds .any e = true → e.on < i:=fun i o hi => (ok i o (by simpa using hi)).back
  refine wp_region_any hm (acts_any hacts2 ok hev (fun i o hi listed a W h hr => ?_) hend l.toArray.size _ a0 _ ⟨by simp,⟨rfl,rfl,rfl,Nat.le_refl _,fun _ _ _ => rfl⟩,?_,rfl,rfl,fun j oj d hj _ hl => ?_,fun _ _ => rfl,fun j oj hj hl => ?_⟩ (by simp))
  · have h1:=eobs_at l 0 hob i o (by simpa using hi)
    rw [Nat.zero_add] at h1
    obtain ⟨hl,o',hi',hall'⟩:=mem_ready.1 hr
    have hall : ∀ e ∈ o.after,Region.binds .any e = true → listed.getD e.on false = true:=by
      rw [hi] at hi';cases hi';exact hall'
    have hilt : i < listed.size:=by rw [h.size];have:=(Array.getElem?_eq_some_iff.1 hi).1;simpa using this
    have hlf : listed.getD i false = false:=by
      simp [hilt] at hl ⊢;exact hl
    by_cases ha : i ∈ acts
    · rw [if_pos (by simpa using ha)] at h1
      have hp:=act_ready hback hacts (by simpa using hi) ha h hall hlf
      rw [phase_next hnd ha hilt hlf,hp]
      exact h1 W h.ext (by rw [← hp];exact h.ph)
    · rw [if_neg (by simpa using ha)] at h1
      rw [uX acts listed i ha]
      by_cases hE : i ∈ E
      · rw [if_pos (by simpa using hE)] at h1
        have hp0:=Y3 hback hearly hE h hlf
        rw [hp0]
        exact h1 W h.ext (by rw [← hp0];exact h.ph)
      · rw [if_neg (by simpa using hE)] at h1
        exact h1 _ W h.ext h.ph
  · have : phase acts (Array.replicate l.toArray.size false) = 0:=by
      unfold phase
      refine List.countP_eq_zero.2 fun j hj => ?_
      have:=hacts2 j hj
      simp [this]
    rw [this];exact h0
  all_goals
    exfalso
    have hlt : j < l.toArray.size:=(Array.getElem?_eq_some_iff.1 hj).1
    have hlt2 : j < l.length:=by simpa using hlt
    simp [hlt2] at hl
end
theorem qL {G : Nat → Prop} {J : Nat → World → Prop} {p : Nat} {D : List Deferred} {W W' : World} {o : Oper} {a : Act} (hd : a.defers = D) (hb : Only G W W') (hj : J p W') : ActPost G J p D W o (GFact.any G) .normal a W':=⟨hd,hb,hj,trivial⟩
theorem Only.set {G : Nat → Prop} {W : World} {g k : Nat} {v : Value} (hg : G g) : Only G W (W.setCell ⟨g,k,none⟩ v):=Only.of_grown (g:=g) (uN (yR _ _)) hg
end Go.Proofs.Ytnaomfmmkhgbhaa
