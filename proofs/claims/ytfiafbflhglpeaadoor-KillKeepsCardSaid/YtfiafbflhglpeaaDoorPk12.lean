/- SemP4, SemOwn, SemSt, TextStep, SemP7, SemP8. -/
import Derived.Test.YtfiafbflhglpeaaDoorPk11
import Derived.Test.YtfiafbflhglpeaaDoorPk6
import Derived.Maps.AppendAt
import Derived.Test.YtfiafbflhglpeaaDoorPk7
import Derived.Test.YtfiafbflhglpeaaDoorPk3
namespace Go.Proofs.YtfiafbflhglpeaaDoor
open Go.RowKit
theorem JC : (Tryd.prog.info? 45).map (·.size) = some 16:=by kernel_rfl
theorem j9 : (Tryd.prog.info? 47).map (·.size) = some 17:=by kernel_rfl
theorem vM {o : List Nat} (h16 : o.length = 16) {k : Nat} (hk : k < 16) : (o.map natV)[k]? = some (.int .i64 (o.getD k 0 : Int)):=by
  rw [List.getElem?_map,List.getElem?_eq_getElem (by omega),List.getD_eq_getElem?_getD,List.getElem?_eq_getElem (by omega)];rfl
set_option maxRecDepth 100000 in
set_option maxHeartbeats 1600000 in
theorem J7 (q : Pc) (w : World) (hl : q.tvs.length = q.len) (h8 : q.len ≤ 8) (h16 : q.ow.length = 16) (how : ∀ o ∈ q.ow,o ≤ 8) (t : Int) (ht : I64 t) (m : Nat) (hm : M.held q.cf t = m) :
    Calls Tryd.prog 20 #[pcA q,.int .i64 t] w fun e w' => e = .returned (.int .u32 (m : Int)) ∧ Below w.heap.size w w':=by
  have HT:=kp ht
  have HLc : Kept (I64 (q.len : Int)):=kp (by unfold I64;omega)
  have hm2 : (if 0 ≤ t ∧ t < (q.len : Int) then M.heldTo q.ow t.toNat 16 else 0) = m:=by rw [← hm];unfold M.held;rw [q.ths_len,hl];rfl
  by_cases hin : 0 ≤ t ∧ t < (q.len : Int)
  · rw [if_pos hin] at hm2
    obtain ⟨k,rfl⟩ : ∃ k : Nat,t = (k : Int):=⟨t.toNat,by omega⟩
    rw [Int.toNat_natCast] at hm2
    have hk : k < 8:=by omega
    have HIn:=kp (decide_eq_true hin)
    have HM:=kp hm2;have H16:=kp h16;have HOw:=kp how
    obtain ⟨ow,how2⟩ : ∃ ow,q.ow = ow:=⟨_,rfl⟩
    have hE : pcC q = .slice q.A q.len q.cap :: ow.map natV:=by unfold pcC;rw [how2]
    rw [how2] at HM H16 HOw
    unfold pcA
    rw [hE]
    have hcl : (Value.slice q.A q.len q.cap :: ow.map natV).length = 17:=by simp [H16.out]
    have hol : (ow.map natV).length = 16:=by simp [H16.out]
    have HCl:=kp hcl;have HOl:=kp hol
    have HS : Kept (∀ i : Nat,i < 16 → I64 (i : Int)):=kp fun i hi => by unfold I64;omega
    clear hm hm2 h16 how how2 hE hl hin ht hcl hol
    go_enter Tryd.func20,Tryd.ntmps20
    go_wp2_with (first
      | ((with_reducible refine j4 rfl 47 (.tmp 0) rfl (.slice q.A q.len q.cap :: ow.map natV) rfl ?_);intro g1 w1 hg1 hk1 hw1;have HW1:=kp hw1;have hf0:=hk1.cell 0;simp only [List.getElem?_cons_zero] at hf0
         have HR1 : Kept (w1.rangeAt g1 1 (ow.map natV)):=kp (by have h:=hk1.range 1 16;rw [List.drop_succ_cons,List.drop_zero,List.take_of_length_le (Nat.le_of_eq HOl.out)] at h;exact h)
         clear hk1 hw1)
      | ((with_reducible show Sl 16);go_must (refine wpList_load_mid rfl 45 (.tmp 15) rfl g1 1 rfl (ow.map natV) _ HR1.out Tryd.underlying45 rfl (by rw [HOl.out];exact JC) ?_))
      | (go_at_call 37;go_must (refine (qA _ _ HT.out HLc.out true HIn.out _).mono ?_);rintro e w2 ⟨rfl,rfl⟩))
    clear hf0
    go_loop [5,17] (fun v5 v17 => ∃ i : Nat,i ≤ 16 ∧ v17 = .int .i64 i ∧ v5 = .int .u32 (M.heldTo ow k i : Int)) (fun _ v17 => 16 - (intOf v17).toNat)
    case atStart => exact ⟨0,by omega,rfl,rfl⟩
    case round =>
      obtain ⟨i,hi,rfl,rfl⟩:=hrel
      by_cases hlt : i < 16
      · have hoc:=vM H16.out hlt
        have HOc:=kp hoc
        have ho8 : ow.getD i 0 ≤ 8:=by rw [List.getD_eq_getElem?_getD,List.getElem?_eq_getElem (by rw [H16.out];exact hlt)];exact HOw.out _ (List.getElem_mem _)
        have HN : Kept (M.heldTo ow k (i + 1) = if ow.getD i 0 = k + 1 then M.heldTo ow k i ||| 2 ^ i else M.heldTo ow k i):=kp rfl
        have hlim:=M.held_lt ow k i
        have hp2 : 2 ^ i ≤ 2 ^ 15:=Nat.pow_le_pow_right (by decide) (by omega)
        obtain ⟨o,ho⟩ : ∃ o,ow.getD i 0 = o:=⟨_,rfl⟩
        obtain ⟨mm,hmm⟩ : ∃ mm,M.heldTo ow k i = mm:=⟨_,rfl⟩
        rw [ho] at HOc ho8 HN
        rw [hmm] at HN hlim ⊢
        have HOne : Kept (S.one (i : Int) = 2 ^ i):=kp (S.one_nat i (by omega))
        obtain ⟨pw,hpw⟩ : ∃ pw,2 ^ i = pw:=⟨_,rfl⟩
        rw [hpw] at HN HOne hp2
        have hmlt : mm < 65536:=by
          have : 2 ^ i ≤ 2 ^ 15:=Nat.pow_le_pow_right (by decide) (by omega)
          omega
        have HBits : Kept (bits .or .u32 (mm : Int) (pw : Int) = ((mm ||| pw : Nat) : Int)):=kp (u32_or_nat mm pw (by omega) (by omega))
        have HMk:=kp (by omega : k ≤ 1000)
        have HI:=kp (HS.out i hlt)
        clear hoc ho hmm hlim hp2 hpw
        by_cases hok : o = k + 1
        · rw [if_pos hok] at HN
          have hoe : ((o : Int) == ((k + 1 : Nat) : Int)) = true:=by rw [beq_iff_eq];omega
          clear hok
          go_wp2_with (first
            | ((with_reducible show Sl 20);go_must (refine lW rfl 45 (.tmp 16) (.tmp 17) rfl 16 3 Tryd.underlying45 _ Tryd.underlying3 rfl qN (ow.map natV) rfl i rfl hlt _ HOc.out ?_))
            | (go_at_call 38;go_must (refine (xO k HMk.out _).mono ?_);rintro e w2 ⟨rfl,rfl⟩)
            | (go_at_call 25;go_must (refine (qL (i : Int) HI.out pw HOne.out _).mono ?_);rintro e w2 ⟨rfl,rfl⟩))
          go_round
          case rel => exact ⟨i + 1,by omega,by go_num,by rw [HN.out,HBits.out]⟩
          case measure => simp [intOf];omega
        · rw [if_neg hok] at HN
          have hoe : ((o : Int) == ((k + 1 : Nat) : Int)) = false:=by rw [beq_eq_false_iff_ne];omega
          clear hok
          go_wp2_with (first
            | ((with_reducible show Sl 20);go_must (refine lW rfl 45 (.tmp 16) (.tmp 17) rfl 16 3 Tryd.underlying45 _ Tryd.underlying3 rfl qN (ow.map natV) rfl i rfl hlt _ HOc.out ?_))
            | (go_at_call 38;go_must (refine (xO k HMk.out _).mono ?_);rintro e w2 ⟨rfl,rfl⟩))
          go_round
          case rel => exact ⟨i + 1,by omega,by go_num,by rw [HN.out]⟩
          case measure => simp [intOf];omega
      · have he : i = 16:=by omega
        subst he
        have HM2:=kp HM.out
        go_wp2
        go_ret
        exact ⟨l4 (by rw [HM2.out]),HW1.out⟩
  · rw [if_neg hin] at hm2
    subst hm2
    have HIn:=kp (decide_eq_false hin)
    clear hm hl how ht hin
    go_enter Tryd.func20,Tryd.ntmps20
    go_wp2_with (first
      | ((with_reducible refine j4 rfl 47 (.tmp 0) rfl (pcC q) rfl ?_);intro g1 w1 hg1 hk1 hw1;have HW1:=kp hw1;have hf0:=hk1.cell 0;simp only [pcC,List.getElem?_cons_zero] at hf0;clear hk1 hw1)
      | (go_at_call 37;go_must (refine (qA _ _ HT.out HLc.out false HIn.out _).mono ?_);rintro e w2 ⟨rfl,rfl⟩))
    go_ret
    exact ⟨rfl,HW1.out⟩
section
variable {α : Type} {sz : Nat} {f : α → Nat → Value} {w w' : World} {B : Nat} {e : TypeId} {l : List α}
theorem OwnR.blk {A : Option Addr} {n cap : Nat} (h : OwnR sz f w B e (.slice A n cap) l) (h0 : 0 < n) :
    ∃ g cur,A = some ⟨g,0,none⟩ ∧ Blk w g e cur ∧ cur.length = cap * sz ∧ cur.take (n * sz) = cellsR sz f l ∧ B ≤ g ∧ n ≤ cap ∧ cap ≤ maxLen ∧ l.length = n:=by
  rcases h.2 with ⟨hv,hz⟩ | ⟨g,cap',cur,hv,hB,hg,hn,hm,hs,ht⟩
  · injection hv with _ e2 _;omega
  · injection hv with e1 e2 e3
    subst e1 e3
    rw [← e2] at hn ht
    exact ⟨g,cur.toList,rfl,by unfold Blk;simpa using hg,by simpa using hs,ht,hB,hn,hm,e2.symm⟩
theorem OwnR.of_blk {g n cap : Nat} {cur : List Value} (hb : Blk w g e cur) (hB : B ≤ g) (hl : l.length = n) (hn : n ≤ cap) (hm : cap ≤ maxLen) (hs : cur.length = cap * sz) (ht : cur.take (n * sz) = cellsR sz f l) : OwnR sz f w B e (.slice (some ⟨g,0,none⟩) n cap) l:=by
  subst hl
  exact ⟨lK sz f l,.inr ⟨g,cap,cur.toArray,rfl,hB,hb,hn,hm,by simpa using hs,by simpa using ht⟩⟩
theorem OwnR.len_is {A : Option Addr} {n cap : Nat} (h : OwnR sz f w B e (.slice A n cap) l) : l.length = n ∧ n ≤ cap ∧ cap ≤ maxLen:=by
  obtain ⟨A',c',hv,h1,h2,_⟩:=h.form
  injection hv with _ e2 e3
  omega
theorem OwnR.recs {A : Option Addr} {n cap : Nat} (h : OwnR sz f w B e (.slice A n cap) l) : Recs sz f w w.heap.size A n l:=by
  obtain ⟨A',c',hv,h1,h2,h3⟩:=h.form
  injection hv with e1 e2 e3
  rw [e1,e2];exact h3
theorem OwnR.less {v : Value} {B' : Nat} (h : OwnR sz f w B e v l) (hB : B' ≤ B) : OwnR sz f w B' e v l:=by
  rcases h.2 with h1 | ⟨g,cap,cur,hv,hB1,rest⟩
  · exact ⟨h.1,.inl h1⟩
  · exact ⟨h.1,.inr ⟨g,cap,cur,hv,by omega,rest⟩⟩
theorem Q8 {j : Nat} {x x' : α} {v : Value} : ∀ {l : List α} {k : Nat},l[k]? = some x → j < sz → (∀ i,i < sz → f x' i = if i = j then v else f x i) → cellsR sz f (l.set k x') = (cellsR sz f l).set (k * sz + j) v:=by
  intro l k hx hj hf
  apply List.ext_getElem?
  intro i
  have hk : k < l.length:=(List.getElem?_eq_some_iff.1 hx).1
  have hlen : (cellsR sz f (l.set k x')).length = l.length * sz:=by rw [lK,List.length_set]
  have hlen2 : (cellsR sz f l).length = l.length * sz:=lK sz f l
  have hkb : k * sz + sz ≤ l.length * sz:=by
    have:=Nat.mul_le_mul_right sz (show k + 1 ≤ l.length from hk)
    rw [Nat.add_mul,Nat.one_mul] at this;exact this
  rw [List.getElem?_set]
  rcases Nat.lt_or_ge i (l.length * sz) with hi | hi
  · have hsz : 0 < sz:=by omega
    have hq : i = i / sz * sz + i % sz:=by have:=Nat.div_add_mod i sz;rw [Nat.mul_comm] at this;omega
    have hr : i % sz < sz:=Nat.mod_lt _ hsz
    have hd : i / sz < l.length:=by
      rcases Nat.lt_or_ge (i / sz) l.length with h | h
      · exact h
      · have:=Nat.mul_le_mul_right sz h;omega
    generalize i / sz = a at hq hd
    generalize i % sz = b at hq hr
    subst hq
    by_cases e : a = k
    · subst e
      rw [lF sz f (l.set a x') a b x' (by rw [List.getElem?_set,if_pos rfl,if_pos hk]) hr,hf b hr]
      by_cases eb : b = j
      · subst eb
        rw [if_pos rfl,if_pos rfl,if_pos (by omega)]
      · rw [if_neg eb,if_neg (by omega),lF sz f l a b x hx hr]
    · have hya : l[a]? = some l[a]:=List.getElem?_eq_getElem hd
      rw [lF sz f (l.set k x') a b l[a] (by rw [List.getElem?_set,if_neg (fun h => e h.symm)];exact hya) hr,lF sz f l a b l[a] hya hr]
      rw [if_neg]
      intro h
      rcases Nat.lt_or_ge a k with h1 | h1
      · have:=Nat.mul_le_mul_right sz (show a + 1 ≤ k from h1)
        rw [Nat.add_mul,Nat.one_mul] at this;omega
      · have:=Nat.mul_le_mul_right sz (show k + 1 ≤ a by omega)
        rw [Nat.add_mul,Nat.one_mul] at this;omega
  · rw [List.getElem?_eq_none (by omega),if_neg (by omega),List.getElem?_eq_none (by omega)]
theorem OwnR.set {g n cap k j : Nat} {x x' : α} {v : Value} (h : OwnR sz f w B e (.slice (some ⟨g,0,none⟩) n cap) l) (hx : l[k]? = some x) (hj : j < sz) (hf : ∀ i,i < sz → f x' i = if i = j then v else f x i) {cur cur' : List Value} (hb : Blk w g e cur)
    (hc : cur' = cur.set (k * sz + j) v) (hb' : Blk w' g e cur') : OwnR sz f w' B e (.slice (some ⟨g,0,none⟩) n cap) (l.set k x'):=by
  have hk : k < l.length:=(List.getElem?_eq_some_iff.1 hx).1
  have hln:=h.len_is.1
  obtain ⟨g',cur2,e1,hb2,hs,ht,hB,hn,hm,hl⟩:=h.blk (by omega)
  injection e1 with e1
  injection e1 with e1
  subst e1
  have ec : cur2 = cur:=by
    unfold Blk at hb hb2
    rw [hb] at hb2
    have:=Option.some.inj hb2
    injection this with h1 h2 h3
    have:=congrArg Array.toList h1
    simpa using this.symm
  subst ec
  refine OwnR.of_blk hb' hB (by rw [List.length_set];exact hl) hn hm (by rw [hc,List.length_set];exact hs) ?_
  rw [hc,Q8 hx hj hf,← ht,List.take_set]
end
structure Fam (e : TypeId) (w : World) (B : Nat) (S : Nat → Prop) (l : List Sv) : Prop where
  own : ∀ (k : Nat) (x : Sv),l[k]? = some x → OwnR 2 frV w B e (svV x) x.stack
  out : ∀ (k : Nat) (x : Sv) (b : Nat),l[k]? = some x → (svV x).ownBlock = some b → ¬ S b
  apart : ∀ (k j : Nat) (x y : Sv) (b : Nat),l[k]? = some x → l[j]? = some y → (svV x).ownBlock = some b → (svV y).ownBlock = some b → k = j
section
variable {e : TypeId} {w w' : World} {B : Nat} {S S' : Nat → Prop} {l : List Sv}
theorem Fam.nil (e : TypeId) (w : World) (B : Nat) (S : Nat → Prop) : Fam e w B S []:=⟨fun _ _ h => by simp at h,fun _ _ _ h => by simp at h,fun _ _ _ _ _ h => by simp at h⟩
theorem Fam.block (h : Fam e w B S l) {k : Nat} {x : Sv} {b : Nat} (hx : l[k]? = some x) (hb : (svV x).ownBlock = some b) : B ≤ b ∧ b < w.heap.size:=(h.own k x hx).block b hb
theorem Fam.turn (h : Fam e w B S l) {row : Option Nat} (hg : w.grownBy w' row) (hr : ∀ b,row = some b → S b) : Fam e w' B S l :=
  ⟨fun k x hx => (h.own k x hx).far hg (by
    cases hv : (svV x).ownBlock with
    | none => exact .inl rfl
    | some b => exact .inr fun e1 => h.out k x b hx hv (hr b e1.symm)),h.out,h.apart⟩
theorem Fam.below (h : Fam e w B S l) {C : Nat} (hb : Below C w w') (hC : w.heap.size ≤ C) : Fam e w' B S l:=⟨fun k x hx => (h.own k x hx).below hb hC,h.out,h.apart⟩
theorem Fam.less (h : Fam e w B S l) (hS : ∀ b,S' b → S b ∨ w.heap.size ≤ b) : Fam e w B S' l :=
  ⟨h.own,fun k x b hx hb hs => by
    rcases hS b hs with h1 | h1
    · exact h.out k x b hx hb h1
    · have:=(h.block hx hb).2;omega,h.apart⟩
theorem Fam.set (h : Fam e w B S l) {k : Nat} {x x' : Sv} (hx : l[k]? = some x) (hg : w.grownBy w' (svV x).ownBlock) (ho : OwnR 2 frV w' B e (svV x') x'.stack)
    (hb : (svV x').ownBlock = (svV x).ownBlock ∨ ∀ b,(svV x').ownBlock = some b → w.heap.size ≤ b) (hS : ∀ b,S b → b < w.heap.size) : Fam e w' B S (l.set k x'):=by
  have hk : k < l.length:=(List.getElem?_eq_some_iff.1 hx).1
  have key : ∀ j y,(l.set k x')[j]? = some y → (j = k ∧ y = x') ∨ (j ≠ k ∧ l[j]? = some y):=fun j y hy => by
    rw [List.getElem?_set] at hy
    by_cases e1 : k = j
    · subst e1
      rw [if_pos rfl,if_pos hk] at hy
      exact .inl ⟨rfl,(Option.some.inj hy).symm⟩
    · rw [if_neg e1] at hy
      exact .inr ⟨fun e2 => e1 e2.symm,hy⟩
  have far : ∀ j y b,j ≠ k → l[j]? = some y → (svV y).ownBlock = some b → (svV x').ownBlock ≠ some b:=fun j y b hne hy hb1 hb2 => by
    rcases hb with hb | hb
    · exact hne (h.apart j k y x b hy hx hb1 (by rw [← hb];exact hb2))
    · have:=hb b hb2
      have:=(h.block hy hb1).2
      omega
  refine ⟨fun j y hy => ?_,fun j y b hy hb1 hs => ?_,fun i j y z b hy hz hb1 hb2 => ?_⟩
  · rcases key j y hy with ⟨_,rfl⟩ | ⟨hne,hy⟩
    · exact ho
    · refine (h.own j y hy).far hg ?_
      cases hv : (svV y).ownBlock with
      | none => exact .inl rfl
      | some b => exact .inr fun e1 => hne (h.apart j k y x b hy hx hv e1.symm)
  · rcases key j y hy with ⟨_,rfl⟩ | ⟨hne,hy⟩
    · rcases hb with hb | hb
      · exact h.out k x b hx (by rw [← hb];exact hb1) hs
      · have:=hb b hb1
        have:=hS b hs
        omega
    · exact h.out j y b hy hb1 hs
  · rcases key i y hy with ⟨e1,e2⟩ | ⟨hne,hy'⟩
    · rcases key j z hz with ⟨e3,_⟩ | ⟨hne2,hz'⟩
      · rw [e1,e3]
      · rw [e2] at hb1;exact absurd hb1 (far j z b hne2 hz' hb2)
    · rcases key j z hz with ⟨_,e4⟩ | ⟨hne2,hz'⟩
      · rw [e4] at hb2;exact absurd hb2 (far i y b hne hy' hb1)
      · exact h.apart i j y z b hy' hz' hb1 hb2
theorem Fam.push (h : Fam e w B S l) {x : Sv} (hg : w.grownBy w' none) (ho : OwnR 2 frV w' B e (svV x) x.stack) (hb : ∀ b,(svV x).ownBlock = some b → w.heap.size ≤ b) (hS : ∀ b,S b → b < w.heap.size) : Fam e w' B S (l ++ [x]):=by
  have key : ∀ j y,(l ++ [x])[j]? = some y → (j = l.length ∧ y = x) ∨ (j < l.length ∧ l[j]? = some y):=fun j y hy => by
    rcases Nat.lt_or_ge j l.length with h1 | h1
    · rw [List.getElem?_append_left h1] at hy
      exact .inr ⟨h1,hy⟩
    · have h2:=(List.getElem?_eq_some_iff.1 hy).1
      simp only [List.length_append,List.length_singleton] at h2
      have e1 : j = l.length:=by omega
      subst e1
      rw [List.getElem?_append_right (Nat.le_refl _),Nat.sub_self] at hy
      exact .inl ⟨rfl,by simpa using hy.symm⟩
  refine ⟨fun j y hy => ?_,fun j y b hy hb1 hs => ?_,fun i j y z b hy hz hb1 hb2 => ?_⟩
  · rcases key j y hy with ⟨_,rfl⟩ | ⟨_,hy⟩
    · exact ho
    · exact (h.own j y hy).far hg (by cases (svV y).ownBlock <;> simp)
  · rcases key j y hy with ⟨_,rfl⟩ | ⟨_,hy⟩
    · have:=hb b hb1;have:=hS b hs;omega
    · exact h.out j y b hy hb1 hs
  · rcases key i y hy with ⟨e1,e2⟩ | ⟨h1,hy'⟩
    · rcases key j z hz with ⟨e3,_⟩ | ⟨h2,hz'⟩
      · rw [e1,e3]
      · rw [e2] at hb1
        have:=hb b hb1;have:=(h.block hz' hb2).2;omega
    · rcases key j z hz with ⟨_,e4⟩ | ⟨h2,hz'⟩
      · rw [e4] at hb2
        have:=hb b hb2;have:=(h.block hy' hb1).2;omega
      · exact h.apart i j y z b hy' hz' hb1 hb2
end
structure St (w : World) (B gN gU : Nat) (q : Pc) : Prop where
  conf : Blk w gN 47 (pcC q)
  row : OwnR 9 tvV w B 61 (.slice q.A q.len q.cap) q.tvs
  fam : Fam 77 w B (fun b => b = gN ∨ b = gU ∨ (Value.slice q.A q.len q.cap).ownBlock = some b) (q.tvs.map (·.sv))
  ne : ∀ b,(Value.slice q.A q.len q.cap).ownBlock = some b → b ≠ gN ∧ b ≠ gU
  low : B ≤ gN ∧ gU < w.heap.size
theorem St.below {w w' : World} {B gN gU C : Nat} {q : Pc} (h : St w B gN gU q) (hb : Below C w w') (hC : w.heap.size ≤ C) : St w' B gN gU q :=
  ⟨h.conf.below hb (Nat.lt_of_lt_of_le h.conf.lt hC),h.row.below hb hC,h.fam.below hb hC,h.ne,h.low.1,Nat.lt_of_lt_of_le h.low.2 hb.size⟩
theorem St.drewN {w : World} {B gN gU : Nat} {q : Pc} (h : St w B gN gU q) (k : Nat) : St (w.drewN k) B gN gU q:=h.below (below_drewN (Below.refl w.heap.size w) k) (Nat.le_refl _)
theorem St.ok {w : World} {B gN gU : Nat} {q : Pc} (h : St w B gN gU q) : q.Ok w w.heap.size :=
  ⟨h.row.recs,h.row.len_is.2.1,h.row.len_is.2.2,fun x hx => by
    obtain ⟨k,hk⟩:=List.mem_iff_getElem?.1 hx
    have ho:=h.fam.own k x.sv (by rw [List.getElem?_map,hk];rfl)
    exact ⟨ho.recs,ho.len_is.2.1,ho.len_is.2.2⟩⟩
theorem St.thread {w : World} {B gN gU k : Nat} {q : Pc} (h : St w B gN gU q) (hk : k < q.len) :
    ∃ gT cur x,q.A = some ⟨gT,0,none⟩ ∧ Blk w gT 61 cur ∧ q.tvs[k]? = some x ∧ cur[k * 9]? = some (.slice x.sv.A x.sv.len x.sv.cap) ∧ (∀ j,j < 8 → cur[k * 9 + (j + 1)]? = some (.int .i64 (x.slots.getD j 0 : Int))) ∧ gT ≠ gN ∧ gT ≠ gU ∧ B ≤ gT ∧
      x.sv.stack.length = x.sv.len ∧ M.th q.cf k = tvT x ∧ k * 9 + 9 ≤ cur.length:=by
  obtain ⟨gT,cur,hA,hb,hs,ht,hB,hn,hm,hl⟩:=h.row.blk (by omega)
  have hkl : k < q.tvs.length:=by omega
  have hx:=List.getElem?_eq_getElem hkl
  have hne:=h.ne gT (by rw [hA];rfl)
  have ho:=h.fam.own k _ (by rw [List.getElem?_map,hx];rfl)
  have hc : ∀ j,j < 9 → cur[k * 9 + j]? = some (tvV q.tvs[k] j):=fun j hj => by
    have h1:=lF 9 tvV q.tvs k j _ hx hj
    rw [← ht,List.getElem?_take] at h1
    split at h1
    · exact h1
    · cases h1
  have hlen : k * 9 + 9 ≤ cur.length:=by rw [hs];omega
  exact ⟨gT,cur,_,hA,hb,hx,hc 0 (by omega),fun j hj => hc (j + 1) (by omega),hne.1,hne.2,hB,ho.len_is.1,Pc.th_of hx,hlen⟩
theorem OwnR.congr {α : Type} {sz : Nat} {f : α → Nat → Value} {w : World} {B : Nat} {e : TypeId} {v : Value} {l l' : List α} (h : OwnR sz f w B e v l) (hl : l'.length = l.length) (hc : cellsR sz f l' = cellsR sz f l) : OwnR sz f w B e v l':=by
  unfold OwnR
  rw [hl,hc];exact h
theorem JV {α : Type} {sz : Nat} {f : α → Nat → Value} {x x' : α} {l : List α} {k : Nat} (hx : l[k]? = some x) (hf : f x' = f x) : cellsR sz f (l.set k x') = cellsR sz f l:=by
  unfold cellsR
  rw [List.flatMap_def,List.flatMap_def,List.map_set,hf]
  congr 1
  apply List.ext_getElem?
  intro i
  rw [List.getElem?_set]
  by_cases e : k = i
  · subst e
    have hk : k < l.length:=(List.getElem?_eq_some_iff.1 hx).1
    rw [if_pos rfl,List.getElem?_map,hx,if_pos (by simpa using hk)];rfl
  · rw [if_neg e]
def Pc.put (q : Pc) (k : Nat) (x : Tv) : Pc:=⟨q.A,q.len,q.cap,q.tvs.set k x,q.ow⟩
theorem Pc.put_cf (q : Pc) (k : Nat) (x : Tv) : (q.put k x).cf = ⟨q.cf.ths.set k (tvT x),q.ow⟩:=by unfold Pc.put Pc.cf;simp [List.map_set]
def tvGo (x : Tv) (n : Nat) : Tv:=⟨⟨x.sv.A,x.sv.len,x.sv.cap,M.goOn x.sv.stack n⟩,x.slots⟩
theorem frV_go {f : Nat × Nat} {n : Nat} : ∀ i,i < 2 → frV (f.1,n) i = if i = 1 then .int .i64 (n : Int) else frV f i:=by
  intro i hi
  match i,hi with
  | 0,_ => rfl
  | 1,_ => rfl
theorem St.goes {w : World} {B gN gU k : Nat} {q : Pc} {x : Tv} (h : St w B gN gU q) (hx : q.tvs[k]? = some x) (h0 : 0 < x.sv.len) :
    ∃ gS cur,x.sv.A = some ⟨gS,0,none⟩ ∧ Blk w gS 77 cur ∧ (x.sv.len - 1) * 2 + 1 < cur.length ∧ gS ≠ gN ∧ gS ≠ gU ∧ B ≤ gS ∧
      ∀ W w' n,Below w.heap.size w W → Blk w' gS 77 (cur.set ((x.sv.len - 1) * 2 + 1) (.int .i64 ((n : Nat) : Int))) → W.grownBy w' (some gS) → w'.heap.size = W.heap.size → St w' B gN gU (q.put k (tvGo x n)):=by
  have hxs : (q.tvs.map (·.sv))[k]? = some x.sv:=by rw [List.getElem?_map,hx];rfl
  have ho:=h.fam.own k _ hxs
  obtain ⟨gS,cur,hA,hb,hs,ht,hB,hn,hm,hl⟩:=ho.blk h0
  have hbk : (svV x.sv).ownBlock = some gS:=by unfold svV;rw [hA];rfl
  have hout:=h.fam.out k _ gS hxs hbk
  have hlen : (x.sv.len - 1) * 2 + 1 < cur.length:=by rw [hs];omega
  have hgl:=hb.lt
  refine ⟨gS,cur,hA,hb,hlen,fun e => hout (.inl e),fun e => hout (.inr (.inl e)),hB,fun W w' n hW hb' hg hz => ?_⟩
  replace hb:=hb.below hW hgl
  replace h:=h.below hW (Nat.le_refl _)
  replace ho:=h.fam.own k _ hxs
  have htop : x.sv.stack[x.sv.len - 1]? = some (M.top x.sv.stack):=by rw [← hl];exact M.top_at (by omega)
  have hown : OwnR 2 frV w' B 77 (svV (tvGo x n).sv) (tvGo x n).sv.stack:=by
    have hv : svV (tvGo x n).sv = .slice (some ⟨gS,0,none⟩) x.sv.len x.sv.cap:=by unfold svV tvGo;simp only;rw [hA]
    have hst : (tvGo x n).sv.stack = x.sv.stack.set (x.sv.len - 1) ((M.top x.sv.stack).1,n):=by unfold tvGo M.goOn;simp only;rw [hl]
    rw [hv,hst]
    have ho2:=ho
    unfold svV at ho2
    rw [hA] at ho2
    exact ho2.set htop (by omega) frV_go hb rfl hb'
  have hown' : (svV (tvGo x n).sv).ownBlock = (svV x.sv).ownBlock:=rfl
  refine ⟨h.conf.grown hg (fun e => hout (.inl (by cases e;rfl))),?_,?_,h.ne,h.low.1,by rw [hz];exact h.low.2⟩
  · refine (h.row.far hg ?_).congr (by unfold Pc.put;simp) (JV hx ?_)
    · cases hv : (Value.slice q.A q.len q.cap).ownBlock with
      | none => exact .inl rfl
      | some b => exact .inr fun e => hout (.inr (.inr (by cases e;exact hv)))
    · funext j
      cases j <;> rfl
  · have e : (q.put k (tvGo x n)).tvs.map (·.sv) = (q.tvs.map (·.sv)).set k (tvGo x n).sv:=by unfold Pc.put;rw [List.map_set]
    rw [e]
    refine h.fam.set hxs (by rw [hbk];exact hg) hown (.inl hown') fun b hb2 => ?_
    rcases hb2 with rfl | rfl | hb2
    · exact h.conf.lt
    · exact h.low.2
    · exact (h.row.block b hb2).2
def Pc.own (q : Pc) (a o : Nat) : Pc:=⟨q.A,q.len,q.cap,q.tvs,q.ow.set a o⟩
theorem St.owns {w w' : World} {B gN gU a o : Nat} {q : Pc} (h : St w B gN gU q) (hb : Blk w' gN 47 ((pcC q).set (1 + a) (.int .i64 (o : Int)))) (hg : w.grownBy w' (some gN)) (hz : w'.heap.size = w.heap.size) : St w' B gN gU (q.own a o):=by
  refine ⟨?_,?_,?_,h.ne,h.low.1,by rw [hz];exact h.low.2⟩
  · have e : pcC (q.own a o) = (pcC q).set (1 + a) (.int .i64 (o : Int)):=by
      unfold pcC Pc.own
      rw [show 1 + a = a + 1 by omega,List.set_cons_succ,List.map_set];rfl
    rw [e];exact hb
  · refine h.row.far hg ?_
    cases hv : (Value.slice q.A q.len q.cap).ownBlock with
    | none => exact .inl rfl
    | some b => exact .inr fun e => (h.ne b hv).1 (by cases e;rfl)
  · exact h.fam.turn hg fun b e => .inl (by cases e;rfl)
theorem St.field {w w' : World} {B gN gU k gT : Nat} {q : Pc} {x x' : Tv} {cur : List Value} {j : Nat} {v : Value} (hconf : Blk w gN 47 (pcC q)) (hrow : OwnR 9 tvV w B 61 (.slice q.A q.len q.cap) q.tvs)
    (hne : ∀ b,(Value.slice q.A q.len q.cap).ownBlock = some b → b ≠ gN ∧ b ≠ gU) (hlow : B ≤ gN ∧ gU < w.heap.size) (hA : q.A = some ⟨gT,0,none⟩) (hc : Blk w gT 61 cur) (hx : q.tvs[k]? = some x) (hj : j < 9)
    (hf : ∀ i,i < 9 → tvV x' i = if i = j then v else tvV x i) (hb : Blk w' gT 61 (cur.set (k * 9 + j) v)) (hg : w.grownBy w' (some gT)) (hz : w'.heap.size = w.heap.size)
    (hfam : Fam 77 w B (fun b => b = gN ∨ b = gU ∨ (Value.slice q.A q.len q.cap).ownBlock = some b) ((q.tvs.map (·.sv)).set k x'.sv)) : St w' B gN gU (q.put k x'):=by
  have hbk : (Value.slice q.A q.len q.cap).ownBlock = some gT:=by rw [hA];rfl
  refine ⟨hconf.grown hg (fun e => (hne gT hbk).1 (by cases e;rfl)),?_,?_,hne,hlow.1,by rw [hz];exact hlow.2⟩
  · have hr:=hrow
    show OwnR 9 tvV w' B _ (.slice q.A q.len q.cap) (q.tvs.set k x')
    rw [hA] at hr ⊢
    exact hr.set hx hj hf hc rfl hb
  · have e : (q.put k x').tvs.map (·.sv) = (q.tvs.map (·.sv)).set k x'.sv:=by unfold Pc.put;rw [List.map_set]
    rw [e]
    exact hfam.turn hg fun b eb => .inr (.inr (by cases eb;exact hbk))
theorem fam_same {e : TypeId} {w : World} {B : Nat} {S : Nat → Prop} {l : List Sv} {k : Nat} {x : Sv} (h : Fam e w B S l) (hx : l[k]? = some x) : Fam e w B S (l.set k x):=by
  have es : l.set k x = l:=by
    apply List.ext_getElem?
    intro i
    rw [List.getElem?_set]
    by_cases e1 : k = i
    · subst e1
      rw [if_pos rfl,if_pos (List.getElem?_eq_some_iff.1 hx).1,hx]
    · rw [if_neg e1]
  rw [es];exact h
theorem St.slot {w w' : World} {B gN gU k gT j o : Nat} {q : Pc} {x : Tv} {cur : List Value} (h : St w B gN gU q) (hA : q.A = some ⟨gT,0,none⟩) (hc : Blk w gT 61 cur) (hx : q.tvs[k]? = some x) (h8 : x.slots.length = 8) (hj : j < 8)
    (hb : Blk w' gT 61 (cur.set (k * 9 + (j + 1)) (.int .i64 (o : Int)))) (hg : w.grownBy w' (some gT)) (hz : w'.heap.size = w.heap.size) : St w' B gN gU (q.put k ⟨x.sv,x.slots.set j o⟩):=by
  refine St.field (x':=⟨x.sv,x.slots.set j o⟩) h.conf h.row h.ne h.low hA hc hx (j:=j + 1) (by omega) (fun i hi => ?_) hb hg hz (fam_same h.fam (by rw [List.getElem?_map,hx];rfl))
  match i,hi with
  | 0,_ => rfl
  | i + 1,hi =>
    show Value.int .i64 (((x.slots.set j o).getD i 0 : Nat) : Int) = if i + 1 = j + 1 then _ else .int .i64 ((x.slots.getD i 0 : Nat) : Int)
    rw [List.getD_eq_getElem?_getD,List.getElem?_set,List.getD_eq_getElem?_getD]
    by_cases e : j = i
    · subst e
      rw [if_pos rfl,if_pos (by omega),if_pos rfl];rfl
    · rw [if_neg e,if_neg (by omega)]
theorem St.stack {w0 w w' : World} {B gN gU k gT : Nat} {q : Pc} {x : Tv} {sv : Sv} {cur : List Value} (h : St w0 B gN gU q) (hA : q.A = some ⟨gT,0,none⟩) (hc : Blk w0 gT 61 cur) (hx : q.tvs[k]? = some x)
    (hg0 : w0.grownBy w (svV x.sv).ownBlock) (ho : OwnR 2 frV w B 77 (svV sv) sv.stack) (hbk : (svV sv).ownBlock = (svV x.sv).ownBlock ∨ ∀ b,(svV sv).ownBlock = some b → w0.heap.size ≤ b)
    (hb : Blk w' gT 61 (cur.set (k * 9) (svV sv))) (hg : w.grownBy w' (some gT)) (hz : w'.heap.size = w.heap.size) : St w' B gN gU (q.put k ⟨sv,x.slots⟩):=by
  have hxs : (q.tvs.map (·.sv))[k]? = some x.sv:=by rw [List.getElem?_map,hx];rfl
  have hout : ∀ b,(svV x.sv).ownBlock = some b → ¬ (b = gN ∨ b = gU ∨ (Value.slice q.A q.len q.cap).ownBlock = some b):=fun b hb => h.fam.out k _ b hxs hb
  have hAb : (Value.slice q.A q.len q.cap).ownBlock = some gT:=by rw [hA];rfl
  have hnT : some gT ≠ (svV x.sv).ownBlock:=fun e => hout gT e.symm (.inr (.inr hAb))
  have hnN : some gN ≠ (svV x.sv).ownBlock:=fun e => hout gN e.symm (.inl rfl)
  refine St.field (x':=⟨sv,x.slots⟩) (h.conf.grown hg0 hnN) (h.row.far hg0 ?_) h.ne ⟨h.low.1,Nat.lt_of_lt_of_le h.low.2 hg0.size⟩ hA (hc.grown hg0 hnT) hx (j:=0) (by omega) (fun i hi => ?_) hb hg hz ?_
  · rw [hAb];exact .inr hnT
  · match i,hi with
    | 0,_ => rfl
    | i + 1,_ => rfl
  · refine h.fam.set hxs hg0 ho hbk fun b hb2 => ?_
    rcases hb2 with rfl | rfl | hb2
    · exact h.conf.lt
    · exact h.low.2
    · exact (h.row.block b hb2).2
theorem yL {P : Program} {ops : Array Oper} {rest : List Oper} {o : Oper} {a : Act} {w : World} {Q : Exit → Act → World → Prop} (hgd : o.guard = none) (ty : TypeId) (x hi : Operand) (ho : o.op = .slice ty x none (some hi) none)
    (e : TypeId) (sz : Nat) (hu : P.underlying ty = some (.slice e)) (hsz : (P.info? e).map (·.size) = some sz) (A : Option Addr) (n c : Nat) (hx : a.eval x = .slice A n c) (k : IntKind) (m : Nat) (hl : a.eval hi = .int k (m : Int)) (hmc : m ≤ c)
    (h : wpList P ops Q rest (a.put o.dst (.slice A m c)) w) : wpList P ops Q (o :: rest) a w:=by
  refine wpList_plain hgd fun K hK => ?_
  have hel : P.elem ty = e:=by simp [Program.elem,hu]
  have h1:=run_slice_h (P:=P) w ty A n c (by rw [hel];exact hu) k (m : Int) (by omega) (by omega)
  have h2:=run_sliceAt_slice (P:=P) w ty (.slice A n c) none (some (.int k (m : Int))) none (by rw [hel];exact hu)
  rw [h1] at h2
  cases hq : P.info? e with
  | none => simp [hq] at hsz
  | some ie =>
    have hs : ie.size = sz:=by simpa [hq] using hsz
    have hso : (sizeOf e).run P w = .ok sz w:=by simp [sizeOf,typeInfo,hq,hs]
    have hk:=hK _ _ h
    have e0 : (if c = 0 then A else Option.map (fun x => x.add 0) A) = A:=by
      split
      · rfl
      · cases A <;> simp [Addr.add]
    unfold Oper.wp execOp
    simp only [ho,hx,hl,Option.map_some,Option.map_none,h2,Sem.run_bind,Sem.run_pure,hel,hso,sliced,Result.andThen_ok,Int.toNat_natCast,Nat.zero_mul,Nat.sub_zero,e0]
    exact hk
theorem OwnR.front {α : Type} {sz : Nat} {f : α → Nat → Value} {w : World} {B : Nat} {e : TypeId} {l : List α} {A : Option Addr} {n c m : Nat} (h : OwnR sz f w B e (.slice A n c) l) (hm : m ≤ n) : OwnR sz f w B e (.slice A m c) (l.take m):=by
  obtain ⟨hln,hnc,hcm⟩:=h.len_is
  rcases Nat.eq_zero_or_pos n with h0 | h0
  · have hm0 : m = 0:=by omega
    subst hm0
    have hl0 : l = []:=List.eq_nil_of_length_eq_zero (by omega)
    subst hl0
    rw [h0] at h
    exact h
  · obtain ⟨g,cur,hA,hb,hs,ht,hB,_,_,_⟩:=h.blk h0
    rw [hA]
    have e1 : cellsR sz f l = cellsR sz f (l.take m) ++ cellsR sz f (l.drop m):=by rw [← xI,List.take_append_drop]
    have e2 : (cellsR sz f (l.take m)).length = m * sz:=by rw [lK,List.length_take,Nat.min_eq_left (by omega)]
    refine OwnR.of_blk hb hB (by rw [List.length_take,Nat.min_eq_left (by omega)]) (by omega) hcm hs ?_
    have h3 : m * sz ≤ n * sz:=Nat.mul_le_mul_right sz hm
    have h4 : cur.take (m * sz) = (cur.take (n * sz)).take (m * sz):=by rw [List.take_take,Nat.min_eq_left h3]
    rw [h4,ht,e1,← e2,List.take_left]
section
variable {P : Program} {ops : Array Oper} {rest : List Oper} {o : Oper} {a : Act} {w : World} {Q : Exit → Act → World → Prop} {α : Type}
theorem xX {e : TypeId} {gn : Nat} {vs : List Value} (h : Blk w gn e vs) : ∀ j y,vs[j]? = some y → w.cell? ((⟨gn,0,none⟩ : Addr).add j) = some y:=fun j y hy => by
  have hadd : (⟨gn,0,none⟩ : Addr).add j = ⟨gn,j,none⟩:=by unfold Addr.add;split <;> simp_all
  rw [hadd,h.cell j];exact hy
theorem yD (hgd : o.guard = none) (s x : Operand) (t : TypeId)
    (ho : o.op = .call { callee:=.builtin .append,args:=#[s,x],argTypes:=#[t,t] })
    (B : Nat) (e : TypeId) (sz : Nat) (z : Value) (bytes : Nat) (ht : P.underlying t = some (.slice e)) (hi : (P.info? e).map (fun i => (i.zero,i.size,i.bytes)) = some (some z,sz,bytes)) (hzs : z.cells.size = sz) (hsz : 0 < sz)
    (f : α → Nat → Value) (hone : ∀ x j,(f x j).oneCell' = true)
    (q cap : Nat) (l : List α) (u : α) (hs : a.eval s = .slice (some ⟨q,0,none⟩) l.length cap) (hown : OwnR sz f w B e (.slice (some ⟨q,0,none⟩) l.length cap) l) (hroom : l.length + 1 ≤ cap)
    (gn c : Nat) (hx : a.eval x = .slice (some ⟨gn,0,none⟩) 1 c) (hbk : Blk w gn e ((List.range sz).map (f u))) (hbytes : (l.length + 1) * bytes ≤ 140737488355328)
    (h : ∀ w',OwnR sz f w' B e (.slice (some ⟨q,0,none⟩) (l.length + 1) cap) (l ++ [u]) → w.grownBy w' (some q) → wpList P ops Q rest (a.put o.dst (.slice (some ⟨q,0,none⟩) (l.length + 1) cap)) w') : wpList P ops Q (o :: rest) a w:=by
  obtain ⟨i,hi0,hzz⟩:=Option.map_eq_some_iff.1 hi
  simp only [Prod.mk.injEq] at hzz
  obtain ⟨hz,hsize,hby⟩:=hzz
  have hone' : ∀ y ∈ (List.range sz).map (f u),y.oneCell' = true:=fun y hy => by
    obtain ⟨j,_,rfl⟩:=List.mem_map.1 hy
    exact hone u j
  rcases hown.2 with ⟨hv,_⟩ | ⟨q',cap',cur,hv,hBq,hg,hn,hm,hcs,ht2⟩
  · cases hv
  injection hv with e1 _ e3
  cases e1
  subst e3
  have hlt : q < w.heap.size:=(Array.getElem?_eq_some_iff.1 hg).1
  obtain ⟨v',w',hr,h2,h3,_⟩:=run_append_own_at (P:=P) w B t o.type e i z sz bytes ht hi0 hz hsize hby hzs hsz _ l.length (cellsR sz f l) hown ⟨gn,0,none⟩ 1 c ((List.range sz).map (f u)) (by simp) (xX hbk) hone'
    (by omega) hbytes (by omega)
  have hr2:=run_append_room (P:=P) w t o.type e i ht hi0 q l.length cap cur hg ⟨gn,0,none⟩ 1 c ((List.range sz).map (f u)) (by rw [hsize];simp) (xX hbk) hone' hroom (by
    rw [hsize,hcs]
    have h9:=Nat.mul_le_mul_right sz hroom
    simp [Nat.add_mul] at h9 ⊢;omega)
  rw [hr] at hr2
  injection hr2 with e1 e2
  subst e1
  refine wpList_plain hgd fun K hK => ?_
  unfold Oper.wp execOp
  simp only [ho,resolve,invoke,builtin,Sem.run_bind,Sem.run_pure,Result.andThen_ok,List.map_toArray,List.map_cons,List.map_nil,hs,hx,hr]
  refine hK _ _ (h w' ?_ h3)
  unfold OwnR
  rw [List.length_append,List.length_singleton,xI]
  have e1 : cellsR sz f [u] = (List.range sz).map (f u):=by simp [cellsR]
  rw [e1]
  exact h2
theorem yE (hgd : o.guard = none) (s x : Operand) (t : TypeId)
    (ho : o.op = .call { callee:=.builtin .append,args:=#[s,x],argTypes:=#[t,t] })
    (B : Nat) (e : TypeId) (sz : Nat) (z : Value) (bytes : Nat) (ht : P.underlying t = some (.slice e)) (hi : (P.info? e).map (fun i => (i.zero,i.size,i.bytes)) = some (some z,sz,bytes)) (hzs : z.cells.size = sz) (hsz : 0 < sz)
    (f : α → Nat → Value) (hone : ∀ x j,(f x j).oneCell' = true)
    (v : Value) (l : List α) (u : α) (hs : a.eval s = v) (hown : OwnR sz f w B e v l) (hfull : v = .slice none 0 0 ∨ ∃ q,v = .slice (some ⟨q,0,none⟩) l.length l.length)
    (gn c : Nat) (hx : a.eval x = .slice (some ⟨gn,0,none⟩) 1 c) (hbk : Blk w gn e ((List.range sz).map (f u))) (h63 : l.length + 1 ≤ maxLen) (hbytes : (l.length + 1) * bytes ≤ 140737488355328) (hB : B ≤ w.heap.size)
    (h : ∀ v' w',OwnR sz f w' B e v' (l ++ [u]) → Below w.heap.size w w' → v'.ownBlock = some w.heap.size → wpList P ops Q rest (a.put o.dst v') w') : wpList P ops Q (o :: rest) a w:=by
  obtain ⟨i,hi0,hzz⟩:=Option.map_eq_some_iff.1 hi
  simp only [Prod.mk.injEq] at hzz
  obtain ⟨hz,hsize,hby⟩:=hzz
  have hone' : ∀ y ∈ (List.range sz).map (f u),y.oneCell' = true:=fun y hy => by
    obtain ⟨j,_,rfl⟩:=List.mem_map.1 hy
    exact hone u j
  obtain ⟨v',w',hr,h2,h3,_,h5⟩:=run_append_own_at (P:=P) w B t o.type e i z sz bytes ht hi0 hz hsize hby hzs hsz v l.length (cellsR sz f l) hown ⟨gn,0,none⟩ 1 c ((List.range sz).map (f u)) (by simp) (xX hbk) hone'
    h63 hbytes hB
  have hsm : l.length + 1 ≤ 9223372036854775807:=by unfold maxLen at h63;omega
  have hnew : ∃ cs k,w' = w.drew.alloc (.cells cs e) ∧ v' = .slice (some ⟨w.heap.size,0,none⟩) (l.length + 1) k:=by
    rcases hfull with rfl | ⟨q,rfl⟩
    · have hl0 : l.length = 0:=by
        rcases hown.2 with ⟨_,h0⟩ | ⟨q',cap',cur,hv,_⟩
        · exact h0
        · cases hv
      have hr2:=run_append_nil (P:=P) w t o.type e i z ht hi0 hz ⟨gn,0,none⟩ 1 c ((List.range sz).map (f u)) (by rw [hsize];simp) (xX hbk) (by omega) (by omega) (by rw [hby];have:=hbytes;rw [hl0] at this;omega)
      rw [hr] at hr2
      injection hr2 with e1 e2
      exact ⟨_,_,e2,by rw [e1,hl0]⟩
    · have holds : ∀ j y,(cellsR sz f l)[j]? = some y → w.cell? ((⟨q,0,none⟩ : Addr).add j) = some y:=World.ownsRow.cells hown (g:=q) rfl
      have hr2:=run_append_grow (P:=P) w t o.type e i z ht hi0 hz ⟨q,0,none⟩ l.length l.length (cellsR sz f l) (by rw [hsize,lK]) holds ⟨gn,0,none⟩ 1 c ((List.range sz).map (f u)) (by rw [hsize];simp) (xX hbk) (by omega) (by omega) (by rw [hby];exact growslice_fits (by omega) (by omega))
      rw [hr] at hr2
      injection hr2 with e1 e2
      exact ⟨_,_,e2,e1⟩
  obtain ⟨cs,k,rfl,rfl⟩:=hnew
  refine wpList_plain hgd fun K hK => ?_
  unfold Oper.wp execOp
  simp only [ho,resolve,invoke,builtin,Sem.run_bind,Sem.run_pure,Result.andThen_ok,List.map_toArray,List.map_cons,List.map_nil,hs,hx,hr]
  refine hK _ _ (h _ _ ?_ ?_ rfl)
  · unfold OwnR
    rw [List.length_append,List.length_singleton,xI]
    have e1 : cellsR sz f [u] = (List.range sz).map (f u):=by simp [cellsR]
    rw [e1]
    exact h2
  · exact ⟨rfl,rfl,rfl,by simp,fun k hk => Below.heap_alloc w.drew _ k hk⟩
end
def turnC (gN k : Nat) (way : Bool) (x : Nd) : List Value:=[.pointer (some ⟨gN,0,none⟩),.int .i64 (k : Int),.bool way,.int .i64 x.kind,.int .i64 x.arg,.int .i64 x.next,.int .i64 x.alt]
theorem LP (a : Act) (v : Value) : a.put none v = a:=rfl
set_option maxRecDepth 100000 in
set_option maxHeartbeats 800000 in
theorem qD (gU gN gT k n c : Nat) (way : Bool) (x : Nd) (w : World) (hu : Blk w gU 87 (turnC gN k way x)) (hn : w.cell? ⟨gN,0,none⟩ = some (.slice (some ⟨gT,0,none⟩) n c)) (hk : k < n) :
    Calls Tryd.prog 70 #[.pointer (some ⟨gU,0,none⟩)] w fun e w' => e = .returned (.pointer (some ⟨gT,k * 9,none⟩)) ∧ ∃ m,w' = w.drewN m:=by
  have h0:=hu.cell 0;have h1:=hu.cell 1
  simp only [turnC,List.getElem?_cons_zero,List.getElem?_cons_succ] at h0 h1
  have hkn : (k : Int) < (n : Int):=by omega
  clear hu
  go_enter Tryd.func70,Tryd.ntmps70
  go_wp2
  go_quiet (fail)
  go_wp2
  go_ret
  exact ⟨rfl,_,rfl⟩
set_option maxRecDepth 100000 in
set_option maxHeartbeats 1600000 in
theorem qP (B gN gU k : Nat) (q : Pc) (x : Nd) (way : Bool) (th : Tv) (w : World) (hst : St w B gN gU q) (hu : Blk w gU 87 (turnC gN k way x)) (hkl : k < q.len) (hth : q.tvs[k]? = some th) (hs0 : 0 < th.sv.len) (hlen16 : th.sv.len ≤ 1000) (_h8 : q.len ≤ 8) (nx : Nat) (hnx : x.next = (nx : Int)) :
    Calls Tryd.prog 52 #[.pointer (some ⟨gU,0,none⟩)] w fun e w' => e = .returned (.tuple #[]) ∧ St w' B gN gU (q.put k (tvGo th nx)) ∧ Blk w' gU 87 (turnC gN k way x) ∧ Below B w w':=by
  obtain ⟨gT,curT,th',hA,hbT,hth',hcT0,hcTj,hTN,hTU,hBT,hsl,hthc,hcTl⟩:=hst.thread hkl
  rw [hth] at hth'
  cases hth'
  obtain ⟨gS,cur,hSA,hbS,hlen,hSN,hSU,hBS,hput⟩:=hst.goes hth hs0
  have hbound:=hst.ok
  have hqc:=hbound.lc;have hqm:=hbound.cm
  unfold maxLen at hqm
  have HE : Kept (pcC q = .slice (some ⟨gT,0,none⟩) q.len q.cap :: q.ow.map natV):=kp (by unfold pcC;rw [hA])
  have hgN:=hst.conf.lt;have hgU:=hu.lt;have hgT:=hbT.lt;have hgS:=hbS.lt
  have HSt:=kp hst;have HK:=kp hu;have HT:=kp hbT;have HS:=kp hbS;have HPut:=kp hput
  have hxc:=hbound.svs th (List.mem_of_getElem? hth)
  have hxc2:=hxc.lc;have hxm:=hxc.cm
  unfold maxLen at hxm
  rw [hSA] at hcT0
  have HC0:=kp hcT0
  have hlow:=hst.low.1
  have hBw : B ≤ w.heap.size:=by omega
  have HLow:=kp hst.low
  obtain ⟨n,hn⟩ : ∃ n,th.sv.len = n:=⟨_,rfl⟩
  obtain ⟨cp,hcp⟩ : ∃ cp,th.sv.cap = cp:=⟨_,rfl⟩
  have HThl:=kp hn
  rw [hn] at HC0 hs0 hlen16 hxc2 hlen HPut
  rw [hcp] at HC0 hxc2 hxm
  have HB : Kept (Below B w w):=kp (Below.refl _ _)
  clear hst hu hth hput hbT hbS hcT0 hcTj hthc hcTl hsl hbound hxc hn hcp hSA hA
  go_enter Tryd.func52,Tryd.ntmps52
  go_wp2
  apply jG 10 (.is _ :: .is _ :: .is _ :: .is _ :: .is _ :: .is _ :: .is _ :: .is _ :: .is _ :: .is _ :: [])
    [[],[(0,2)],[(1,3)],[],[(3,5)],[(4,6)],[(5,7)],[(6,8)],[(2,4)],[(8,10)],[(9,11),(7,9)]]
    [(0,2),(1,3),(2,4),(3,5),(4,6),(5,7),(6,8),(7,9),(8,10),(9,11)] (by kernel_rfl) (by kernel_rfl) (by kernel_rfl) (by kernel_rfl) (by kernel_rfl)
  case hob =>
    refine ⟨?o0,?o1,?o2,?o3,?o4,?o5,?o6,?o7,?o8,?o9,trivial⟩
    case o0 => intro W hW;change wpList _ _ _ _ _ _;go_wp2;exact j3 rfl rfl rfl
    case o1 =>
      intro W hW;rintro _ rfl;change wpList _ _ _ _ _ _
      have hCu:=(HK.out.below hW hgU)
      have hCn:=((HSt.out.conf.below hW hgN).cell 0)
      rw [HE.out,List.getElem?_cons_zero] at hCn
      have HC:=kp (qD gU gN gT k q.len q.cap way x W hCu hCn hkl)
      clear hCu hCn
      go_wp2_with fail
      refine (HC.out).mono ?_
      rintro e w2 ⟨rfl,m,rfl⟩
      go_wp2
      exact jE rfl rfl rfl (below_drewN (Below.refl _ _) m) rfl
    case o2 =>
      intro W hW;rintro _ rfl;change wpList _ _ _ _ _ _
      have hc:=(HT.out.below hW hgT).cell (k * 9)
      rw [HC0.out] at hc
      have hC:=vE ⟨gT,k * 9,none⟩ ⟨gS,0,none⟩ n cp W hs0 hlen16 hc
      rw [lQ] at hC
      have HC:=kp hC
      clear hc hC
      go_wp2_with fail
      refine (HC.out).mono ?_
      rintro e w2 ⟨rfl,m,rfl⟩
      go_wp2
      exact jE rfl rfl rfl (below_drewN (Below.refl _ _) m) rfl
    case o3 => intro W hW;change wpList _ _ _ _ _ _;go_wp2;exact j3 rfl rfl rfl
    case o4 => intro W hW;rintro _ rfl;change wpList _ _ _ _ _ _;go_wp2;exact j3 rfl rfl rfl
    case o5 => intro W hW;rintro _ rfl;change wpList _ _ _ _ _ _;go_wp2;exact j3 rfl rfl rfl
    case o6 => intro W hW;rintro _ rfl;change wpList _ _ _ _ _ _;go_wp2;exact j3 rfl rfl rfl
    case o7 =>
      intro W hW;rintro _ rfl;change wpList _ _ _ _ _ _
      have hc:=(HK.out.below hW hgU).cell 5
      simp only [turnC,List.getElem?_cons_zero,List.getElem?_cons_succ] at hc
      go_wp2;exact j3 rfl rfl rfl
    case o8 => intro W hW;rintro _ rfl;change wpList _ _ _ _ _ _;go_wp2;exact j3 rfl rfl rfl
    case o9 => intro W hW;rintro _ rfl;change wpList _ _ _ _ _ _;go_wp2;exact j3 rfl rfl rfl
  case hend =>
    intro W hW;rintro _ rfl;rintro _ rfl;rintro _ rfl;rintro _ rfl;rintro _ rfl;rintro _ rfl;rintro _ rfl;rintro _ rfl;rintro _ rfl;rintro _ rfl
    simp only [given,jL,List.set,List.drop]
    have HKw:=kp (HS.out.below hW hgS)
    have HStw:=kp (HSt.out.below hW (Nat.le_refl _))
    have HBw:=kp (hW.mono hBw)
    have HKu:=kp (HK.out.below hW hgU)
    have hWs:=hW.size
    have HWg:=kp hW
    have hsw:=HBw.out.size
    clear hW
    go_wp2_with (first
      | ((with_reducible show Sn);go_must (refine jD rfl 3 (.tmp 11) (.tmp 9) rfl gS ((n - 1) * 2 + 1) (.int .i64 (nx : Int)) rfl rfl rfl rfl _ _ HKw.out hlen qN ?_);intro w5 hk5 hg5 hs5;have HFin:=kp (HPut.out W w5 nx HWg.out hk5 hg5 hs5);have HKu5:=kp (HKu.out.grown hg5 (fun e => hSU (by cases e;rfl)));have HB5:=kp (HBw.out.grown hg5 (by omega) (fun k e => by cases e;exact hBS));clear hk5 hg5))
    go_end0
    exact ⟨rfl,HFin.out,HKu5.out,HB5.out⟩
set_option maxRecDepth 100000 in
set_option maxHeartbeats 1600000 in
theorem sem_lock (B gN gU k : Nat) (q : Pc) (x : Nd) (way : Bool) (th : Tv) (w : World) (hst : St w B gN gU q) (hu : Blk w gU 87 (turnC gN k way x)) (hkl : k < q.len) (hth : q.tvs[k]? = some th) (hs0 : 0 < th.sv.len) (hlen16 : th.sv.len ≤ 1000) (h8 : q.len ≤ 8) (nx : Nat) (hnx : x.next = (nx : Int)) (a : Nat) (ha : x.arg = (a : Int)) (ha16 : a < 16) (how : q.ow.length = 16) (hk3 : x.kind = 3) :
    Calls Tryd.prog 53 #[.pointer (some ⟨gU,0,none⟩)] w fun e w' => e = .returned (.tuple #[]) ∧ ∃ q',St w' B gN gU q' ∧ q'.cf = M.act q.cf k x way ∧ Below B w w':=by
  go_enter Tryd.func53,Tryd.ntmps53
  go_wp2_with fail
  refine (qP B gN gU k q x way th w hst hu hkl hth hs0 hlen16 h8 nx hnx).mono ?_
  rintro e w1 ⟨rfl,hst1,hu1,hb1⟩
  have hw1s:=hb1.size
  have hth1 : (q.put k (tvGo th nx)).tvs[k]? = some (tvGo th nx):=by
    show (q.tvs.set k (tvGo th nx))[k]? = _
    rw [List.getElem?_set,if_pos rfl,if_pos (List.getElem?_eq_some_iff.1 hth).1]
  have hcf1 : M.th q.cf k = tvT th:=Pc.th_of hth
  have HCf:=kp (Pc.put_cf q k (tvGo th nx))
  have HCf0:=kp hcf1
  have hs01 : 0 < (tvGo th nx).sv.len:=hs0
  have hlen161 : (tvGo th nx).sv.len ≤ 1000:=hlen16
  have hkl1 : k < (q.put k (tvGo th nx)).len:=hkl
  have h81 : (q.put k (tvGo th nx)).len ≤ 8:=h8
  have how1 : (q.put k (tvGo th nx)).ow = q.ow:=rfl
  have HQlen : Kept ((q.put k (tvGo th nx)).len = q.len):=kp rfl
  have HTvs : Kept ((q.put k (tvGo th nx)).tvs = q.tvs.set k (tvGo th nx)):=kp rfl
  have HTh1 : Kept (tvT (tvGo th nx) = ⟨M.goOn th.sv.stack nx,th.slots⟩):=kp rfl
  obtain ⟨q1,hq1⟩ : ∃ q1,q.put k (tvGo th nx) = q1:=⟨_,rfl⟩
  obtain ⟨th1,ht1⟩ : ∃ th1,tvGo th nx = th1:=⟨_,rfl⟩
  rw [ht1] at hq1 hth1 hs01 hlen161 HCf HTh1 HTvs hst1 hkl1 h81 how1 HQlen
  rw [hq1] at hst1 hth1 hkl1 h81 how1 HCf HQlen HTvs
  clear hst hu hq1 ht1 hcf1 hs0 hlen16
  obtain ⟨gT,curT,thx,hA,hbT,hthx,hcT0,hcTj,hTN,hTU,hBT,hsl,hthc,hcTl⟩:=hst1.thread hkl1
  rw [hth1] at hthx
  cases hthx
  obtain ⟨gS,cur,hSA,hbS,hlen,hSN,hSU,hBS,hput⟩:=hst1.goes hth1 hs01
  have hbound:=hst1.ok
  have hqc:=hbound.lc;have hqm:=hbound.cm
  unfold maxLen at hqm
  have HE : Kept (pcC q1 = .slice (some ⟨gT,0,none⟩) q1.len q1.cap :: q1.ow.map natV):=kp (by unfold pcC;rw [hA])
  have hgN:=hst1.conf.lt;have hgU:=hu1.lt;have hgT:=hbT.lt;have hgS:=hbS.lt
  have HSt:=kp hst1;have HK:=kp hu1;have HT:=kp hbT;have HS:=kp hbS;have HPut:=kp hput
  have hxc:=hbound.svs th1 (List.mem_of_getElem? hth1)
  have hxc2:=hxc.lc;have hxm:=hxc.cm
  unfold maxLen at hxm
  rw [hSA] at hcT0
  have HC0:=kp hcT0
  have hlow:=hst1.low.1
  have hBw : B ≤ w1.heap.size:=by omega
  have HLow:=kp hst1.low
  obtain ⟨n,hn⟩ : ∃ n,th1.sv.len = n:=⟨_,rfl⟩
  obtain ⟨cp,hcp⟩ : ∃ cp,th1.sv.cap = cp:=⟨_,rfl⟩
  have HThl:=kp hn
  rw [hn] at HC0 hs01 hlen161 hxc2 hlen HPut
  rw [hcp] at HC0 hxc2 hxm
  have HL17 : Kept ((pcC q1).length = 17):=kp (by show (_ :: q1.ow.map natV).length = 17;simp [how1,how])
  have HGoal : Kept ((q1.own a (k + 1)).cf = M.act q.cf k x way):=kp (by
    have e : (q1.own a (k + 1)).cf = ⟨q1.cf.ths,q1.ow.set a (k + 1)⟩:=rfl
    unfold M.act
    rw [e,HCf.out,how1,HCf0.out,if_neg (show ¬ x.kind = 9 by omega),if_pos hk3,hnx,ha,Int.toNat_natCast,Int.toNat_natCast,HTh1.out]
    rfl)
  clear hst1 hu1 hth1 hput hbT hbS hcT0 hcTj hthc hcTl hsl hbound hxc hn hcp hSA hA
  go_wp2
  apply jG 18 (.is _ :: .is _ :: .is _ :: .is _ :: .is _ :: .is _ :: .is _ :: .is _ :: .is _ :: .is _ :: .is _ :: .is _ :: .is _ :: .is _ :: .is _ :: .is _ :: .is _ :: .is _ :: [])
    [[],[(0,4)],[(1,5)],[(2,6)],[],[(4,8)],[(5,9)],[(6,10)],[(7,11)],[],[(9,13)],[(10,14)],[(11,15)],[(12,16)],[(13,17)],[(3,7)],[(15,19)],[(16,20),(8,12)],[(17,21),(14,18)]]
    [(0,4),(1,5),(2,6),(3,7),(4,8),(5,9),(6,10),(7,11),(8,12),(9,13),(10,14),(11,15),(12,16),(13,17),(14,18),(15,19),(16,20),(17,21)] (by kernel_rfl) (by kernel_rfl) (by kernel_rfl) (by kernel_rfl) (by kernel_rfl)
  case hob =>
    refine ⟨?o0,?o1,?o2,?o3,?o4,?o5,?o6,?o7,?o8,?o9,?o10,?o11,?o12,?o13,?o14,?o15,?o16,?o17,trivial⟩
    case o0 => intro W hW;change wpList _ _ _ _ _ _;go_wp2;exact j3 rfl rfl rfl
    case o1 => intro W hW;rintro _ rfl;change wpList _ _ _ _ _ _;go_wp2;exact j3 rfl rfl rfl
    case o2 => intro W hW;rintro _ rfl;change wpList _ _ _ _ _ _;go_wp2;exact j3 rfl rfl rfl
    case o3 =>
      intro W hW;rintro _ rfl;change wpList _ _ _ _ _ _
      have hc:=(HK.out.below hW hgU).cell 0
      simp only [turnC,List.getElem?_cons_zero] at hc
      go_wp2;exact j3 rfl rfl rfl
    case o4 => intro W hW;change wpList _ _ _ _ _ _;go_wp2;exact j3 rfl rfl rfl
    case o5 => intro W hW;rintro _ rfl;change wpList _ _ _ _ _ _;go_wp2;exact j3 rfl rfl rfl
    case o6 => intro W hW;rintro _ rfl;change wpList _ _ _ _ _ _;go_wp2;exact j3 rfl rfl rfl
    case o7 => intro W hW;rintro _ rfl;change wpList _ _ _ _ _ _;go_wp2;exact j3 rfl rfl rfl
    case o8 =>
      intro W hW;rintro _ rfl;change wpList _ _ _ _ _ _
      have hc:=(HK.out.below hW hgU).cell 4
      simp only [turnC,List.getElem?_cons_zero,List.getElem?_cons_succ] at hc
      rw [ha] at hc
      go_wp2;exact j3 rfl rfl rfl
    case o9 => intro W hW;change wpList _ _ _ _ _ _;go_wp2;exact j3 rfl rfl rfl
    case o10 => intro W hW;rintro _ rfl;change wpList _ _ _ _ _ _;go_wp2;exact j3 rfl rfl rfl
    case o11 => intro W hW;rintro _ rfl;change wpList _ _ _ _ _ _;go_wp2;exact j3 rfl rfl rfl
    case o12 => intro W hW;rintro _ rfl;change wpList _ _ _ _ _ _;go_wp2;exact j3 rfl rfl rfl
    case o13 =>
      intro W hW;rintro _ rfl;change wpList _ _ _ _ _ _
      have hc:=(HK.out.below hW hgU).cell 1
      simp only [turnC,List.getElem?_cons_zero,List.getElem?_cons_succ] at hc
      go_wp2;exact j3 rfl rfl rfl
    case o14 =>
      intro W hW;rintro _ rfl;change wpList _ _ _ _ _ _
      go_wp2_with fail
      refine (xO k (by omega) W).mono ?_
      rintro e w2 ⟨rfl,rfl⟩
      go_wp2
      exact j3 rfl rfl rfl
    case o15 => intro W hW;rintro _ rfl;change wpList _ _ _ _ _ _;go_wp2;exact j3 rfl rfl rfl
    case o16 => intro W hW;rintro _ rfl;change wpList _ _ _ _ _ _;go_wp2;exact j3 rfl rfl rfl
    case o17 => intro W hW;rintro _ rfl;rintro _ rfl;change wpList _ _ _ _ _ _;go_wp2;exact j3 rfl rfl rfl
  case hend =>
    intro W hW;rintro _ rfl;rintro _ rfl;rintro _ rfl;rintro _ rfl;rintro _ rfl;rintro _ rfl;rintro _ rfl;rintro _ rfl;rintro _ rfl;rintro _ rfl;rintro _ rfl;rintro _ rfl;rintro _ rfl;rintro _ rfl;rintro _ rfl;rintro _ rfl;rintro _ rfl;rintro _ rfl
    simp only [given,jL,List.set,List.drop]
    have HKw:=kp (HSt.out.conf.below hW hgN)
    have HStw:=kp (HSt.out.below hW (Nat.le_refl _))
    have HBw:=kp (hb1.trans (hW.mono hBw))
    have hWs:=hW.size
    clear hW
    go_wp2_with (first
      | ((with_reducible show Sn);go_must (refine jD rfl 3 (.tmp 21) (.tmp 18) rfl gN (1 + a) (.int .i64 ((k + 1 : Nat) : Int)) rfl rfl rfl rfl _ _ HKw.out (by rw [HL17.out];omega) qN ?_);intro w5 hk5 hg5 hs5;have HFin:=kp (HStw.out.owns hk5 hg5 hs5);have HB5:=kp (HBw.out.grown hg5 (by omega) (fun k e => by cases e;exact hlow));clear hk5 hg5))
    go_end0
    exact ⟨rfl,_,HFin.out,HGoal.out,HB5.out⟩
set_option maxRecDepth 100000 in
set_option maxHeartbeats 1600000 in
theorem LG (B gN gU k : Nat) (q : Pc) (x : Nd) (way : Bool) (th : Tv) (w : World) (hst : St w B gN gU q) (hu : Blk w gU 87 (turnC gN k way x)) (hkl : k < q.len) (hth : q.tvs[k]? = some th) (hs0 : 0 < th.sv.len) (hlen16 : th.sv.len ≤ 1000) (h8 : q.len ≤ 8) (nx : Nat) (hnx : x.next = (nx : Int)) (a : Nat) (ha : x.arg = (a : Int)) (ha16 : a < 16) (how : q.ow.length = 16) (hk4 : x.kind = 4) :
    Calls Tryd.prog 54 #[.pointer (some ⟨gU,0,none⟩)] w fun e w' => e = .returned (.tuple #[]) ∧ ∃ q',St w' B gN gU q' ∧ q'.cf = M.act q.cf k x way ∧ Below B w w':=by
  go_enter Tryd.func54,Tryd.ntmps54
  go_wp2_with fail
  refine (qP B gN gU k q x way th w hst hu hkl hth hs0 hlen16 h8 nx hnx).mono ?_
  rintro e w1 ⟨rfl,hst1,hu1,hb1⟩
  have hw1s:=hb1.size
  have hth1 : (q.put k (tvGo th nx)).tvs[k]? = some (tvGo th nx):=by
    show (q.tvs.set k (tvGo th nx))[k]? = _
    rw [List.getElem?_set,if_pos rfl,if_pos (List.getElem?_eq_some_iff.1 hth).1]
  have hcf1 : M.th q.cf k = tvT th:=Pc.th_of hth
  have HCf:=kp (Pc.put_cf q k (tvGo th nx))
  have HCf0:=kp hcf1
  have hs01 : 0 < (tvGo th nx).sv.len:=hs0
  have hlen161 : (tvGo th nx).sv.len ≤ 1000:=hlen16
  have hkl1 : k < (q.put k (tvGo th nx)).len:=hkl
  have h81 : (q.put k (tvGo th nx)).len ≤ 8:=h8
  have how1 : (q.put k (tvGo th nx)).ow = q.ow:=rfl
  have HQlen : Kept ((q.put k (tvGo th nx)).len = q.len):=kp rfl
  have HTvs : Kept ((q.put k (tvGo th nx)).tvs = q.tvs.set k (tvGo th nx)):=kp rfl
  have HTh1 : Kept (tvT (tvGo th nx) = ⟨M.goOn th.sv.stack nx,th.slots⟩):=kp rfl
  obtain ⟨q1,hq1⟩ : ∃ q1,q.put k (tvGo th nx) = q1:=⟨_,rfl⟩
  obtain ⟨th1,ht1⟩ : ∃ th1,tvGo th nx = th1:=⟨_,rfl⟩
  rw [ht1] at hq1 hth1 hs01 hlen161 HCf HTh1 HTvs hst1 hkl1 h81 how1 HQlen
  rw [hq1] at hst1 hth1 hkl1 h81 how1 HCf HQlen HTvs
  clear hst hu hq1 ht1 hcf1 hs0 hlen16
  obtain ⟨gT,curT,thx,hA,hbT,hthx,hcT0,hcTj,hTN,hTU,hBT,hsl,hthc,hcTl⟩:=hst1.thread hkl1
  rw [hth1] at hthx
  cases hthx
  obtain ⟨gS,cur,hSA,hbS,hlen,hSN,hSU,hBS,hput⟩:=hst1.goes hth1 hs01
  have hbound:=hst1.ok
  have hqc:=hbound.lc;have hqm:=hbound.cm
  unfold maxLen at hqm
  have HE : Kept (pcC q1 = .slice (some ⟨gT,0,none⟩) q1.len q1.cap :: q1.ow.map natV):=kp (by unfold pcC;rw [hA])
  have hgN:=hst1.conf.lt;have hgU:=hu1.lt;have hgT:=hbT.lt;have hgS:=hbS.lt
  have HSt:=kp hst1;have HK:=kp hu1;have HT:=kp hbT;have HS:=kp hbS;have HPut:=kp hput
  have hxc:=hbound.svs th1 (List.mem_of_getElem? hth1)
  have hxc2:=hxc.lc;have hxm:=hxc.cm
  unfold maxLen at hxm
  rw [hSA] at hcT0
  have HC0:=kp hcT0
  have hlow:=hst1.low.1
  have hBw : B ≤ w1.heap.size:=by omega
  have HLow:=kp hst1.low
  obtain ⟨n,hn⟩ : ∃ n,th1.sv.len = n:=⟨_,rfl⟩
  obtain ⟨cp,hcp⟩ : ∃ cp,th1.sv.cap = cp:=⟨_,rfl⟩
  have HThl:=kp hn
  rw [hn] at HC0 hs01 hlen161 hxc2 hlen HPut
  rw [hcp] at HC0 hxc2 hxm
  have HL17 : Kept ((pcC q1).length = 17):=kp (by show (_ :: q1.ow.map natV).length = 17;simp [how1,how])
  have hc16 : (pcC q1)[1 + a]? = some (.int .i64 (q1.ow.getD a 0 : Int)):=by
    rw [HE.out,show 1 + a = a + 1 by omega,List.getElem?_cons_succ];exact vM (by rw [how1];exact how) ha16
  have hu0:=HK.out.cell 0;have hu1':=HK.out.cell 1;have hu4:=HK.out.cell 4
  simp only [turnC,List.getElem?_cons_zero,List.getElem?_cons_succ] at hu0 hu1' hu4
  rw [ha] at hu4
  have hco:=(HSt.out.conf.cell (1 + a)).trans hc16
  obtain ⟨o,ho⟩ : ∃ o,q1.ow.getD a 0 = o:=⟨_,rfl⟩
  rw [ho] at hco
  have HMk:=kp (xO k (by omega))
  have HAct : Kept (M.act q.cf k x way = ⟨q1.cf.ths,if o = k + 1 then q1.ow.set a 0 else q1.ow⟩):=kp (by
    unfold M.act
    rw [HCf.out,how1,HCf0.out,if_neg (show ¬ x.kind = 9 by omega),if_neg (show ¬ x.kind = 3 by omega),if_pos hk4,hnx,ha,Int.toNat_natCast,Int.toNat_natCast,HTh1.out,← ho,how1]
    rfl)
  have HB1:=kp hb1
  clear hst1 hu1 hth1 hput hbT hbS hcT0 hcTj hthc hcTl hsl hbound hxc hn hcp hSA hA hc16 ho hnx ha hb1
  by_cases hok : o = k + 1
  · have HGoal : Kept ((q1.own a 0).cf = M.act q.cf k x way):=kp (by rw [HAct.out,if_pos hok];rfl)
    have hoe : ((o : Int) == ((k + 1 : Nat) : Int)) = true:=by rw [beq_iff_eq];omega
    clear hok
    go_wp2
    go_quiet (fail)
    obtain ⟨w2,hw2⟩ : ∃ y,w1.drewN nq = y:=⟨_,rfl⟩
    have HSt2 : Kept (St w2 B gN gU q1):=kp (by rw [← hw2];exact HSt.out.drewN nq)
    have HB2 : Kept (Below B w w2):=kp (by rw [← hw2];exact below_drewN HB1.out nq)
    have hW2 : w1.heap.size ≤ w2.heap.size:=by rw [← hw2];exact Nat.le_refl _
    replace hu1' : w2.cell? ⟨gU,1,none⟩ = some (.int .i64 (k : Int)):=by rw [← hw2];exact hu1'
    replace hco : w2.cell? ⟨gN,1 + a,none⟩ = some (.int .i64 (o : Int)):=by rw [← hw2];exact hco
    rw [hw2]
    clear hw2
    go_wp2
    go_quiet ((go_at_call 38;exact lC (HMk.out _)))
    obtain ⟨w3,hw3⟩ : ∃ y,w2.drewN nq = y:=⟨_,rfl⟩
    have HKw : Kept (Blk w3 gN 47 (pcC q1)):=kp (by rw [← hw3];exact HSt2.out.conf.drewN nq)
    have HStw : Kept (St w3 B gN gU q1):=kp (by rw [← hw3];exact HSt2.out.drewN nq)
    have HBw : Kept (Below B w w3):=kp (by rw [← hw3];exact below_drewN HB2.out nq)
    have hWs : w1.heap.size ≤ w3.heap.size:=by rw [← hw3];exact hW2
    rw [hw3]
    clear hw3 hu0 hu1' hu4 hco
    go_wp2_with (first
      | ((with_reducible show Sn);go_must (refine jD rfl 3 (.tmp 28) _ rfl gN (1 + a) (.int .i64 ((0 : Nat) : Int)) rfl rfl rfl rfl _ _ HKw.out (by rw [HL17.out];omega) qN ?_);intro w5 hk5 hg5 hs5;have HFin:=kp (HStw.out.owns hk5 hg5 hs5);have HB5:=kp (HBw.out.grown hg5 (by omega) (fun k e => by cases e;exact hlow));clear hk5 hg5))
    go_end0
    exact ⟨rfl,_,HFin.out,HGoal.out,HB5.out⟩
  · have HGoal : Kept (q1.cf = M.act q.cf k x way):=kp (by rw [HAct.out,if_neg hok];rfl)
    have hoe : ((o : Int) == ((k + 1 : Nat) : Int)) = false:=by rw [beq_eq_false_iff_ne];omega
    clear hok
    go_wp2
    go_quiet (fail)
    obtain ⟨w2,hw2⟩ : ∃ y,w1.drewN nq = y:=⟨_,rfl⟩
    have HSt2 : Kept (St w2 B gN gU q1):=kp (by rw [← hw2];exact HSt.out.drewN nq)
    have HB2 : Kept (Below B w w2):=kp (by rw [← hw2];exact below_drewN HB1.out nq)
    have hW2 : w1.heap.size ≤ w2.heap.size:=by rw [← hw2];exact Nat.le_refl _
    replace hu1' : w2.cell? ⟨gU,1,none⟩ = some (.int .i64 (k : Int)):=by rw [← hw2];exact hu1'
    replace hco : w2.cell? ⟨gN,1 + a,none⟩ = some (.int .i64 (o : Int)):=by rw [← hw2];exact hco
    rw [hw2]
    clear hw2
    go_wp2
    go_quiet ((go_at_call 38;exact lC (HMk.out _)))
    go_wp2
    go_end0
    exact ⟨rfl,_,HSt2.out.drewN nq,HGoal.out,below_drewN HB2.out nq⟩
end Go.Proofs.YtfiafbflhglpeaaDoor
