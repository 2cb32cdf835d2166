/- RaceR1, SemROwn, SemRB, SemR4. -/
import Derived.Test.YtcbfghcdbmlneaaPk16
import Derived.Test.YtcbfghcdbmlneaaPk22
import Derived.Test.YtcbfghcdbmlneaaSemR3
import Derived.BigQuiet
import Derived.Test.YtcbfghcdbmlneaaPk18
import Derived.Test.YtcbfghcdbmlneaaPk14
import Derived.Test.YtcbfghcdbmlneaaSemPb
import Derived.Test.YtcbfghcdbmlneaaPk10
namespace Go.Proofs.Ytcbfghcdbmlneaa
open Go.RowKit
set_option maxRecDepth 100000 in
set_option maxHeartbeats 1600000 in
theorem ra_at (B : Nat) (p : Pg) (hf : Fine p) (q : Rc) (w : World) (hp : p.Ok w B) (hq : q.Ok w B) (hg : M.Good p q.cf) (hB : B ≤ w.heap.size) (t : Int) (ht : I64 t) (gl how : Int) (ha : M.acc p q.cf t = (gl,how)) :
    Calls Try.prog 48 #[pgA p,rcA q,.int .i64 t] w fun e w' => e = .returned (.tuple #[.int .i64 gl,.int .i64 how]) ∧ Below w.heap.size w w':=by
  have h8 : q.len ≤ 8:=by rw [← hq.len];exact hg.most
  have HQ18:=kp (l9 hg.owns)
  have HP:=kp hp;have HQ:=kp hq;have HT:=kp ht;have HG:=kp hg;have HF:=kp hf
  cases hlv : M.lives q.cf t
  · have HLv:=kp hlv
    rw [acc_out hlv] at ha
    have e1 : (0 : Int) = gl:=congrArg Prod.fst ha
    have e2 : (0 : Int) = how:=congrArg Prod.snd ha
    subst e1 e2
    clear hp hq ht hg hf ha hlv
    rw [q8,jL]
    go_enter Try.func48,Try.ntmps48
    go_wp2_with (first
      | ((with_reducible refine j6 rfl 46 (.tmp 0) rfl (pgC p) rfl ?_);intro g1 w1 hg1 hk1 hw1;have HK1:=kp hk1;have HW1:=kp hw1;have hs1:=hw1.size;have hl1:=hk1.lt;clear hk1 hw1)
      | ((with_reducible refine j6 rfl 63 (.tmp 1) rfl (rcC q) rfl ?_);intro g2 w2 hg2 hk2 hw2;have HK2:=kp hk2;have HK12:=kp (HK1.out.below hw2 hl1);have HW2:=kp (HW1.out.trans (hw2.mono hs1));have hs2:=HW2.out.size;have hl12:=HK12.out.lt;have hl2:=hk2.lt;clear hk2 hw2)
      | ((with_reducible show Sl 9);go_must (refine j4 rfl 63 (.tmp 4) rfl g2 rfl _ (rcC q) _ HK2.out Try.underlying63 rfl (by rw [HQ18.out];exact jA) ?_))
      | (go_at_call 71;go_must (refine (qU B q w2 (HQ.out.below (HW2.out.mono hB)) (by omega) (by omega) t HT.out false HLv.out).mono ?_);rintro e w4 ⟨rfl,hb4⟩
         have HW4:=kp (HW2.out.trans (hb4.mono hs2));clear hb4))
    go_ret2
    exact ⟨rfl,HW4.out⟩
  · obtain ⟨k,rfl⟩ : ∃ k : Nat,t = (k : Int):=⟨t.toNat,by
      unfold M.lives at hlv
      rw [Bool.and_eq_true,decide_eq_true_eq] at hlv
      omega⟩
    obtain ⟨x,hx⟩ : ∃ x,M.node p q.cf k = x:=⟨_,rfl⟩
    have hlv2:=hlv
    rw [M.lives_nat] at hlv2
    have HLv:=kp hlv;have HLv2:=kp hlv2;have HX:=kp hx
    have ha2 : (if x.kind = 1 ∨ x.kind = 2 then (x.arg,x.kind) else (0,0)) = (gl,how):=by
      rw [← ha]
      unfold M.acc
      rw [Int.toNat_natCast,hx,hlv]
      simp
    have HEx : Kept (ndC x = [.int .i64 x.kind,.int .i64 x.arg,.int .i64 x.next,.int .i64 x.alt]):=kp rfl
    clear hp hq ht hg hf ha hlv hlv2 hx
    by_cases hk : x.kind = 1 ∨ x.kind = 2
    · rw [if_pos hk] at ha2
      have e1 : x.arg = gl:=congrArg Prod.fst ha2
      have e2 : x.kind = how:=congrArg Prod.snd ha2
      have HE1:=kp e1;have HE2:=kp e2
      clear ha2 e1 e2
      have e12 : (x.kind != 1) = false ∨ (x.kind != 1) = true ∧ (x.kind != 2) = false:=by
        rcases hk with h | h
        · exact .inl (by rw [h];rfl)
        · exact .inr ⟨by rw [h];rfl,by rw [h];rfl⟩
      clear hk
      obtain ⟨kd,hkd⟩ : ∃ kd,x.kind = kd:=⟨_,rfl⟩
      obtain ⟨ar,har⟩ : ∃ ar,x.arg = ar:=⟨_,rfl⟩
      rw [hkd,har] at HEx
      rw [har] at HE1
      rw [hkd] at HE2 e12
      clear hkd har
      rcases e12 with e1 | ⟨e1,e2⟩
      all_goals
        rw [q8,jL]
        go_enter Try.func48,Try.ntmps48
        go_wp2_with (first
          | ((with_reducible refine j6 rfl 46 (.tmp 0) rfl (pgC p) rfl ?_);intro g1 w1 hg1 hk1 hw1;have HK1:=kp hk1;have HW1:=kp hw1;have hs1:=hw1.size;have hl1:=hk1.lt;clear hk1 hw1)
          | ((with_reducible refine j6 rfl 63 (.tmp 1) rfl (rcC q) rfl ?_);intro g2 w2 hg2 hk2 hw2;have HK2:=kp hk2;have HK12:=kp (HK1.out.below hw2 hl1);have HW2:=kp (HW1.out.trans (hw2.mono hs1));have hs2:=HW2.out.size;have hl12:=HK12.out.lt;have hl2:=hk2.lt;clear hk2 hw2)
          | ((with_reducible show Sl 9);go_must (refine j4 rfl 63 (.tmp 4) rfl g2 rfl _ (rcC q) _ HK2.out Try.underlying63 rfl (by rw [HQ18.out];exact jA) ?_))
          | (go_at_call 71;go_must (refine (qU B q w2 (HQ.out.below (HW2.out.mono hB)) (by omega) (by omega) (k : Int) HT.out true HLv.out).mono ?_);rintro e w4 ⟨rfl,hb4⟩
             have HW4:=kp (HW2.out.trans (hb4.mono hs2));have HK24:=kp (HK2.out.below hb4 hl2);have HK14:=kp (HK12.out.below hb4 hl12);have hs4:=HW4.out.size;clear hb4)
          | ((with_reducible show Sl 13);go_must (refine j4 rfl 63 (.tmp 4) rfl g2 rfl _ (rcC q) _ HK24.out Try.underlying63 rfl (by rw [HQ18.out];exact jA) ?_))
          | ((with_reducible show Sl 14);go_must (refine j4 rfl 46 (.tmp 3) rfl g1 rfl _ (pgC p) _ HK14.out Try.underlying46 rfl jF ?_))
          | (go_at_call 72;go_must (refine (xO B p HF.out q w4 (HP.out.below (HW4.out.mono hB)) (HQ.out.below (HW4.out.mono hB)) HG.out (by omega) k HLv2.out x HX.out).mono ?_);rintro e w5 ⟨rfl,hb5⟩
             have HW5:=kp (HW4.out.trans (hb5.mono hs4));have hs5:=HW5.out.size;clear hb5)
          | ((with_reducible show Sl 8);go_must (refine j7 rfl 97 rfl (ndC ⟨0,0,0,0⟩) l0 ?_);intro g3 w7 hg3 hk7 hw7;have HK37:=kp hk7;have HG3:=kp hg3;have HW7:=kp (HW5.out.trans (hw7.mono hs5));clear hk7 hw7 hg3)
          | ((with_reducible show Sn);go_must (refine j5 rfl 97 (.tmp 8) (.tmp 16) rfl g3 (ndC x) rfl rfl _ _ HK37.out jO rfl (l5 _) ?_);intro w6 hk6 hg6 hs6
             have HW6:=kp (HW7.out.grown hg6 HW7.out.size (fun k e => by cases e;have:=HG3.out;omega));clear hg6 hs6
             rw [HEx.out] at hk6;have hx0:=hk6.cell 0;have hx1:=hk6.cell 1;simp only [List.getElem?_cons_zero,List.getElem?_cons_succ] at hx0 hx1;clear hk6))
        go_quiet (fail)
        go_wp2
        go_ret2
        exact ⟨by rw [HE1.out,HE2.out];rfl,below_drewN HW6.out _⟩
    · rw [if_neg hk] at ha2
      have e1 : (0 : Int) = gl:=congrArg Prod.fst ha2
      have e2 : (0 : Int) = how:=congrArg Prod.snd ha2
      subst e1 e2
      have n1 : (x.kind != 1) = true:=by rw [bne_iff_ne];omega
      have n2 : (x.kind != 2) = true:=by rw [bne_iff_ne];omega
      clear ha2 hk
      rw [q8,jL]
      go_enter Try.func48,Try.ntmps48
      go_wp2_with (first
        | ((with_reducible refine j6 rfl 46 (.tmp 0) rfl (pgC p) rfl ?_);intro g1 w1 hg1 hk1 hw1;have HK1:=kp hk1;have HW1:=kp hw1;have hs1:=hw1.size;have hl1:=hk1.lt;clear hk1 hw1)
        | ((with_reducible refine j6 rfl 63 (.tmp 1) rfl (rcC q) rfl ?_);intro g2 w2 hg2 hk2 hw2;have HK2:=kp hk2;have HK12:=kp (HK1.out.below hw2 hl1);have HW2:=kp (HW1.out.trans (hw2.mono hs1));have hs2:=HW2.out.size;have hl12:=HK12.out.lt;have hl2:=hk2.lt;clear hk2 hw2)
        | ((with_reducible show Sl 9);go_must (refine j4 rfl 63 (.tmp 4) rfl g2 rfl _ (rcC q) _ HK2.out Try.underlying63 rfl (by rw [HQ18.out];exact jA) ?_))
        | (go_at_call 71;go_must (refine (qU B q w2 (HQ.out.below (HW2.out.mono hB)) (by omega) (by omega) (k : Int) HT.out true HLv.out).mono ?_);rintro e w4 ⟨rfl,hb4⟩
           have HW4:=kp (HW2.out.trans (hb4.mono hs2));have HK24:=kp (HK2.out.below hb4 hl2);have HK14:=kp (HK12.out.below hb4 hl12);have hs4:=HW4.out.size;clear hb4)
        | ((with_reducible show Sl 13);go_must (refine j4 rfl 63 (.tmp 4) rfl g2 rfl _ (rcC q) _ HK24.out Try.underlying63 rfl (by rw [HQ18.out];exact jA) ?_))
        | ((with_reducible show Sl 14);go_must (refine j4 rfl 46 (.tmp 3) rfl g1 rfl _ (pgC p) _ HK14.out Try.underlying46 rfl jF ?_))
        | (go_at_call 72;go_must (refine (xO B p HF.out q w4 (HP.out.below (HW4.out.mono hB)) (HQ.out.below (HW4.out.mono hB)) HG.out (by omega) k HLv2.out x HX.out).mono ?_);rintro e w5 ⟨rfl,hb5⟩
           have HW5:=kp (HW4.out.trans (hb5.mono hs4));have hs5:=HW5.out.size;clear hb5)
        | ((with_reducible show Sl 8);go_must (refine j7 rfl 97 rfl (ndC ⟨0,0,0,0⟩) l0 ?_);intro g3 w7 hg3 hk7 hw7;have HK37:=kp hk7;have HG3:=kp hg3;have HW7:=kp (HW5.out.trans (hw7.mono hs5));clear hk7 hw7 hg3)
        | ((with_reducible show Sn);go_must (refine j5 rfl 97 (.tmp 8) (.tmp 16) rfl g3 (ndC x) rfl rfl _ _ HK37.out jO rfl (l5 _) ?_);intro w6 hk6 hg6 hs6
           have HW6:=kp (HW7.out.grown hg6 HW7.out.size (fun k e => by cases e;have:=HG3.out;omega));clear hg6 hs6
           rw [HEx.out] at hk6;have hx0:=hk6.cell 0;simp only [List.getElem?_cons_zero] at hx0;clear hk6))
      go_ret2
      exact ⟨rfl,HW6.out⟩
set_option maxRecDepth 100000 in
set_option maxHeartbeats 3200000 in
theorem ra_pair (B : Nat) (p : Pg) (hf : Fine p) (q : Rc) (w : World) (hp : p.Ok w B) (hq : q.Ok w B) (hg : M.Good p q.cf) (hB : B ≤ w.heap.size) (a b g : Int) (ha : I64 a) (hb : I64 b) (r : Bool) (hr : M.pair p q.cf a b g = r) :
    Calls Try.prog 45 #[pgA p,rcA q,.int .i64 a,.int .i64 b,.int .i64 g] w fun e w' => e = .returned (.bool r) ∧ Below w.heap.size w w':=by
  have HQ18:=kp (l9 hg.owns)
  have HP:=kp hp;have HQ:=kp hq;have HG:=kp hg;have HF:=kp hf;have HA:=kp ha;have HB:=kp hb
  obtain ⟨x,hx⟩ : ∃ x,(M.acc p q.cf a).1 = x:=⟨_,rfl⟩
  obtain ⟨h1,hh1⟩ : ∃ h1,(M.acc p q.cf a).2 = h1:=⟨_,rfl⟩
  obtain ⟨y,hy⟩ : ∃ y,(M.acc p q.cf b).1 = y:=⟨_,rfl⟩
  obtain ⟨h2,hh2⟩ : ∃ h2,(M.acc p q.cf b).2 = h2:=⟨_,rfl⟩
  have HAa : Kept (M.acc p q.cf a = (x,h1)):=kp (by rw [← hx,← hh1])
  have HAb : Kept (M.acc p q.cf b = (y,h2)):=kp (by rw [← hy,← hh2])
  have t1:=M.acc_two p q.cf a
  have t2:=M.acc_two p q.cf b
  rw [hh1] at t1
  rw [hh2] at t2
  have hr2 : decide (a ≠ b ∧ 0 < h1 ∧ 0 < h2 ∧ x = y ∧ x = g ∧ 2 < h1 + h2) = r:=by
    rw [← hr];unfold M.pair;rw [hx,hh1,hy,hh2]
  clear hp hq hg hf ha hb hx hh1 hy hh2 hr
  rw [q8,jL]
  go_enter Try.func45,Try.ntmps45
  have HR2:=kp hr2;have HT1:=kp t1;have HT2:=kp t2
  clear hr2 t1 t2
  go_wp2_with (first
    | ((with_reducible refine j6 rfl 46 (.tmp 0) rfl (pgC p) rfl ?_);intro g1 w1 hg1 hk1 hw1;have HK1:=kp hk1;have HW1:=kp hw1;have hs1:=hw1.size;have hl1:=hk1.lt;clear hk1 hw1)
    | ((with_reducible refine j6 rfl 63 (.tmp 1) rfl (rcC q) rfl ?_);intro g2 w2 hg2 hk2 hw2;have HK2:=kp hk2;have HK12:=kp (HK1.out.below hw2 hl1);have HW2:=kp (HW1.out.trans (hw2.mono hs1));have hs2:=HW2.out.size;have hl12:=HK12.out.lt;have hl2:=hk2.lt;clear hk2 hw2)
    | ((with_reducible show Sl 16);go_must (refine j4 rfl 46 (.tmp 5) rfl g1 rfl _ (pgC p) _ HK12.out Try.underlying46 rfl jF ?_))
    | ((with_reducible show Sl 17);go_must (refine j4 rfl 63 (.tmp 6) rfl g2 rfl _ (rcC q) _ HK2.out Try.underlying63 rfl (by rw [HQ18.out];exact jA) ?_))
    | (go_at_call 48;fail))
  refine (ra_at B p HF.out q w2 (HP.out.below (HW2.out.mono hB)) (HQ.out.below (HW2.out.mono hB)) HG.out (by omega) a HA.out x h1 HAa.out).mono ?_
  rintro e w3 ⟨rfl,hb3⟩
  have HW3:=kp (HW2.out.trans (hb3.mono hs2));have HK13:=kp (HK12.out.below hb3 hl12);have HK23:=kp (HK2.out.below hb3 hl2);have hs3:=HW3.out.size
  clear hb3
  go_wp2_with (first
    | ((with_reducible show Sl 23);go_must (refine j4 rfl 46 (.tmp 5) rfl g1 rfl _ (pgC p) _ HK13.out Try.underlying46 rfl jF ?_))
    | ((with_reducible show Sl 24);go_must (refine j4 rfl 63 (.tmp 6) rfl g2 rfl _ (rcC q) _ HK23.out Try.underlying63 rfl (by rw [HQ18.out];exact jA) ?_))
    | (go_at_call 48;fail))
  refine (ra_at B p HF.out q w3 (HP.out.below (HW3.out.mono hB)) (HQ.out.below (HW3.out.mono hB)) HG.out (by omega) b HB.out y h2 HAb.out).mono ?_
  rintro e w4 ⟨rfl,hb4⟩
  have HW4:=kp (HW3.out.trans (hb4.mono hs3))
  clear hb4
  by_cases hab : a = b
  · have b1 : (a != b) = false:=by rw [bne_eq_false_iff_eq];exact hab
    have HE : Kept (false = r):=kp (by rw [← HR2.out,decide_eq_false];intro h;exact h.1 hab)
    clear hab
    go_wp2
    go_ret
    exact ⟨jQ HE.out,HW4.out⟩
  have b1 : (a != b) = true:=by rw [bne_iff_ne];exact hab
  have HAB:=kp hab
  clear hab
  by_cases hz : h1 = 0 ∨ h2 = 0
  · have HE : Kept (false = r):=kp (by rw [← HR2.out,decide_eq_false];rintro ⟨_,i1,i2,_⟩;omega)
    by_cases z1 : h1 = 0
    · subst z1
      go_wp2
      go_ret
      exact ⟨jQ HE.out,HW4.out⟩
    · have z2 : h2 = 0:=by omega
      subst z2
      have p1 : 0 < h1:=by have:=HT1.out;omega
      clear hz z1
      go_wp2
      go_ret
      exact ⟨jQ HE.out,HW4.out⟩
  have p1 : 0 < h1:=by have:=HT1.out;omega
  have p2 : 0 < h2:=by have:=HT2.out;omega
  have hh1 : h1 ≤ 2:=by have:=HT1.out;omega
  have hh2 : h2 ≤ 2:=by have:=HT2.out;omega
  clear hz
  by_cases hxy : x = y
  · have b2 : (x == y) = true:=by rw [beq_iff_eq];exact hxy
    by_cases hxg : x = g
    · have b3 : (x == g) = true:=by rw [beq_iff_eq];exact hxg
      have HE : Kept (decide (2 < h1 + h2) = r):=kp (by
        rw [← HR2.out]
        by_cases h : 2 < h1 + h2
        · rw [decide_eq_true h,decide_eq_true ⟨HAB.out,p1,p2,hxy,hxg,h⟩]
        · rw [decide_eq_false h,decide_eq_false (fun h2 => h h2.2.2.2.2.2)])
      clear hxy hxg
      go_wp2
      go_ret
      exact ⟨jQ HE.out,HW4.out⟩
    · have b3 : (x == g) = false:=by rw [beq_eq_false_iff_ne];exact hxg
      have HE : Kept (false = r):=kp (by rw [← HR2.out,decide_eq_false];rintro ⟨_,_,_,_,h,_⟩;exact hxg h)
      clear hxg hxy
      go_wp2
      go_ret
      exact ⟨jQ HE.out,HW4.out⟩
  · have b2 : (x == y) = false:=by rw [beq_eq_false_iff_ne];exact hxy
    have HE : Kept (false = r):=kp (by rw [← HR2.out,decide_eq_false];rintro ⟨_,_,_,h,_⟩;exact hxy h)
    clear hxy
    go_wp2
    go_ret
    exact ⟨jQ HE.out,HW4.out⟩
theorem xE {P : Program} {ops : Array Oper} {rest : List Oper} {o : Oper} {a : Act} {w : World} {Q : Exit → Act → World → Prop} (hgd : o.guard = none) (s x : Operand) (t : TypeId)
    (ho : o.op = .call { callee:=.builtin .append,args:=#[s,x],argTypes:=#[t,t] })
    (B : Nat) (e : TypeId) (sz : Nat) (z : Value) (bytes : Nat) (ht : P.underlying t = some (.slice e)) (hi : (P.info? e).map (fun i => (i.zero,i.size,i.bytes)) = some (some z,sz,bytes)) (hzs : z.cells.size = sz) (hsz : 0 < sz)
    {α : Type} (f : α → Nat → Value) (hone : ∀ x j,(f x j).oneCell' = true) (g : Nat) (hs : a.eval s = .slice (some ⟨g,0,none⟩) 0 0) (hown : OwnR sz f w B e (.slice (some ⟨g,0,none⟩) 0 0) ([] : List α)) (A : Option Addr) (m c C : Nat) (news : List α) (hx : a.eval x = .slice A m c) (hr : Recs sz f w C A m news)
    (h63 : m ≤ maxLen) (hbytes : m * bytes ≤ 140737488355328) (hB : B ≤ w.heap.size)
    (h : ∀ g' c' w',OwnR sz f w' B e (.slice (some ⟨g',0,none⟩) m c') news → Below w.heap.size w w' → (g' = g ∨ w.heap.size ≤ g') → wpList P ops Q rest (a.put o.dst (.slice (some ⟨g',0,none⟩) m c')) w') : wpList P ops Q (o :: rest) a w:=by
  refine wpList_plain hgd fun K hK => ?_
  have key : ∃ g' c' w',(Builtin.append_ #[t,t] o.type #[.slice (some ⟨g,0,none⟩) 0 0,.slice A m c]).run P w = .ok (.slice (some ⟨g',0,none⟩) m c') w' ∧ OwnR sz f w' B e (.slice (some ⟨g',0,none⟩) m c') news ∧ Below w.heap.size w w' ∧ (g' = g ∨ w.heap.size ≤ g'):=by
    rcases Nat.eq_zero_or_pos m with h0 | h0
    · subst h0
      have hn : news = []:=List.eq_nil_of_length_eq_zero hr.len
      subst hn
      obtain ⟨i,hi0,hzz⟩:=Option.map_eq_some_iff.1 hi
      refine ⟨g,0,w,?_,hown,Below.refl _ _,.inl rfl⟩
      cases A with
      | none => simp [Builtin.append_,run_underlying ht,sizeOf,typeInfo,hi0,Builtin.lenOf,Builtin.firstCells,storeCells]
      | some ad =>
        have hl : (loadCells ad 0).run P w = .ok #[] w:=run_loadCells_list (P:=P) w ad [] (fun j v h => by simp at h)
        simp [Builtin.append_,run_underlying ht,sizeOf,typeInfo,hi0,Builtin.lenOf,Builtin.firstCells,storeCells,hl]
    · obtain ⟨v',w',hrun,h2,h3⟩:=LC (P:=P) t o.type B e sz z bytes ht hi hzs hsz f hone w _ [] hown A m c C news hr (by simpa using h63) (by simpa using hbytes) hB
      obtain ⟨i,hi0,hzz⟩:=Option.map_eq_some_iff.1 hi
      simp only [Prod.mk.injEq] at hzz
      obtain ⟨hz,hsize,hby⟩:=hzz
      obtain ⟨ad,rfl,_,hc⟩:=hr.cells h0
      have hcl : (cellsR sz f news).length = m * sz:=by rw [qJ,hr.len]
      have hcells : ∀ j u,(cellsR sz f news)[j]? = some u → w.cell? (ad.add j) = some u:=by
        intro j u hu
        have hj : j < m * sz:=by
          have:=(List.getElem?_eq_some_iff.1 hu).1
          rw [hcl] at this;exact this
        have hd : j / sz < m:=by
          rcases Nat.lt_or_ge (j / sz) m with h | h
          · exact h
          · have h1:=Nat.mul_le_mul_right sz h
            have h2:=Nat.div_mul_le_self j sz
            omega
        have hr2 : j % sz < sz:=Nat.mod_lt _ hsz
        have hq : j = j / sz * sz + j % sz:=by have:=Nat.div_add_mod j sz;rw [Nat.mul_comm] at this;omega
        have hx : news[j / sz]? = some (news[j / sz]'(by rw [hr.len];exact hd)):=List.getElem?_eq_getElem _
        have h1:=hc _ _ hx _ hr2
        have h2:=lZ sz f news _ _ _ hx hr2
        rw [← hq] at h1 h2
        rw [h2] at hu
        rw [h1,Option.some.inj hu]
      have hsm : m ≤ 9223372036854775807:=by unfold maxLen at h63;omega
      have hr2:=run_append_grow (P:=P) w t o.type e i z ht hi0 hz ⟨g,0,none⟩ 0 0 [] (by simp) (fun j v h => by simp at h) ad m c (cellsR sz f news) (by rw [hsize];exact hcl) hcells (by omega) (by omega) (growslice_fits (by omega) (by rw [hby];simpa using hbytes))
      rw [hrun] at hr2
      injection hr2 with e1 e2
      subst e1
      rw [Nat.zero_add] at hrun h2
      refine ⟨w.heap.size,_,w',hrun,by simpa using h2,?_,.inr (Nat.le_refl _)⟩
      rw [e2]
      exact ⟨rfl,rfl,rfl,by simp,fun k hk => Below.heap_alloc w.drew _ k hk⟩
  obtain ⟨g',c',w',hrun,h1,h2,h3⟩:=key
  unfold Oper.wp execOp
  simp only [ho,resolve,invoke,builtin,Sem.run_bind,Sem.run_pure,Result.andThen_ok,List.map_toArray,List.map_cons,List.map_nil,hs,hx,hrun]
  exact hK _ _ (h g' c' w' h1 h2 h3)
def svR (x : Sv) (_ : Nat) : Value:=svV x
theorem XQ (x : Sv) (j : Nat) : (svR x j).oneCell' = true:=rfl
theorem recs_row {w : World} {B n : Nat} {A : Option Addr} {l : List Sv} (h : Recs 1 svR w B A n l) : Row svV w B A n l :=
  ⟨h.len,fun h0 => by
    obtain ⟨ad,e,hb,hc⟩:=h.cells h0
    refine ⟨ad,e,hb,fun k hk => ?_⟩
    have hx : l[k]? = some (l[k]'(by rw [h.len];exact hk)):=List.getElem?_eq_getElem _
    have:=hc k _ hx 0 (by omega)
    rw [hx]
    rw [Nat.mul_one,Nat.add_zero] at this
    exact this⟩
structure RMine (w : World) (B : Nat) (q : Rc) : Prop where
  row : OwnR 1 svR w B 148 (.slice q.A q.len q.cap) q.svs
  slr : OwnR 8 slV w B 149 (.slice q.A2 q.len q.cap2) q.sls
  fam : Fam 147 w B (fun b => (Value.slice q.A q.len q.cap).ownBlock = some b ∨ (Value.slice q.A2 q.len q.cap2).ownBlock = some b) q.svs
  ne : ∀ b,(Value.slice q.A q.len q.cap).ownBlock = some b → (Value.slice q.A2 q.len q.cap2).ownBlock ≠ some b
theorem RMine.ok {w : World} {B : Nat} {q : Rc} (h : RMine w B q) : q.Ok w w.heap.size :=
  ⟨recs_row h.row.recs,h.slr.recs,h.row.len_is.2,h.slr.len_is.2,fun x hx => by
    obtain ⟨k,hk⟩:=List.mem_iff_getElem?.1 hx
    have ho:=h.fam.own k x hk
    exact ⟨ho.recs,ho.len_is.2.1,ho.len_is.2.2⟩⟩
theorem RMine.below {w w' : World} {B C : Nat} {q : Rc} (h : RMine w B q) (hb : Below C w w') (hC : w.heap.size ≤ C) : RMine w' B q:=⟨h.row.below hb hC,h.slr.below hb hC,h.fam.below hb hC,h.ne⟩
theorem RMine.far {w w' : World} {B g : Nat} {q : Rc} (h : RMine w B q) (hg : w.grownBy w' (some g)) (hB : g < B ∨ w.heap.size ≤ g) : RMine w' B q:=by
  have key : ∀ b,B ≤ b ∧ b < w.heap.size → b ≠ g:=fun b hb e => by subst e;omega
  have k1 : ∀ v : Value,(∀ b,v.ownBlock = some b → B ≤ b ∧ b < w.heap.size) → v.ownBlock = none ∨ v.ownBlock ≠ some g:=fun v hv => by
    cases h1 : v.ownBlock with
    | none => exact .inl rfl
    | some b => exact .inr fun e => key b (hv b h1) (by cases e;rfl)
  exact ⟨h.row.far hg (k1 _ h.row.block),h.slr.far hg (k1 _ h.slr.block),⟨fun k x hx => (h.fam.own k x hx).far hg (k1 _ fun b hb => h.fam.block hx hb),h.fam.out,h.fam.apart⟩,h.ne⟩
theorem zX {v : Value} {g : Nat} (h : ∀ b,v.ownBlock = some b → b ≠ g) : v.ownBlock = none ∨ v.ownBlock ≠ some g:=by
  cases hv : v.ownBlock with
  | none => exact .inl rfl
  | some b => exact .inr fun e => h b hv (by cases e;rfl)
theorem OwnR.room_or {α : Type} {sz : Nat} {f : α → Nat → Value} {w : World} {B : Nat} {e : TypeId} {A : Option Addr} {n cap : Nat} {l : List α} (h : OwnR sz f w B e (.slice A n cap) l) :
    (∃ g,A = some ⟨g,0,none⟩ ∧ n + 1 ≤ cap) ∨ (Value.slice A n cap = .slice none 0 0 ∨ ∃ g,Value.slice A n cap = .slice (some ⟨g,0,none⟩) l.length l.length):=by
  rcases h.2 with ⟨hv,hz⟩ | ⟨g,cap',cur,hv,hB,hg,hn,hm,hs,ht⟩
  · exact .inr (.inl hv)
  · injection hv with e1 e2 e3
    by_cases hr : n + 1 ≤ cap
    · exact .inl ⟨g,e1,hr⟩
    · refine .inr (.inr ⟨g,?_⟩)
      rw [e1,e2,show cap = l.length by omega]
section
variable {P : Program} {ops : Array Oper} {rest : List Oper} {o : Oper} {a : Act} {w : World} {Q : Exit → Act → World → Prop} {α : Type}
theorem lU (hgd : o.guard = none) (s x : Operand) (t : TypeId)
    (ho : o.op = .call { callee:=.builtin .append,args:=#[s,x],argTypes:=#[t,t] })
    (B : Nat) (e : TypeId) (sz : Nat) (z : Value) (bytes : Nat) (ht : P.underlying t = some (.slice e)) (hi : (P.info? e).map (fun i => (i.zero,i.size,i.bytes)) = some (some z,sz,bytes)) (hzs : z.cells.size = sz) (hsz : 0 < sz)
    (f : α → Nat → Value) (hone : ∀ x j,(f x j).oneCell' = true)
    (A : Option Addr) (cap n : Nat) (l : List α) (hn : l.length = n) (u : α) (hs : a.eval s = .slice A n cap) (hown : OwnR sz f w B e (.slice A n cap) l) (hfull : Value.slice A n cap = .slice none 0 0 ∨ ∃ g,Value.slice A n cap = .slice (some ⟨g,0,none⟩) l.length l.length)
    (gn c : Nat) (hx : a.eval x = .slice (some ⟨gn,0,none⟩) 1 c) (hbk : Blk w gn e ((List.range sz).map (f u))) (h63 : n + 1 ≤ maxLen) (hbytes : (n + 1) * bytes ≤ 140737488355328) (hB : B ≤ w.heap.size)
    (h : ∀ g c' w',OwnR sz f w' B e (.slice (some ⟨g,0,none⟩) (n + 1) c') (l ++ [u]) → Below w.heap.size w w' → w.heap.size ≤ g → wpList P ops Q rest (a.put o.dst (.slice (some ⟨g,0,none⟩) (n + 1) c')) w') : wpList P ops Q (o :: rest) a w:=by
  subst hn
  refine qO hgd s x t ho B e sz z bytes ht hi hzs hsz f hone _ l u hs hown hfull gn c hx hbk h63 hbytes hB fun v' w' h1 h2 h3 => ?_
  obtain ⟨A',c',rfl,_⟩:=h1.form
  rw [List.length_append,List.length_singleton] at h1 h3 ⊢
  cases A' with
  | none => cases h3
  | some ad =>
    have e1 : ad.block = w.heap.size:=by injection h3
    obtain ⟨g,cur,hA,_⟩:=h1.blk (by omega)
    injection hA with hA
    subst hA
    exact h g c' w' h1 h2 (by rw [← e1];exact Nat.le_refl _)
end
structure RB (w : World) (B gO gR : Nat) (A : Option Addr) (n cap : Nat) (svs : List Sv) (A2 : Option Addr) (n2 cap2 : Nat) (sls : List (List Nat)) (ow : List Nat) : Prop where
  conf : Blk w gO 63 (.slice A n cap :: .slice A2 n2 cap2 :: ow.map natV)
  row : OwnR 1 svR w B 148 (.slice A n cap) svs
  slr : OwnR 8 slV w B 149 (.slice A2 n2 cap2) sls
  fam : Fam 147 w B (fun b => b = gO ∨ b = gR ∨ (Value.slice A n cap).ownBlock = some b ∨ (Value.slice A2 n2 cap2).ownBlock = some b) svs
  ne : ∀ b,(Value.slice A n cap).ownBlock = some b → b ≠ gO ∧ b ≠ gR ∧ (Value.slice A2 n2 cap2).ownBlock ≠ some b
  ne2 : ∀ b,(Value.slice A2 n2 cap2).ownBlock = some b → b ≠ gO ∧ b ≠ gR
  low : B ≤ gO ∧ gR < w.heap.size
section
variable {w W w' : World} {B gO gR : Nat} {A A' A2 : Option Addr} {n cap cap' n2 cap2 : Nat} {svs : List Sv} {sls : List (List Nat)} {ow : List Nat}
theorem RB.below {C : Nat} (h : RB w B gO gR A n cap svs A2 n2 cap2 sls ow) (hb : Below C w w') (hC : w.heap.size ≤ C) : RB w' B gO gR A n cap svs A2 n2 cap2 sls ow :=
  ⟨h.conf.below hb (Nat.lt_of_lt_of_le h.conf.lt hC),h.row.below hb hC,h.slr.below hb hC,h.fam.below hb hC,h.ne,h.ne2,h.low.1,Nat.lt_of_lt_of_le h.low.2 hb.size⟩
theorem RB.len (h : RB w B gO gR A n cap svs A2 n2 cap2 sls ow) : svs.length = n ∧ sls.length = n2:=⟨h.row.len_is.1,h.slr.len_is.1⟩
theorem RB.mine (h : RB w B gO gR A n cap svs A2 n cap2 sls ow) : RMine w B ⟨A,cap,svs,A2,cap2,sls,n,ow⟩ :=
  ⟨h.row,h.slr,h.fam.less fun _ hb => .inl (.inr (.inr hb)),fun b hb => (h.ne b hb).2.2⟩
theorem RB.row_push {g : Nat} {sv : Sv} (h : RB w B gO gR A n cap svs A2 n2 cap2 sls ow) (hg0 : w.grownBy W (Value.slice A n cap).ownBlock) (hrow : OwnR 1 svR W B 148 (.slice (some ⟨g,0,none⟩) (n + 1) cap') (svs ++ [sv]))
    (hV : (Value.slice A n cap).ownBlock = some g ∨ w.heap.size ≤ g) (ho : OwnR 2 frV W B 147 (svV sv) sv.stack) (hs : ∀ b,(svV sv).ownBlock = some b → w.heap.size ≤ b ∧ b ≠ g)
    (hb : Blk w' gO 63 (.slice (some ⟨g,0,none⟩) (n + 1) cap' :: .slice A2 n2 cap2 :: ow.map natV)) (hg : W.grownBy w' (some gO)) (hz : W.heap.size ≤ w'.heap.size) :
    RB w' B gO gR (some ⟨g,0,none⟩) (n + 1) cap' (svs ++ [sv]) A2 n2 cap2 sls ow:=by
  have hOl:=h.conf.lt
  have hRl:=h.low.2
  have hgO : g ≠ gO:=by
    rcases hV with hV | hV
    · exact (h.ne g hV).1
    · omega
  have hgR : g ≠ gR:=by
    rcases hV with hV | hV
    · exact (h.ne g hV).2.1
    · omega
  have hs2 : ∀ b,(Value.slice A2 n2 cap2).ownBlock = some b → b ≠ g:=fun b hb2 e => by
    subst e
    rcases hV with hV | hV
    · exact (h.ne b hV).2.2 hb2
    · have:=(h.slr.block b hb2).2;omega
  have hslr : OwnR 8 slV W B 149 (.slice A2 n2 cap2) sls:=h.slr.far hg0 (by
    cases hv : (Value.slice A2 n2 cap2).ownBlock with
    | none => exact .inl rfl
    | some b => exact .inr fun e => (h.ne b e.symm).2.2 hv)
  refine ⟨hb,hrow.far hg (.inr fun e => hgO (by cases e;rfl)),hslr.far hg (zX fun b hb => (h.ne2 b hb).1),?_,fun b e => by cases e;exact ⟨hgO,hgR,fun e2 => hs2 _ e2 rfl⟩,h.ne2,h.low.1,by have:=hg0.size;omega⟩
  have f1 : Fam 147 w B (fun b => (b = gO ∨ b = gR ∨ (Value.slice A n cap).ownBlock = some b ∨ (Value.slice A2 n2 cap2).ownBlock = some b) ∨ b = g) svs:=h.fam.less fun b hb => by
    rcases hb with hb | hb
    · exact .inl hb
    · subst hb
      rcases hV with hV | hV
      · exact .inl (.inr (.inr (.inl hV)))
      · exact .inr hV
  have f2:=f1.turn hg0 (fun b e => .inl (.inr (.inr (.inl e))))
  have f3:=f2.add ho (fun b e => by
    have h1:=hs b e
    rintro ((e1 | e1 | e1 | e1) | e1)
    · omega
    · omega
    · have:=(h.row.block b e1).2;omega
    · have:=(h.slr.block b e1).2;omega
    · exact h1.2 e1) (fun k y b hy e e3 => by
    have h1:=hs b e
    have:=(f1.block hy e3).2
    omega)
  have f4:=f3.turn hg (fun b e => by cases e;exact .inl (.inl rfl))
  refine f4.less fun b hb => ?_
  rcases hb with hb | hb | hb | hb
  · exact .inl (.inl (.inl hb))
  · exact .inl (.inl (.inr (.inl hb)))
  · cases hb;exact .inl (.inr rfl)
  · exact .inl (.inl (.inr (.inr (.inr hb))))
theorem RB.slr_push {g : Nat} {sl : List Nat} (h : RB w B gO gR A n cap svs A2 n2 cap2 sls ow) (hg0 : w.grownBy W (Value.slice A2 n2 cap2).ownBlock) (hslr : OwnR 8 slV W B 149 (.slice (some ⟨g,0,none⟩) (n2 + 1) cap') (sls ++ [sl]))
    (hV : (Value.slice A2 n2 cap2).ownBlock = some g ∨ w.heap.size ≤ g)
    (hb : Blk w' gO 63 (.slice A n cap :: .slice (some ⟨g,0,none⟩) (n2 + 1) cap' :: ow.map natV)) (hg : W.grownBy w' (some gO)) (hz : W.heap.size ≤ w'.heap.size) :
    RB w' B gO gR A n cap svs (some ⟨g,0,none⟩) (n2 + 1) cap' (sls ++ [sl]) ow:=by
  have hOl:=h.conf.lt
  have hRl:=h.low.2
  have hgO : g ≠ gO:=by
    rcases hV with hV | hV
    · exact (h.ne2 g hV).1
    · omega
  have hgR : g ≠ gR:=by
    rcases hV with hV | hV
    · exact (h.ne2 g hV).2
    · omega
  have hs2 : ∀ b,(Value.slice A n cap).ownBlock = some b → b ≠ g:=fun b hb2 e => by
    subst e
    rcases hV with hV | hV
    · exact (h.ne b hb2).2.2 hV
    · have:=(h.row.block b hb2).2;omega
  have hrow : OwnR 1 svR W B 148 (.slice A n cap) svs:=h.row.far hg0 (by
    cases hv : (Value.slice A n cap).ownBlock with
    | none => exact .inl rfl
    | some b => exact .inr fun e => (h.ne b hv).2.2 e.symm)
  refine ⟨hb,hrow.far hg (zX fun b hb => (h.ne b hb).1),hslr.far hg (.inr fun e => hgO (by cases e;rfl)),?_,fun b e => ⟨(h.ne b e).1,(h.ne b e).2.1,fun e2 => by cases e2;exact hs2 _ e rfl⟩,fun b e => by cases e;exact ⟨hgO,hgR⟩,h.low.1,by have:=hg0.size;omega⟩
  have f1 : Fam 147 w B (fun b => (b = gO ∨ b = gR ∨ (Value.slice A n cap).ownBlock = some b ∨ (Value.slice A2 n2 cap2).ownBlock = some b) ∨ b = g) svs:=h.fam.less fun b hb => by
    rcases hb with hb | hb
    · exact .inl hb
    · subst hb
      rcases hV with hV | hV
      · exact .inl (.inr (.inr (.inr hV)))
      · exact .inr hV
  have f2:=f1.turn hg0 (fun b e => .inl (.inr (.inr (.inr e))))
  have f4:=f2.turn hg (fun b e => by cases e;exact .inl (.inl rfl))
  refine f4.less fun b hb => ?_
  rcases hb with hb | hb | hb | hb
  · exact .inl (.inl (.inl hb))
  · exact .inl (.inl (.inr (.inl hb)))
  · exact .inl (.inl (.inr (.inr (.inl hb))))
  · cases hb;exact .inl (.inr rfl)
theorem RB.row_set {k gS : Nat} {x sv : Sv} {cur : List Value} (h : RB w B gO gR A n cap svs A2 n2 cap2 sls ow) (hA : A = some ⟨gS,0,none⟩) (hc : Blk w gS 148 cur) (hx : svs[k]? = some x) (hg0 : w.grownBy W (svV x).ownBlock) (ho : OwnR 2 frV W B 147 (svV sv) sv.stack)
    (hbk : (svV sv).ownBlock = (svV x).ownBlock ∨ ∀ b,(svV sv).ownBlock = some b → w.heap.size ≤ b) (hb : Blk w' gS 148 (cur.set k (svV sv))) (hg : W.grownBy w' (some gS)) (hz : W.heap.size ≤ w'.heap.size) :
    RB w' B gO gR A n cap (svs.set k sv) A2 n2 cap2 sls ow:=by
  have hAb : (Value.slice A n cap).ownBlock = some gS:=by rw [hA];rfl
  have hout : ∀ b,(svV x).ownBlock = some b → ¬ (b = gO ∨ b = gR ∨ (Value.slice A n cap).ownBlock = some b ∨ (Value.slice A2 n2 cap2).ownBlock = some b):=fun b hb => h.fam.out k x b hx hb
  have hnS : some gS ≠ (svV x).ownBlock:=fun e => hout gS e.symm (.inr (.inr (.inl hAb)))
  have hnO : some gO ≠ (svV x).ownBlock:=fun e => hout gO e.symm (.inl rfl)
  have hne:=h.ne gS hAb
  refine ⟨(h.conf.grown hg0 hnO).grown hg (fun e => hne.1 (by cases e;rfl)),?_,?_,?_,h.ne,h.ne2,h.low.1,by have:=hg0.size;have:=h.low.2;omega⟩
  · have hr:=h.row.far hg0 (by rw [hAb];exact .inr hnS)
    rw [hA] at hr ⊢
    exact hr.set (x':=sv) (j:=0) hx (by omega) (fun i hi => by
      have : i = 0:=by omega
      subst this;rfl) (hc.grown hg0 hnS) rfl (by rw [Nat.mul_one,Nat.add_zero];exact hb)
  · refine (h.slr.far hg0 ?_).far hg (zX fun b hb e => hne.2.2 (by rw [← e];exact hb))
    cases hv : (Value.slice A2 n2 cap2).ownBlock with
    | none => exact .inl rfl
    | some b => exact .inr fun e => hout b e.symm (.inr (.inr (.inr hv)))
  · refine (h.fam.set hx hg0 ho hbk fun b hb2 => ?_).turn hg fun b e => by cases e;exact .inr (.inr (.inl hAb))
    rcases hb2 with rfl | rfl | hb2 | hb2
    · exact h.conf.lt
    · exact h.low.2
    · exact (h.row.block b hb2).2
    · exact (h.slr.block b hb2).2
theorem RB.goes {k : Nat} {x : Sv} (h : RB w B gO gR A n cap svs A2 n2 cap2 sls ow) (hx : svs[k]? = some x) (h0 : 0 < x.len) :
    ∃ gK cur,x.A = some ⟨gK,0,none⟩ ∧ Blk w gK 147 cur ∧ (x.len - 1) * 2 + 1 < cur.length ∧ gK ≠ gO ∧ gK ≠ gR ∧ B ≤ gK ∧ gK < w.heap.size ∧
      ∀ W w' m,Below w.heap.size w W → Blk w' gK 147 (cur.set ((x.len - 1) * 2 + 1) (.int .i64 ((m : Nat) : Int))) → W.grownBy w' (some gK) → W.heap.size ≤ w'.heap.size → RB w' B gO gR A n cap (svs.set k ⟨x.A,x.len,x.cap,M.goOn x.stack m⟩) A2 n2 cap2 sls ow:=by
  have ho:=h.fam.own k _ hx
  obtain ⟨gK,cur,hA,hb,hs,ht,hB,hn,hm,hl⟩:=ho.blk h0
  have hbk : (svV x).ownBlock = some gK:=by unfold svV;rw [hA];rfl
  have hout:=h.fam.out k _ gK hx hbk
  have hlen : (x.len - 1) * 2 + 1 < cur.length:=by rw [hs];omega
  have hgl:=hb.lt
  refine ⟨gK,cur,hA,hb,hlen,fun e => hout (.inl e),fun e => hout (.inr (.inl e)),hB,hgl,fun W w' m hW hb' hg hz => ?_⟩
  replace hb:=hb.below hW hgl
  replace h:=h.below hW (Nat.le_refl _)
  replace ho:=h.fam.own k _ hx
  have htop : x.stack[x.len - 1]? = some (M.top x.stack):=by rw [← hl];exact M.top_at (by omega)
  have hown : OwnR 2 frV w' B 147 (svV ⟨x.A,x.len,x.cap,M.goOn x.stack m⟩) (M.goOn x.stack m):=by
    have hv : svV ⟨x.A,x.len,x.cap,M.goOn x.stack m⟩ = .slice (some ⟨gK,0,none⟩) x.len x.cap:=by unfold svV;simp only;rw [hA]
    have hst : M.goOn x.stack m = x.stack.set (x.len - 1) ((M.top x.stack).1,m):=by unfold M.goOn;rw [hl]
    rw [hv,hst]
    have ho2:=ho
    unfold svV at ho2
    rw [hA] at ho2
    exact ho2.set htop (by omega) frV_go hb rfl hb'
  refine ⟨h.conf.grown hg (fun e => hout (.inl (by cases e;rfl))),?_,?_,?_,h.ne,h.ne2,h.low.1,by have:=h.low.2;omega⟩
  · refine (h.row.far hg (zX fun b hb2 e => hout (.inr (.inr (.inl (by rw [← e];exact hb2)))))).congr (by simp) (LB hx ?_)
    funext j
    rfl
  · exact h.slr.far hg (zX fun b hb2 e => hout (.inr (.inr (.inr (by rw [← e];exact hb2)))))
  · refine h.fam.set hx (by rw [hbk];exact hg) hown (.inl rfl) fun b hb2 => ?_
    rcases hb2 with rfl | rfl | hb2 | hb2
    · exact h.conf.lt
    · exact h.low.2
    · exact (h.row.block b hb2).2
    · exact (h.slr.block b hb2).2
theorem RB.owns {a o : Nat} (h : RB w B gO gR A n cap svs A2 n2 cap2 sls ow) (hb : Blk w' gO 63 ((.slice A n cap :: .slice A2 n2 cap2 :: ow.map natV : List Value).set (2 + a) (.int .i64 (o : Int)))) (hg : w.grownBy w' (some gO)) (hz : w.heap.size ≤ w'.heap.size) :
    RB w' B gO gR A n cap svs A2 n2 cap2 sls (ow.set a o):=by
  refine ⟨?_,h.row.far hg (zX fun b hb => (h.ne b hb).1),h.slr.far hg (zX fun b hb => (h.ne2 b hb).1),h.fam.turn hg fun b e => .inl (by cases e;rfl),h.ne,h.ne2,h.low.1,by have:=h.low.2;omega⟩
  have e : (.slice A n cap :: .slice A2 n2 cap2 :: ow.map natV : List Value).set (2 + a) (.int .i64 (o : Int)) = .slice A n cap :: .slice A2 n2 cap2 :: (ow.set a o).map natV:=by
    rw [show 2 + a = (a + 1) + 1 by omega,List.set_cons_succ,List.set_cons_succ,List.map_set];rfl
  rw [e] at hb
  exact hb
theorem RB.slot {k gL j o : Nat} {sl : List Nat} {cur : List Value} (h : RB w B gO gR A n cap svs A2 n2 cap2 sls ow) (hA : A2 = some ⟨gL,0,none⟩) (hc : Blk w gL 149 cur) (hx : sls[k]? = some sl) (h8 : sl.length = 8) (hj : j < 8)
    (hb : Blk w' gL 149 (cur.set (k * 8 + j) (.int .i64 (o : Int)))) (hg : w.grownBy w' (some gL)) (hz : w.heap.size ≤ w'.heap.size) : RB w' B gO gR A n cap svs A2 n2 cap2 (sls.set k (sl.set j o)) ow:=by
  have hAb : (Value.slice A2 n2 cap2).ownBlock = some gL:=by rw [hA];rfl
  have hne:=h.ne2 gL hAb
  refine ⟨h.conf.grown hg (fun e => hne.1 (by cases e;rfl)),h.row.far hg (zX fun b hb e => (h.ne b hb).2.2 (by rw [e];exact hAb)),?_,h.fam.turn hg fun b e => .inr (.inr (.inr (by cases e;exact hAb))),h.ne,h.ne2,h.low.1,by have:=h.low.2;omega⟩
  have hr:=h.slr
  rw [hA] at hr ⊢
  refine hr.set (x':=sl.set j o) hx hj (fun i hi => ?_) hc rfl hb
  show Value.int .i64 (((sl.set j o).getD i 0 : Nat) : Int) = if i = j then _ else .int .i64 ((sl.getD i 0 : Nat) : Int)
  rw [List.getD_eq_getElem?_getD,List.getElem?_set,List.getD_eq_getElem?_getD]
  by_cases e : j = i
  · subst e
    rw [if_pos rfl,if_pos (by omega),if_pos rfl];rfl
  · rw [if_neg e,if_neg (fun e2 => e e2.symm)]
end
theorem zB : (Try.prog.info? 147).map (fun i => (i.zero.map (·.cells.size),i.size)) = some (some 2,2):=by kernel_rfl
theorem JC : (Try.prog.info? 59).map (·.size) = some 1:=by kernel_rfl
theorem yU : (Try.prog.info? 60).map (·.size) = some 1:=by kernel_rfl
theorem zN : (Try.prog.info? 148).map (·.size) = some 1:=by kernel_rfl
theorem slC {sl : List Nat} (h8 : sl.length = 8) : (List.range 8).map (slV sl) = sl.map natV:=by
  match sl,h8 with
  | [a,b,c,d,e,f,g,h],_ => rfl
def Fact.empty (B K : Nat) : Fact :=
  ⟨fun v W => ∃ g,v = .slice (some ⟨g,0,none⟩) 0 0 ∧ OwnR 2 frV W B 147 (.slice (some ⟨g,0,none⟩) 0 0) [] ∧ K ≤ g,fun _ _ _ hb ⟨g,h1,h2,h3⟩ => ⟨g,h1,h2.below hb (Nat.le_refl _),h3⟩⟩
def GFact.empty (G : Nat → Prop) (B K : Nat) : GFact G :=
  ⟨fun v W => ∃ g,v = .slice (some ⟨g,0,none⟩) 0 0 ∧ OwnR 2 frV W B 147 (.slice (some ⟨g,0,none⟩) 0 0) [] ∧ K ≤ g ∧ ¬ G g,fun _ _ _ ho ⟨g,h1,h2,h3,h4⟩ => ⟨g,h1,h2.only ho (fun b e => by cases e;exact h4),h3,h4⟩⟩
def Fact.stk (B K : Nat) (x : Sv) : Fact :=
  ⟨fun v W => ∃ g c,v = .slice (some ⟨g,0,none⟩) x.len c ∧ OwnR 2 frV W B 147 (.slice (some ⟨g,0,none⟩) x.len c) x.stack ∧ K ≤ g,fun _ _ _ hb ⟨g,c,h1,h2,h3⟩ => ⟨g,c,h1,h2.below hb (Nat.le_refl _),h3⟩⟩
def GFact.stk (G : Nat → Prop) (B K : Nat) (x : Sv) : GFact G :=
  ⟨fun v W => ∃ g c,v = .slice (some ⟨g,0,none⟩) x.len c ∧ OwnR 2 frV W B 147 (.slice (some ⟨g,0,none⟩) x.len c) x.stack ∧ K ≤ g ∧ ¬ G g,fun _ _ _ ho ⟨g,c,h1,h2,h3,h4⟩ => ⟨g,c,h1,h2.only ho (fun b e => by cases e;exact h4),h3,h4⟩⟩
def Fact.one1 (B K : Nat) (x : Sv) : Fact :=
  ⟨fun v W => ∃ gn g c,v = .slice (some ⟨gn,0,none⟩) 1 1 ∧ Blk W gn 148 [.slice (some ⟨g,0,none⟩) x.len c] ∧ OwnR 2 frV W B 147 (.slice (some ⟨g,0,none⟩) x.len c) x.stack ∧ K ≤ g,fun _ _ _ hb ⟨gn,g,c,h1,h2,h3,h4⟩ => ⟨gn,g,c,h1,h2.below hb h2.lt,h3.below hb (Nat.le_refl _),h4⟩⟩
def GFact.one1 (G : Nat → Prop) (B K : Nat) (x : Sv) : GFact G :=
  ⟨fun v W => ∃ gn g c,v = .slice (some ⟨gn,0,none⟩) 1 1 ∧ Blk W gn 148 [.slice (some ⟨g,0,none⟩) x.len c] ∧ ¬ G gn ∧ OwnR 2 frV W B 147 (.slice (some ⟨g,0,none⟩) x.len c) x.stack ∧ K ≤ g ∧ ¬ G g,fun _ _ _ ho ⟨gn,g,c,h1,h2,h3,h4,h5,h6⟩ => ⟨gn,g,c,h1,ho.blk h2 h3,h3,h4.only ho (fun b e => by cases e;exact h6),h5,h6⟩⟩
def Fact.stks (B K n : Nat) (svs : List Sv) (x : Sv) : Fact :=
  ⟨fun v W => ∃ g c gV cV,v = .slice (some ⟨gV,0,none⟩) (n + 1) cV ∧ OwnR 1 svR W B 148 (.slice (some ⟨gV,0,none⟩) (n + 1) cV) (svs ++ [⟨some ⟨g,0,none⟩,x.len,c,x.stack⟩]) ∧ OwnR 2 frV W B 147 (.slice (some ⟨g,0,none⟩) x.len c) x.stack ∧ K ≤ g ∧ K ≤ gV ∧ gV ≠ g,
   fun _ _ _ hb ⟨g,c,gV,cV,h1,h2,h3,h4⟩ => ⟨g,c,gV,cV,h1,h2.below hb (Nat.le_refl _),h3.below hb (Nat.le_refl _),h4⟩⟩
def StkIn (w W : World) (B gA n cap : Nat) (svs : List Sv) (x : Sv) : Prop :=
  ∃ g c,w.grownBy W (some gA) ∧ OwnR 1 svR W B 148 (.slice (some ⟨gA,0,none⟩) (n + 1) cap) (svs ++ [⟨some ⟨g,0,none⟩,x.len,c,x.stack⟩]) ∧ OwnR 2 frV W B 147 (.slice (some ⟨g,0,none⟩) x.len c) x.stack ∧ w.heap.size ≤ g ∧ gA ≠ g
def StkDone (W : World) (B gO gR n : Nat) (st : List (List (Nat × Nat))) (A2 : Option Addr) (n2 cap2 : Nat) (sls : List (List Nat)) (ow : List Nat) : Prop :=
  ∃ A cap svs,RB W B gO gR A n cap svs A2 n2 cap2 sls ow ∧ svs.map (·.stack) = st
def SlIn (w W : World) (B gL n cap : Nat) (sls : List (List Nat)) : Prop :=
  w.grownBy W (some gL) ∧ OwnR 8 slV W B 149 (.slice (some ⟨gL,0,none⟩) (n + 1) cap) sls
def SlDone (W : World) (B gO gR : Nat) (A : Option Addr) (n cap : Nat) (svs : List Sv) (sls : List (List Nat)) (ow : List Nat) : Prop :=
  ∃ A2 cap2,RB W B gO gR A n cap svs A2 n cap2 sls ow
end Go.Proofs.Ytcbfghcdbmlneaa
