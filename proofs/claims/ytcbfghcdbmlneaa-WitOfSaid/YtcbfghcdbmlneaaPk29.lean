/- RaceR2, WWitOf. -/
import Derived.Test.YtcbfghcdbmlneaaPk23
import Derived.Test.YtcbfghcdbmlneaaPk10
import Derived.Test.YtcbfghcdbmlneaaPk28
import Derived.Test.YtcbfghcdbmlneaaPk4
import Derived.Test.YtcbfghcdbmlneaaProgRef5
import Derived.Test.YtcbfghcdbmlneaaPk26
import Derived.Test.YtcbfghcdbmlneaaPk3
import Derived.Test.YtcbfghcdbmlneaaPk1
namespace Go.Proofs.Ytcbfghcdbmlneaa
open Go.RowKit
theorem vQ {fn : Func} {t u v z : Tmp} (h : fn.results = #[.tmp t,.tmp u,.tmp v,.tmp z]) (tmps : Array Value) (P : Program) (w : World) :
    (results fn tmps).run P w = .ok (.tuple #[tmps.getD t undef,tmps.getD u undef,tmps.getD v undef,tmps.getD z undef]) w:=by
  simp [results,h]
theorem first_yes {p : Pg} {c : M.Cf} {n a b : Nat} (hn : c.ths.length = n) (hab : a < b) (hbn : b < n) (hp : M.pair p c (a : Int) (b : Int) (M.acc p c (a : Int)).1 = true) (h1 : ∀ a' b',a' < b' → b' < n → a' < a → M.NoPair p c a' b') (h2 : ∀ b',a < b' → b' < b → M.NoPair p c a b') :
    M.FirstIs p c (a : Int) (b : Int) (M.acc p c (a : Int)).1 1:=by
  refine .inl ⟨rfl,a,b,rfl,rfl,rfl,hab,by omega,fun h => ?_,fun a' b' hab' hbn' hl => ?_⟩
  · unfold M.NoPair at h
    rw [hp] at h
    exact absurd h (by decide)
  · rcases hl with hl | ⟨rfl,hl⟩
    · exact h1 a' b' hab' (by omega) hl
    · exact h2 b' hab' hl
theorem first_no {p : Pg} {c : M.Cf} {n : Nat} (hn : c.ths.length = n) (h1 : ∀ a' b',a' < b' → b' < n → a' < n → M.NoPair p c a' b') : M.FirstIs p c 0 0 0 0 :=
  .inr ⟨rfl,rfl,rfl,rfl,fun a' b' hab hbn => h1 a' b' hab (by omega) (by omega)⟩
def FirstR (p : Pg) (cf : M.Cf) (w : World) : Ending → World → Prop:=fun e w' => ∃ (x y z h : Int),e = .returned (.tuple #[.int .i64 x,.int .i64 y,.int .i64 z,.int .i64 h]) ∧ M.FirstIs p cf x y z h ∧ Below w.heap.size w w'
set_option maxRecDepth 100000 in
set_option maxHeartbeats 3200000 in
theorem ra_first (B : Nat) (p : Pg) (hf : Fine p) (q : Rc) (w : World) (hp : p.Ok w B) (hq : q.Ok w B) (hg : M.Good p q.cf) (hB : B ≤ w.heap.size) :
    Calls Try.prog 22 #[pgA p,rcA q] w (FirstR p q.cf w):=by
  unfold FirstR
  have h8 : q.len ≤ 8:=by rw [← hq.len];exact hg.most
  have HQ18:=kp (l9 hg.owns)
  have HP:=kp hp;have HQ:=kp hq;have HG:=kp hg;have HF:=kp hf
  have HLen:=kp hq.len
  obtain ⟨n,hn⟩ : ∃ n,q.len = n:=⟨_,rfl⟩
  rw [hn] at HLen h8
  have hqc:=hq.lc.1;have hqm:=hq.lc.2
  unfold maxLen at hqm
  rw [hn] at hqc
  obtain ⟨cp,hcp⟩ : ∃ cp,q.cap = cp:=⟨_,rfl⟩
  rw [hcp] at hqc hqm
  have HE0 : Kept (rcC q = .slice q.A n cp :: .slice q.A2 q.len q.cap2 :: q.ow.map natV):=kp (by rw [← hn,← hcp];rfl)
  clear hp hq hg hf hn hcp
  rw [q8,jL]
  go_enter Try.func22,Try.ntmps22
  go_wp2_with (first
    | ((with_reducible refine j6 rfl 46 (.tmp 0) rfl (pgC p) rfl ?_);intro g1 w1 hg1 hk1 hw1;have HK1:=kp hk1;have HW1:=kp hw1;have hs1:=hw1.size;have hl1:=hk1.lt;clear hk1 hw1)
    | ((with_reducible refine j6 rfl 63 (.tmp 1) rfl (rcC q) rfl ?_);intro g2 w2 hg2 hk2 hw2;have HK2:=kp hk2;have HK12:=kp (HK1.out.below hw2 hl1);have HW2:=kp (HW1.out.trans (hw2.mono hs1));have hs2:=HW2.out.size;have hl12:=HK12.out.lt;have hl2:=hk2.lt;clear hk2 hw2))
  go_loopw [8] (fun v8 wr => ∃ a : Nat,a ≤ n ∧ v8 = .int .i64 a ∧ (∀ a' b',a' < b' → b' < n → a' < a → M.NoPair p q.cf a' b') ∧ Below w2.heap.size w2 wr) (fun v8 _ => n - (intOf v8).toNat)
  case atStart => exact ⟨0,by omega,rfl,(fun _ _ _ _ h => by omega),Below.refl _ _⟩
  case round =>
    obtain ⟨wA,rfl⟩ : ∃ x,x = wr:=⟨_,rfl⟩
    obtain ⟨a,ha,rfl,hbef,hbw⟩:=hrel
    have HBef:=kp hbef;have HBw:=kp hbw
    have hsz:=hbw.size
    have HKa:=kp (HK2.out.below hbw hl2)
    have hla:=HKa.out.lt
    have hca:=HKa.out.cell 0
    rw [HE0.out,List.getElem?_cons_zero] at hca
    clear hbef hbw
    by_cases hlt : a < n
    · have HIa : Kept (I64 (a : Int)):=kp (by unfold I64;omega)
      obtain ⟨gl,hgl⟩ : ∃ gl,(M.acc p q.cf (a : Int)).1 = gl:=⟨_,rfl⟩
      obtain ⟨how,hhow⟩ : ∃ how,(M.acc p q.cf (a : Int)).2 = how:=⟨_,rfl⟩
      have HAc : Kept (M.acc p q.cf (a : Int) = (gl,how)):=kp (by rw [← hgl,← hhow])
      clear hgl hhow
      go_wp2
      clear hca
      go_loopw [9] (fun v9 W => ∃ b : Nat,a < b ∧ b ≤ n ∧ v9 = .int .i64 b ∧ (∀ b',a < b' → b' < b → M.NoPair p q.cf a b') ∧ Below w2.heap.size w2 W) (fun v9 _ => n - (intOf v9).toNat)
      case atStart => exact ⟨a + 1,by omega,by omega,by go_num,(fun _ _ h => by omega),HBw.out⟩
      case round =>
        obtain ⟨b,hab,hb,rfl,hbf,hbj⟩:=hrel
        have HBf:=kp hbf
        have hsj:=hbj.size
        have HBW:=kp (HW2.out.trans (hbj.mono hs2))
        have HBj:=kp hbj
        have hsw:=HBW.out.size
        have HKr:=kp (HK2.out.below hbj hl2);have HK1r:=kp (HK12.out.below hbj hl12)
        have hlr:=HKr.out.lt;have hl1r:=HK1r.out.lt
        have hcr:=HKr.out.cell 0
        rw [HE0.out,List.getElem?_cons_zero] at hcr
        have HPr:=kp (HP.out.below (HBW.out.mono hB));have HQr:=kp (HQ.out.below (HBW.out.mono hB))
        have hBr : B ≤ wr.heap.size:=by omega
        clear hbf hbj
        by_cases hbl : b < n
        · have HIb : Kept (I64 (b : Int)):=kp (by unfold I64;omega)
          obtain ⟨r,hr⟩ : ∃ r,M.pair p q.cf (a : Int) (b : Int) gl = r:=⟨_,rfl⟩
          have HR:=kp hr
          clear hr
          go_wp2_with (first
            | ((with_reducible show Sl 29);go_must (refine j4 rfl 46 (.tmp 2) rfl g1 rfl _ (pgC p) _ HK1r.out Try.underlying46 rfl jF ?_))
            | ((with_reducible show Sl 30);go_must (refine j4 rfl 63 (.tmp 3) rfl g2 rfl _ (rcC q) _ HKr.out Try.underlying63 rfl (by rw [HQ18.out];exact jA) ?_))
            | (go_at_call 48;fail))
          refine (ra_at B p HF.out q wr HPr.out HQr.out HG.out hBr (a : Int) HIa.out gl how HAc.out).mono ?_
          rintro e w4 ⟨rfl,hb4⟩
          have HB4:=kp (HBj.out.trans (hb4.mono hsj));have HW4:=kp (HBW.out.trans (hb4.mono hsw));have hs4:=HW4.out.size
          have HK14:=kp (HK1r.out.below hb4 hl1r);have HK24:=kp (HKr.out.below hb4 hlr)
          have hsz4:=hb4.size
          clear hb4 hcr
          go_wp2_with (first
            | ((with_reducible show Sl 35);go_must (refine j4 rfl 46 (.tmp 2) rfl g1 rfl _ (pgC p) _ HK14.out Try.underlying46 rfl jF ?_))
            | ((with_reducible show Sl 36);go_must (refine j4 rfl 63 (.tmp 3) rfl g2 rfl _ (rcC q) _ HK24.out Try.underlying63 rfl (by rw [HQ18.out];exact jA) ?_))
            | (go_at_call 45;fail))
          refine (ra_pair B p HF.out q w4 (HP.out.below (HW4.out.mono hB)) (HQ.out.below (HW4.out.mono hB)) HG.out (by omega) (a : Int) (b : Int) gl HIa.out HIb.out r HR.out).mono ?_
          rintro e w5 ⟨rfl,hb5⟩
          have HB5:=kp (HB4.out.trans (hb5.mono (by omega)));have HW5:=kp (HW4.out.trans (hb5.mono hs4))
          clear hb5
          cases r
          · go_wp2
            go_roundw
            case rel =>
              refine ⟨b + 1,by omega,by omega,by go_num,fun b' h1 h2 => ?_,HB5.out⟩
              by_cases e : b' = b
              · subst e
                unfold M.NoPair
                rw [HAc.out]
                exact HR.out
              · exact HBf.out b' h1 (by omega)
            case measure => simp [intOf];omega
          · have HFst : Kept (M.FirstIs p q.cf (a : Int) (b : Int) gl 1):=kp (by
              have h:=first_yes HLen.out hab hbl (by rw [HAc.out];exact HR.out) HBef.out HBf.out
              rw [HAc.out] at h
              exact h)
            go_wp2
            (try simp only [Exit.inBlock,Exit.then])
            refine bodyPost_ret (vQ rfl _ _ _) rfl ?_
            exact ⟨_,_,_,_,rfl,HFst.out,HW5.out⟩
        · have hbe : n ≤ b:=by omega
          go_wp2
          go_roundw
          case rel =>
            refine ⟨a + 1,by omega,by go_num,fun a' b' h1 h2 h3 => ?_,HBj.out⟩
            by_cases e : a' = a
            · subst e
              exact HBf.out b' h1 (by omega)
            · exact HBef.out a' b' h1 h2 (by omega)
          case measure => simp [intOf];omega
    · have HFst : Kept (M.FirstIs p q.cf 0 0 0 0):=kp (first_no HLen.out (fun a' b' h1 h2 h3 => HBef.out a' b' h1 h2 (by omega)))
      have HBW:=kp (HW2.out.trans (HBw.out.mono hs2))
      go_wp2
      (try simp only [Exit.inBlock,Exit.then])
      refine bodyPost_ret (vQ rfl _ _ _) rfl ?_
      exact ⟨0,0,0,0,rfl,HFst.out,HBW.out⟩
set_option maxRecDepth 1000000 in
set_option maxHeartbeats 8000000 in
theorem walkWitOf (pg0 : Pg) (a1 : Option Addr) (len1 cap1 : Nat) (z1 : List (Int × Bool)) (w : World) (w0 : pg0.Ok w w.heap.size) (w1 : Picks w w.heap.size a1 len1 z1) (c1 : len1 ≤ cap1 ∧ cap1 ≤ maxLen) :
    Calls Try.prog 7 #[pgA pg0,.slice a1 len1 cap1] w fun e w' => e = .returned (.bool true) ∧ Below w.heap.size w w':=by
  have HP:=kp w0;have HZ:=kp w1;have HCap:=kp c1
  have hm1:=c1.2;have hc1':=c1.1
  unfold maxLen at hm1
  have HLn:=kp w1.1.len
  obtain ⟨r,hr⟩ : ∃ r,Q.small pg0 = r:=⟨_,rfl⟩
  have HR:=kp hr
  obtain ⟨⟨ca,cb,cc⟩,hc⟩ : ∃ x,Q.check pg0 = x:=⟨_,rfl⟩
  have HC:=kp hc
  clear hr w0 w1 hc c1
  rw [jL]
  go_enter Try.func7,Try.ntmps7
  go_wp2_with (first
    | ((with_reducible refine j6 rfl 46 (.tmp 0) rfl (pgC pg0) rfl ?_);intro g1 u1 hg1 hk1 hu1;have HK1:=kp hk1;have HU1:=kp hu1;have hz1:=hu1.size;have hl1:=hk1.lt;clear hg1 hk1 hu1)
    | (go_at_call 9;fail))
  refine (lR u1).mono ?_
  rintro e u2 ⟨rfl,hb2⟩
  have HU2:=kp (HU1.out.trans (hb2.mono hz1));have HK2:=kp (HK1.out.below hb2 hl1)
  have hs2:=HU2.out.size
  clear hb2
  obtain ⟨hc0,hc1,hc2,hc3⟩:=jM HK2.out
  go_wp2_with (go_at_call 17;fail)
  refine (JD w.heap.size pg0 u2 (HP.out.below HU2.out) hs2 _ HR.out).mono ?_
  rintro e u3 ⟨rfl,hb3⟩
  have HU3:=kp (HU2.out.trans (hb3.mono hs2));have hs3:=HU3.out.size
  have HK3:=kp (HK2.out.below hb3 HK2.out.lt)
  clear hb3
  clear hc0 hc1 hc2 hc3
  cases r
  · go_wp2_with (go_at_call 9;fail)
    refine (lR u3).mono ?_
    rintro e uz ⟨rfl,hbz⟩
    have HUz:=kp (HU3.out.trans (hbz.mono HU3.out.size))
    clear hbz
    go_wp2
    go_ret
    exact ⟨rfl,HUz.out⟩
  by_cases hbig : 300 < len1
  · go_wp2_with (go_at_call 9;fail)
    refine (lR u3).mono ?_
    rintro e uz ⟨rfl,hbz⟩
    have HUz:=kp (HU3.out.trans (hbz.mono HU3.out.size))
    clear hbz
    go_wp2
    go_ret
    exact ⟨rfl,HUz.out⟩
  have hn3 : len1 ≤ 300:=by omega
  clear hbig
  go_wp2_with (first
    | ((with_reducible show Sl 31);go_must (refine j4 rfl 46 (.tmp 2) rfl g1 rfl _ (pgC pg0) _ HK3.out Try.underlying46 rfl jF ?_))
    | (go_at_call 21;fail))
  rw [← jL]
  refine (wi_of w.heap.size pg0 a1 len1 cap1 z1 u3 (HP.out.below HU3.out) (HZ.out.keep fun q hq => HU3.out.cell hq) (by omega) hs3 ca cb cc HC.out).mono ?_
  unfold OfPost
  rintro e u4 ⟨x,ok,rfl,hxok,hnone,hbadf,hfi,hz5,hb4⟩
  have HX4:=kp hxok;have HNone:=kp hnone;have HBadF:=kp hbadf;have HFi0:=kp hfi;have HZ5:=kp hz5
  have HU4:=kp (HU3.out.trans (hb4.mono hs3));have HK4:=kp (HK3.out.below hb4 HK3.out.lt)
  have hs4:=HU4.out.size;have hl4:=HK4.out.lt
  clear hxok hnone hbadf hfi hz5 hb4
  have HXk : Kept (∀ W,Below u4.heap.size u4 W → x.Ok W W.heap.size):=kp (fun W hW => (HX4.out.below hW).more hW.size)
  rw [l6]
  go_wp2_with (first
    | ((with_reducible show Sl 5);go_must (refine j7 rfl 24 rfl _ lW ?_);intro g5 u5 hg5 hk5 hu5;have KW5:=kp hk5;have HB45:=kp hu5;have HK5:=kp (HK4.out.below hu5 hl4);have hs5:=hu5.size;clear hk5 hu5)
    | ((with_reducible show Sn);(refine j5 rfl 24 (.tmp 5) (.tmp 34) rfl g5 (wtC x) rfl rfl _ _ KW5.out jD rfl (jU x) ?_);intro u6 hk6 hg6 hz6
       have KW6:=kp hk6;have HB46:=kp (HB45.out.grown hg6 hs5 (fun k e => by cases e;exact hg5));have HK6:=kp (HK5.out.grown hg6 (fun e => by cases e;omega));have HU6:=kp (HU4.out.trans (HB46.out.mono hs4))
       have hs6:=HU6.out.size
       clear hk6 hg6)
    | ((with_reducible show Sl 37);go_must (refine j4 rfl 46 (.tmp 2) rfl g1 rfl _ (pgC pg0) _ HK6.out Try.underlying46 rfl jF ?_))
    | (go_at_call 19;fail))
  rw [← jL]
  refine (X3 w.heap.size pg0 u6 (HP.out.below HU6.out) hs6 ca cb cc HC.out).mono ?_
  rintro e u7 ⟨rfl,hb7⟩
  have HU7:=kp (HU6.out.trans (hb7.mono hs6));have HK7:=kp (HK6.out.below hb7 HK6.out.lt);have KW7:=kp (KW6.out.below hb7 KW6.out.lt);have HB47:=kp (HB46.out.trans (hb7.mono HB46.out.size))
  have hs7:=HU7.out.size
  clear hb7
  have HZ7 : Kept (Picks u7 w.heap.size a1 len1 z1):=kp (HZ.out.keep fun q hq => HU7.out.cell hq)
  go_wp2
  go_loop [9,10] (fun v9 v10 => ∃ i : Nat,i ≤ len1 ∧ v10 = .int .i64 i ∧ ((v9 = .int .i64 (cc : Int) ∧ ∀ (j : Nat) y,j < i → z1[j]? = some y → M.okP y) ∨ (v9 = .int .i64 1 ∧ ∃ y ∈ z1,¬ M.okP y))) (fun _ v10 => len1 - (intOf v10).toNat)
  case atStart => exact ⟨0,by omega,rfl,.inl ⟨rfl,fun _ _ h => by omega⟩⟩
  case round =>
    obtain ⟨i,hi,rfl,hor⟩:=hrel
    by_cases hlt : i < len1
    · obtain ⟨ad,y,rfl,hab,hy,h0,hc⟩:=HZ7.out.1.field hlt
      have HY:=kp hy
      have c0:=h0 (by omega)
      clear h0 hc hy
      obtain ⟨yw,yb⟩:=y
      replace c0 : u7.cell? (ad.add (i * 2)) = some (.int .i64 yw):=c0
      have HOr:=kp hor
      clear hor
      by_cases hlo : yw < 0
      · have HBad : Kept (∃ y ∈ z1,¬ M.okP y):=kp ⟨_,List.mem_of_getElem? HY.out,fun h => by have h1:=h.1;simp only at h1;omega⟩
        go_wp2
        go_round
        case rel => exact ⟨i + 1,by omega,by go_num,.inr ⟨rfl,HBad.out⟩⟩
        case measure => simp [intOf];omega
      · by_cases hhi : 7 < yw
        · have HBad : Kept (∃ y ∈ z1,¬ M.okP y):=kp ⟨_,List.mem_of_getElem? HY.out,fun h => by have h1:=h.2;simp only at h1;omega⟩
          go_wp2
          go_round
          case rel => exact ⟨i + 1,by omega,by go_num,.inr ⟨rfl,HBad.out⟩⟩
          case measure => simp [intOf];omega
        · have HOkx : Kept (M.okP (yw,yb)):=kp ⟨by show 0 ≤ yw;omega,by show yw ≤ 7;omega⟩
          go_wp2
          go_round
          case rel =>
            refine ⟨i + 1,by omega,by go_num,?_⟩
            rcases HOr.out with ⟨h1,h2⟩ | h1
            · refine .inl ⟨h1,fun j u hj hu => ?_⟩
              by_cases e : j = i
              · subst e
                rw [HY.out] at hu
                cases hu
                exact HOkx.out
              · exact h2 j u (by omega) hu
            · exact .inr h1
          case measure => simp [intOf];omega
    · have hge : len1 ≤ i:=by omega
      clear hlt
      have hfault : ∀ f : Int,f ≠ 0 → (f != 0) = true:=fun f h => by rw [bne_iff_ne];exact h
      by_cases hgood : (∀ y ∈ z1,M.okP y) ∧ cc = 0
      rotate_left
      · have HOF : Kept (ok = false):=kp (HBadF.out (by
          by_cases h : cc = 0
          · refine .inl (Classical.byContradiction fun h2 => hgood ⟨fun y hy => Classical.byContradiction fun h3 => h2 ⟨y,hy,h3⟩,h⟩)
          · exact .inr h))
        have hok:=HOF.out
        subst hok
        obtain rfl:=HNone.out rfl
        obtain ⟨hd0,hd1,hd2,hd3⟩:=jS KW7.out
        rcases hor with ⟨rfl,h2⟩ | ⟨rfl,_⟩
        · have hcz : cc ≠ 0:=fun h => hgood ⟨fun y hy => by
            obtain ⟨j,hj⟩:=List.getElem?_of_mem hy
            exact h2 j y (by have:=(List.getElem?_eq_some_iff.1 hj).1;have:=HLn.out;omega) hj,h⟩
          have hb0:=hfault (cc : Int) (by omega)
          clear h2 hgood hfault hcz
          go_wp2
          go_ret
          exact ⟨rfl,HU7.out⟩
        · clear hgood hfault
          go_wp2
          go_ret
          exact ⟨rfl,HU7.out⟩
      · obtain ⟨hall,hcz⟩:=hgood
        have HAll:=kp hall
        subst hcz
        rcases hor with ⟨rfl,_⟩ | ⟨_,y,hy,hno⟩
        rotate_left
        · exact absurd (hall y hy) hno
        clear hfault hall
        have HF : Kept (Fine pg0):=kp (xT (by rw [HC.out]))
        have HGd : Kept (M.Good pg0 (runTo pg0 z1 len1)):=kp (qA HF.out HP.out.row.len z1 len1)
        have HFi1 : Kept (M.FirstIs pg0 (runTo pg0 z1 len1) x.a x.b x.g (if ok = true then 1 else 0)):=kp (HFi0.out HAll.out rfl)
        have HCz : Kept (Q.check pg0 = (ca,cb,0)):=kp HC.out
        obtain ⟨fx,fy,fz,fh,hfe⟩ : ∃ a b c d,(x.a,x.b,x.g,(if ok = true then (1 : Int) else 0)) = (a,b,c,d):=⟨_,_,_,_,rfl⟩
        obtain ⟨e1,hfe⟩:=Prod.mk.inj hfe
        obtain ⟨e2,hfe⟩:=Prod.mk.inj hfe
        obtain ⟨e3,e4⟩:=Prod.mk.inj hfe
        have HFi : Kept (M.FirstIs pg0 (runTo pg0 z1 len1) fx fy fz fh):=kp (by rw [← e1,← e2,← e3,← e4];exact HFi1.out)
        have HE:=kp (And.intro e1 (And.intro e2 (And.intro e3 e4)))
        have HPW : Kept (∀ W,Below u7.heap.size u7 W → pg0.Ok W W.heap.size):=kp (fun W hW => (HP.out.below (HU7.out.trans (hW.mono hs7))).more13 (by have:=hW.size;omega))
        have HZW : Kept (∀ W,Below u7.heap.size u7 W → Picks W W.heap.size a1 len1 z1):=kp (fun W hW => ⟨((HZ.out.keep fun q hq => (HU7.out.trans (hW.mono hs7)).cell hq).1.more (by have:=hW.size;omega)),HZ.out.2⟩)
        clear e1 e2 e3 e4 hfe
        go_wp2
        apply qM (.is (.agg (pgC pg0).toArray) :: .is (.agg (pgC pg0).toArray) :: .is (.slice a1 len1 cap1) :: Fact.rsteppedR u7.heap.size (runTo pg0 z1 len1) :: .is (.tuple #[.int .i64 fx,.int .i64 fy,.int .i64 fz,.int .i64 fh]) :: .is (.tuple #[.int .i64 fx,.int .i64 fy,.int .i64 fz,.int .i64 fh]) :: .is (.int .i64 fx) :: .is (.int .i64 fy) :: .is (.int .i64 fz) :: .is (.int .i64 fh) :: .is (.int .i64 fx) :: .is (.int .i64 fy) :: .is (.int .i64 fz) :: .is (.int .i64 fh) :: [])
          [[],[],[],[(1,74),(2,75)],[(0,73),(3,76)],[(4,77)],[(5,72)],[(5,72)],[(5,72)],[(5,72)],[(6,78)],[(7,79)],[(8,80)],[(9,81)]]
          [(0,73),(1,74),(2,75),(3,76),(4,77),(5,72),(6,78),(7,79),(8,80),(9,81),(10,11),(11,12),(12,13),(13,14)] (by kernel_rfl) (by kernel_rfl)
        case hob =>
          refine ⟨?o0,?o1,?o2,?o3,?o4,?o5,?o6,?o7,?o8,?o9,?o10,?o11,?o12,?o13,trivial⟩
          case o0 =>
            intro W hW;change wpList _ _ _ _ _ _
            go_must (refine j4 rfl 46 (.tmp 2) rfl g1 rfl _ (pgC pg0) _ (HK7.out.below hW HK7.out.lt) Try.underlying46 rfl jF ?_)
            go_wp2;exact j0 rfl rfl rfl
          case o1 =>
            intro W hW;change wpList _ _ _ _ _ _
            go_must (refine j4 rfl 46 (.tmp 2) rfl g1 rfl _ (pgC pg0) _ (HK7.out.below hW HK7.out.lt) Try.underlying46 rfl jF ?_)
            go_wp2;exact j0 rfl rfl rfl
          case o2 => intro W hW;change wpList _ _ _ _ _ _;go_wp2;exact j0 rfl rfl rfl
          case o3 =>
            intro W hW;rintro _ rfl;rintro _ rfl;change wpList _ _ _ _ _ _
            have hsW:=hW.size
            have HPp:=kp (HPW.out W hW);have HZp:=kp (HZW.out W hW)
            clear hW
            go_wp2_with fail
            refine (ref_run pg0 a1 len1 cap1 z1 W HPp.out HZp.out HCap.out hn3 HF.out).mono ?_
            unfold StepR
            rintro e v6 ⟨q',rfl,hm,hcf,hb6⟩
            have HM:=kp (hm.lessR hsW);have HCf:=kp hcf;have HB6:=kp hb6
            clear hm hcf hb6
            go_wp2
            exact jG rfl rfl rfl HB6.out ⟨q',rfl,HM.out,HCf.out⟩
          case o4 =>
            intro W hW;rintro _ rfl;rintro _ ⟨q',rfl,hm,hcf⟩;change wpList _ _ _ _ _ _
            have HM:=kp hm.ok;have HCf:=kp hcf;have HPp:=kp (HPW.out W hW)
            clear hm hcf hW
            go_wp2_with fail
            refine (ra_first W.heap.size pg0 HF.out q' W HPp.out HM.out (by rw [HCf.out];exact HGd.out) (Nat.le_refl _)).mono ?_
            unfold FirstR
            rintro e v6 ⟨x',y',z',h',rfl,hfi,hb6⟩
            rw [HCf.out] at hfi
            obtain ⟨rfl,rfl,rfl,rfl⟩:=M.first_one hfi HFi.out
            have HB6:=kp hb6
            clear hfi hb6
            go_wp2
            exact jG rfl rfl rfl HB6.out rfl
          case o5 => intro W hW;rintro _ rfl;change wpList _ _ _ _ _ _;go_wp2;exact j0 rfl rfl rfl
          case o6 => intro W hW;rintro _ rfl;change wpList _ _ _ _ _ _;go_wp2;exact j0 rfl rfl rfl
          case o7 => intro W hW;rintro _ rfl;change wpList _ _ _ _ _ _;go_wp2;exact j0 rfl rfl rfl
          case o8 => intro W hW;rintro _ rfl;change wpList _ _ _ _ _ _;go_wp2;exact j0 rfl rfl rfl
          case o9 => intro W hW;rintro _ rfl;change wpList _ _ _ _ _ _;go_wp2;exact j0 rfl rfl rfl
          case o10 => intro W hW;rintro _ rfl;change wpList _ _ _ _ _ _;go_wp2;exact j0 rfl rfl rfl
          case o11 => intro W hW;rintro _ rfl;change wpList _ _ _ _ _ _;go_wp2;exact j0 rfl rfl rfl
          case o12 => intro W hW;rintro _ rfl;change wpList _ _ _ _ _ _;go_wp2;exact j0 rfl rfl rfl
          case o13 => intro W hW;rintro _ rfl;change wpList _ _ _ _ _ _;go_wp2;exact j0 rfl rfl rfl
        case hend =>
          intro W hW;rintro _ rfl;rintro _ rfl;rintro _ rfl;rintro _ ⟨q',rfl,_,_⟩;rintro _ rfl;rintro _ rfl;rintro _ rfl;rintro _ rfl;rintro _ rfl;rintro _ rfl;rintro _ rfl;rintro _ rfl;rintro _ rfl;rintro _ rfl
          simp only [given,jJ,List.set]
          have HU8:=kp (HU7.out.trans (hW.mono hs7));have hs8:=HU8.out.size
          have HK8:=kp (HK7.out.below hW HK7.out.lt);have KW8:=kp (KW7.out.below hW KW7.out.lt);have HB48:=kp (HB47.out.trans (hW.mono HB47.out.size))
          clear hW
          cases ok
          · have HX0:=kp (HNone.out rfl)
            obtain rfl:=HX0.out
            have h0 : fh = 0:=by rw [← HE.out.2.2.2];rfl
            subst h0
            obtain ⟨hd0,hd1,hd2,hd3⟩:=jS KW8.out
            go_wp2
            go_ret
            exact ⟨rfl,HU8.out⟩
          · have h1 : fh = 1:=by rw [← HE.out.2.2.2];rfl
            subst h1
            have HFO:=kp (T.first_ok HF.out HGd.out HFi.out)
            obtain ⟨hxz,hxl⟩:=HZ5.out rfl
            obtain ⟨ea,eb,eg,_⟩:=HE.out
            have HCk : Kept (x.check = 0):=kp (T.check_fine (by rw [hxz,HLn.out];omega) (by rw [hxz];exact HAll.out) (by rw [ea,eb,eg];exact HFO.out.1))
            have HPr : Kept (M.pair pg0 (runTo pg0 x.z x.len) x.a x.b x.g = true):=kp (by rw [hxz,hxl,ea,eb,eg];exact HFO.out.2)
            have HXl:=kp hxl
            have hxl3 : x.len ≤ 300:=by omega
            clear hxz hxl ea eb eg
            go_wp2_with (first
              | ((with_reducible show Sl 98);go_must (refine j4 rfl 46 (.tmp 2) rfl g1 rfl _ (pgC pg0) _ HK8.out Try.underlying46 rfl jF ?_))
              | ((with_reducible show Sl 99);go_must (refine j4 rfl 24 (.tmp 5) rfl g5 rfl _ (wtC x) _ KW8.out Try.underlying24 rfl jD ?_))
              | (go_at_call 18;fail))
            rw [← jL,← l6]
            refine (LP W.heap.size pg0 x W ((HP.out.below HU8.out).more13 hs8) (HXk.out W HB48.out) (by omega) (Nat.le_refl _) 0 HCk.out ca cb 0 HCz.out true 0 (fun h => absurd rfl h) (fun _ h => absurd rfl h) (fun _ _ => ⟨HPr.out,rfl⟩)).mono ?_
            rintro e u9 ⟨rfl,hb9⟩
            have HU9:=kp (HU8.out.trans (hb9.mono hs8));have KW9:=kp (KW8.out.below hb9 KW8.out.lt)
            clear hb9
            obtain ⟨hd0,hd1,hd2,hd3⟩:=jS KW9.out
            rw [HXl.out] at hd0
            rw [HE.out.1] at hd1
            rw [HE.out.2.1] at hd2
            rw [HE.out.2.2.1] at hd3
            have q1 : (fx == fx) = true:=by simp
            have q2 : (fy == fy) = true:=by simp
            have q3 : (fz == fz) = true:=by simp
            go_wp2
            go_ret
            exact ⟨rfl,HU9.out⟩
end Go.Proofs.Ytcbfghcdbmlneaa
