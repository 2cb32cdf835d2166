/- WitR5, WWitHolds. -/
import Derived.Test.YtcbfghcdbmlneaaPk5
import Derived.Test.YtcbfghcdbmlneaaPk23
import Derived.Test.YtcbfghcdbmlneaaPk26
import Derived.Test.YtcbfghcdbmlneaaPk3
import Derived.Test.YtcbfghcdbmlneaaPk10
import Derived.Test.YtcbfghcdbmlneaaPk21
import Derived.Test.YtcbfghcdbmlneaaWitR1
import Derived.Test.YtcbfghcdbmlneaaPk4
import Derived.Test.YtcbfghcdbmlneaaProgRef5
namespace Go.Proofs.Ytcbfghcdbmlneaa
open Go.RowKit
theorem pg_more13 {p : Pg} {w : World} {B B2 : Nat} (h : p.Ok w B) (hB : B ≤ B2) : p.Ok w B2 :=
  ⟨h.g,h.l,h.s,h.row.more hB,fun f hf => ⟨⟨(h.fns f hf).nodes.1.more hB,(h.fns f hf).nodes.2⟩,(h.fns f hf).lc,(h.fns f hf).cm,(h.fns f hf).nil⟩,h.lc,h.cm,h.nil⟩
set_option maxRecDepth 1000000 in
set_option maxHeartbeats 8000000 in
theorem rw_holds (B : Nat) (p : Pg) (x : Wt) (w : World) (hp : p.Ok w B) (hx : x.Ok w B) (hn : x.len ≤ 300) (hB : B ≤ w.heap.size) (hf : Fine p) (r : Bool) (hr : M.pair p (runTo p x.z x.len) x.a x.b x.g = r) :
    Calls Try.prog 20 #[pgA p,wtA x] w fun e w' => e = .returned (.bool r) ∧ Below w.heap.size w w':=by
  have HP:=kp hp;have HX:=kp hx;have HR:=kp hr;have HF:=kp hf
  have HG : Kept (M.Good p (runTo p x.z x.len)):=kp (qA hf hp.row.len x.z x.len)
  have HC : Kept (x.len ≤ x.cap ∧ x.cap ≤ maxLen):=kp ⟨hx.lc,hx.cm⟩
  clear hp hx hr hf
  rw [l6,jL]
  go_enter Try.func20,Try.ntmps20
  go_wp2_with (first
    | ((with_reducible refine j6 rfl 46 (.tmp 0) rfl (pgC p) rfl ?_);intro g1 w1 hg1 hk1 hw1;have HK1:=kp hk1;have HW1:=kp hw1;have hs1:=hw1.size;have hl1:=hk1.lt;clear hg1 hk1 hw1)
    | ((with_reducible refine j6 rfl 24 (.tmp 1) rfl (wtC x) rfl ?_);intro g2 w2 hg2 hk2 hw2;have HX2:=kp hk2;have HK2:=kp (HK1.out.below hw2 hl1);have HW2:=kp (HW1.out.trans (hw2.mono hs1));have hs2:=HW2.out.size;have hl2:=HK2.out.lt;have hx2:=hk2.lt;clear hg2 hk2 hw2)
    | fail)
  have HPW : Kept (∀ W,Below w2.heap.size w2 W → p.Ok W W.heap.size):=kp (fun W hW => pg_more13 (HP.out.below ((HW2.out.trans (hW.mono hs2)).mono hB)) (by have:=hW.size;omega))
  have HXW : Kept (∀ W,Below w2.heap.size w2 W → x.Ok W W.heap.size):=kp (fun W hW => (HX.out.below ((HW2.out.trans (hW.mono hs2)).mono hB)).more (by have:=hW.size;omega))
  apply qM (.is (.agg (pgC p).toArray) :: .is (.agg (pgC p).toArray) :: .is _ :: .is (.slice x.A x.len x.cap) :: Fact.rsteppedR w2.heap.size (runTo p x.z x.len) :: .is _ :: .is (.int .i64 x.a) :: .is _ :: .is (.int .i64 x.b) :: .is _ :: .is (.int .i64 x.g) :: .is (.bool r) :: .is (.bool r) :: [])
    [[],[],[],[(2,7)],[(1,6),(3,8)],[],[(5,10)],[],[(7,12)],[],[(9,14)],[(0,5),(4,9),(6,11),(8,13),(10,15)],[(11,16)]]
    [(0,5),(1,6),(2,7),(3,8),(4,9),(5,10),(6,11),(7,12),(8,13),(9,14),(10,15),(11,16),(12,4)] (by kernel_rfl) (by kernel_rfl)
  case hob =>
    refine ⟨?o0,?o1,?o2,?o3,?o4,?o5,?o6,?o7,?o8,?o9,?o10,?o11,?o12,trivial⟩
    case o0 =>
      intro W hW;change wpList _ _ _ _ _ _
      go_must (refine j4 rfl 46 (.tmp 2) rfl g1 rfl _ (pgC p) _ (HK2.out.below hW hl2) Try.underlying46 rfl jF ?_)
      go_wp2;exact j0 rfl rfl rfl
    case o1 =>
      intro W hW;change wpList _ _ _ _ _ _
      go_must (refine j4 rfl 46 (.tmp 2) rfl g1 rfl _ (pgC p) _ (HK2.out.below hW hl2) Try.underlying46 rfl jF ?_)
      go_wp2;exact j0 rfl rfl rfl
    case o2 => intro W hW;change wpList _ _ _ _ _ _;go_wp2;exact j0 rfl rfl rfl
    case o3 =>
      intro W hW;rintro _ rfl;change wpList _ _ _ _ _ _
      obtain ⟨hc,_,_,_⟩:=jS (HX2.out.below hW hx2)
      go_wp2;exact j0 rfl rfl rfl
    case o4 =>
      intro W hW;rintro _ rfl;rintro _ rfl;change wpList _ _ _ _ _ _
      have hsW:=hW.size
      have HPp:=kp (HPW.out W hW);have HXp:=kp (HXW.out W hW).picks
      clear hW
      go_wp2_with fail
      refine (ref_run p x.A x.len x.cap x.z W HPp.out HXp.out HC.out hn HF.out).mono ?_
      unfold StepR
      rintro e w6 ⟨q',rfl,hm,hcf,hb6⟩
      have HM:=kp (hm.lessR hsW);have HCf:=kp hcf;have HB6:=kp hb6
      clear hm hcf hb6
      go_wp2
      exact jG rfl rfl rfl HB6.out ⟨q',rfl,HM.out,HCf.out⟩
    case o5 => intro W hW;change wpList _ _ _ _ _ _;go_wp2;exact j0 rfl rfl rfl
    case o6 =>
      intro W hW;rintro _ rfl;change wpList _ _ _ _ _ _
      obtain ⟨_,hc,_,_⟩:=jS (HX2.out.below hW hx2)
      go_wp2;exact j0 rfl rfl rfl
    case o7 => intro W hW;change wpList _ _ _ _ _ _;go_wp2;exact j0 rfl rfl rfl
    case o8 =>
      intro W hW;rintro _ rfl;change wpList _ _ _ _ _ _
      obtain ⟨_,_,hc,_⟩:=jS (HX2.out.below hW hx2)
      go_wp2;exact j0 rfl rfl rfl
    case o9 => intro W hW;change wpList _ _ _ _ _ _;go_wp2;exact j0 rfl rfl rfl
    case o10 =>
      intro W hW;rintro _ rfl;change wpList _ _ _ _ _ _
      obtain ⟨_,_,_,hc⟩:=jS (HX2.out.below hW hx2)
      go_wp2;exact j0 rfl rfl rfl
    case o11 =>
      intro W hW;rintro _ rfl;rintro _ ⟨q',rfl,hm,hcf⟩;rintro _ rfl;rintro _ rfl;rintro _ rfl;change wpList _ _ _ _ _ _
      have hsW:=hW.size
      have HM:=kp hm.ok;have HCf:=kp hcf;have HPp:=kp (HPW.out W hW)
      have HIa:=kp HX.out.a;have HIb:=kp HX.out.b
      clear hm hcf hW
      go_wp2_with fail
      refine (ra_pair W.heap.size p HF.out q' W HPp.out HM.out (by rw [HCf.out];exact HG.out) (Nat.le_refl _) x.a x.b x.g HIa.out HIb.out r (by rw [HCf.out];exact HR.out)).mono ?_
      rintro e w6 ⟨rfl,hb6⟩
      have HB6:=kp hb6
      clear hb6
      go_wp2
      exact jG rfl rfl rfl HB6.out rfl
    case o12 => intro W hW;rintro _ rfl;change wpList _ _ _ _ _ _;go_wp2;exact j0 rfl rfl rfl
  case hend =>
    intro W hW;rintro _ rfl;rintro _ rfl;rintro _ rfl;rintro _ rfl;rintro _ ⟨q',rfl,_,_⟩;rintro _ rfl;rintro _ rfl;rintro _ rfl;rintro _ rfl;rintro _ rfl;rintro _ rfl;rintro _ rfl;rintro _ rfl
    simp only [given,jJ,List.set]
    have HB2:=kp (HW2.out.trans (hW.mono hs2))
    clear hW
    go_wp2
    go_ret
    exact ⟨rfl,HB2.out⟩
set_option maxRecDepth 1000000 in
set_option maxHeartbeats 8000000 in
theorem walkWitHolds (pg0 : Pg) (x1 : Wt) (w : World) (w0 : pg0.Ok w w.heap.size) (w1 : x1.Ok w w.heap.size) :
    Calls Try.prog 6 #[pgA pg0,wtA x1] w fun e w' => e = .returned (.bool true) ∧ Below w.heap.size w w':=by
  have HP:=kp w0;have HW:=kp w1
  obtain ⟨r,hr⟩ : ∃ r,Q.small pg0 = r:=⟨_,rfl⟩
  have HR:=kp hr
  obtain ⟨⟨ca,cb,cc⟩,hc⟩ : ∃ x,Q.check pg0 = x:=⟨_,rfl⟩
  have HC:=kp hc
  obtain ⟨ck,hck⟩ : ∃ c,x1.check = c:=⟨_,rfl⟩
  have HCk:=kp hck
  clear hr w0 w1 hc hck
  rw [jL,l6]
  go_enter Try.func6,Try.ntmps6
  go_wp2_with (first
    | ((with_reducible refine j6 rfl 46 (.tmp 0) rfl (pgC pg0) rfl ?_);intro g1 u1 hg1 hk1 hu1;have HK1:=kp hk1;have HU1:=kp hu1;have hz1:=hu1.size;have hl1:=hk1.lt;clear hg1 hk1 hu1)
    | ((with_reducible refine j6 rfl 24 (.tmp 1) rfl (wtC x1) rfl ?_);intro g2 u2 hg2 hk2 hu2;have HX2:=kp hk2;have HK2:=kp (HK1.out.below hu2 hl1);have HU2:=kp (HU1.out.trans (hu2.mono hz1));have hs2:=HU2.out.size;clear hg2 hk2 hu2)
    | (go_at_call 9;fail))
  refine (lR u2).mono ?_
  rintro e u3 ⟨rfl,hb3⟩
  have HU3:=kp (HU2.out.trans (hb3.mono hs2));have hs3:=HU3.out.size
  have HK3:=kp (HK2.out.below hb3 HK2.out.lt)
  have HX3:=kp (HX2.out.below hb3 HX2.out.lt)
  clear hb3
  obtain ⟨hc0,hc1,hc2,hc3⟩:=jM HK3.out
  obtain ⟨hd0,hd1,hd2,hd3⟩:=jS HX3.out
  go_wp2_with (go_at_call 17;fail)
  refine (JD w.heap.size pg0 u3 (HP.out.below HU3.out) hs3 _ HR.out).mono ?_
  rintro e u4 ⟨rfl,hb4⟩
  have HU4:=kp (HU3.out.trans (hb4.mono hs3));have hs4:=HU4.out.size
  have HK4:=kp (HK3.out.below hb4 HK3.out.lt)
  have HX4:=kp (HX3.out.below hb4 HX3.out.lt)
  clear hb4
  clear hc0 hc1 hc2 hc3 hd0 hd1 hd2 hd3
  cases r
  · go_wp2_with (go_at_call 9;fail)
    refine (lR u4).mono ?_
    rintro e uz ⟨rfl,hbz⟩
    have HUz:=kp (HU4.out.trans (hbz.mono HU4.out.size))
    clear hbz
    go_wp2
    go_ret
    exact ⟨rfl,HUz.out⟩
  obtain ⟨hd0,hd1,hd2,hd3⟩:=jS HX4.out
  by_cases hbig : 300 < x1.len
  · go_wp2_with (go_at_call 9;fail)
    refine (lR u4).mono ?_
    rintro e uz ⟨rfl,hbz⟩
    have HUz:=kp (HU4.out.trans (hbz.mono HU4.out.size))
    clear hbz
    go_wp2
    go_ret
    exact ⟨rfl,HUz.out⟩
  have hn3 : x1.len ≤ 300:=by omega
  clear hbig
  obtain ⟨rp,hrp⟩ : ∃ r,M.pair pg0 (runTo pg0 x1.z x1.len) x1.a x1.b x1.g = r:=⟨_,rfl⟩
  have HRp:=kp hrp
  obtain ⟨rb,hrb⟩ : ∃ rb,(if ck = 0 ∧ cc = 0 then rp else false) = rb:=⟨_,rfl⟩
  obtain ⟨re,hre⟩ : ∃ re,(if ck = 0 then cc else ck) = re:=⟨_,rfl⟩
  have HRb:=kp hrb;have HRe:=kp hre
  clear hrp hrb hre
  go_wp2_with (first
    | ((with_reducible show Sl 26);go_must (refine j4 rfl 46 (.tmp 2) rfl g1 rfl _ (pgC pg0) _ HK4.out Try.underlying46 rfl jF ?_))
    | ((with_reducible show Sl 27);go_must (refine j4 rfl 24 (.tmp 3) rfl g2 rfl _ (wtC x1) _ HX4.out Try.underlying24 rfl jD ?_))
    | (go_at_call 18;fail))
  clear hd0 hd1 hd2 hd3
  rw [← jL,← l6]
  refine (LP w.heap.size pg0 x1 u4 (HP.out.below HU4.out) (HW.out.below HU4.out) (by omega) hs4 ck HCk.out ca cb cc HC.out rb re
    (fun h => ⟨by rw [← HRb.out];exact if_neg (fun h1 => h h1.1),by rw [← HRe.out];exact if_neg h⟩)
    (fun h h2 => ⟨by rw [← HRb.out];exact if_neg (fun h1 => h2 h1.2),by rw [← HRe.out];exact if_pos h⟩)
    (fun h h2 => ⟨by rw [← HRb.out,if_pos ⟨h,h2⟩];exact HRp.out,by rw [← HRe.out,if_pos h];exact h2⟩)).mono ?_
  rintro e u5 ⟨rfl,hb5⟩
  have HU5:=kp (HU4.out.trans (hb5.mono hs4));have hs5:=HU5.out.size
  have HK5:=kp (HK4.out.below hb5 HK4.out.lt)
  have HX5:=kp (HX4.out.below hb5 HX4.out.lt)
  clear hb5
  go_wp2_with (first
    | ((with_reducible show Sl 31);go_must (refine j4 rfl 24 (.tmp 3) rfl g2 rfl _ (wtC x1) _ HX5.out Try.underlying24 rfl jD ?_))
    | (go_at_call 11;fail))
  rw [← l6]
  refine (LZ w.heap.size x1 u5 (HW.out.below HU5.out) (by omega) hs5 ck HCk.out).mono ?_
  rintro e u6 ⟨rfl,hb6⟩
  have HU6:=kp (HU5.out.trans (hb6.mono hs5));have hs6:=HU6.out.size
  have HK6:=kp (HK5.out.below hb6 HK5.out.lt)
  have HX6:=kp (HX5.out.below hb6 HX5.out.lt)
  clear hb6
  by_cases h0 : ck = 0
  rotate_left
  · have hb0 : ((ck : Int) != 0) = true:=by rw [bne_iff_ne];omega
    have e1 : rb = false:=by rw [← HRb.out];exact if_neg (fun h1 => h0 h1.1)
    have e2 : re = ck:=by rw [← HRe.out];exact if_neg h0
    subst e1
    subst e2
    have hq : ((re : Int) == (re : Int)) = true:=by simp
    clear h0
    go_wp2
    go_ret
    exact ⟨rfl,HU6.out⟩
  have hb0 : ((ck : Int) != 0) = false:=by subst h0;rfl
  have e2 : re = cc:=by rw [← HRe.out];exact if_pos h0
  subst e2
  have HRb2 : Kept ((if re = 0 then rp else false) = rb):=kp (by rw [← HRb.out];simp [h0])
  clear h0
  go_wp2_with (first
    | ((with_reducible show Sl 43);go_must (refine j4 rfl 46 (.tmp 2) rfl g1 rfl _ (pgC pg0) _ HK6.out Try.underlying46 rfl jF ?_))
    | (go_at_call 19;fail))
  rw [← jL]
  refine (X3 w.heap.size pg0 u6 (HP.out.below HU6.out) hs6 ca cb re HC.out).mono ?_
  rintro e u7 ⟨rfl,hb7⟩
  have HU7:=kp (HU6.out.trans (hb7.mono hs6));have hs7:=HU7.out.size
  have HK7:=kp (HK6.out.below hb7 HK6.out.lt)
  have HX7:=kp (HX6.out.below hb7 HX6.out.lt)
  clear hb7
  by_cases hz : re = 0
  rotate_left
  · have hb1 : ((re : Int) != 0) = true:=by rw [bne_iff_ne];omega
    have e1 : rb = false:=by rw [← HRb2.out];exact if_neg hz
    subst e1
    have hq : ((re : Int) == (re : Int)) = true:=by simp
    clear hz
    go_wp2
    go_ret
    exact ⟨rfl,HU7.out⟩
  have HF : Kept (Fine pg0):=kp (xT (by rw [HC.out,hz]))
  have e1 : rb = rp:=by rw [← HRb2.out];exact if_pos hz
  subst e1
  subst hz
  obtain ⟨hc0,hc1,hc2,hc3⟩:=jM HK7.out
  obtain ⟨hd0,hd1,hd2,hd3⟩:=jS HX7.out
  go_wp2_with (go_at_call 20;fail)
  refine (rw_holds w.heap.size pg0 x1 u7 (HP.out.below HU7.out) (HW.out.below HU7.out) hn3 hs7 HF.out rb HRp.out).mono ?_
  rintro e u8 ⟨rfl,hb8⟩
  have HU8:=kp (HU7.out.trans (hb8.mono hs7));have hs8:=HU8.out.size
  have HK8:=kp (HK7.out.below hb8 HK7.out.lt)
  have HX8:=kp (HX7.out.below hb8 HX7.out.lt)
  clear hb8
  have hq : (rb == rb) = true:=by simp
  go_wp2
  go_ret
  exact ⟨rfl,HU8.out⟩
end Go.Proofs.Ytcbfghcdbmlneaa
