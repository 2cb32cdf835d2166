/- SeekFinds, walked. -/
import Derived.Test.YtnaomfmmkhgbhaaPk16
import Derived.Test.YtnaomfmmkhgbhaaPk11
import Derived.Test.YtnaomfmmkhgbhaaPk1
import Derived.Test.YtnaomfmmkhgbhaaPk17
import Derived.Test.YtnaomfmmkhgbhaaSeekR2
import Derived.Test.YtnaomfmmkhgbhaaProgRef5
namespace Go.Proofs.Ytnaomfmmkhgbhaa
open Go.RowKit
set_option maxRecDepth 1000000 in
set_option maxHeartbeats 8000000 in
theorem walkSeekFinds (pg0 : Pg) (a1 : Int) (w : World) (w0 : pg0.Ok w w.heap.size) (w1 : (Lit.int .i64 a1).wf = true) :
    Calls Try.prog 3 #[pgA pg0,.int .i64 a1] w fun e w' => e = .returned (.bool true) ∧ Below w.heap.size w w':=by
  have HP:=kp w0
  have ha1:=qK w1
  obtain ⟨r,hr⟩ : ∃ r,Q.small pg0 = r:=⟨_,rfl⟩
  have HR:=kp hr
  obtain ⟨⟨ca,cb,cc⟩,hc⟩ : ∃ x,Q.check pg0 = x:=⟨_,rfl⟩
  have HC:=kp hc
  clear hr w0 w1 hc
  rw [jI]
  by_cases hbig : 120 < a1
  · go_enter Try.func3,Try.ntmps3
    go_wp2_with (first
      | ((with_reducible refine j2 rfl 24 (.tmp 0) rfl (pgC pg0) rfl ?_);intro g1 u1 hg1 hk1 hu1;have HK1:=kp hk1;have HU1:=kp hu1;have hz1:=hu1.size;have hl1:=hk1.lt;clear hg1 hk1 hu1)
      | (go_at_call 8;fail))
    refine (jX u1).mono ?_
    rintro e u2 ⟨rfl,hb2⟩
    have HU2:=kp (HU1.out.trans (hb2.mono hz1))
    have hs2:=HU2.out.size
    have HKp:=kp (HK1.out.below hb2 hl1)
    have hlp:=HKp.out.lt
    clear hb2
    obtain ⟨hc0,hc1',hc2,hc3⟩:=jE HKp.out
    go_wp2_with (go_at_call 9;fail)
    refine (qU w.heap.size pg0 u2 (HP.out.below HU2.out) hs2 _ HR.out).mono ?_
    rintro e u3 ⟨rfl,hb3⟩
    have HU3:=kp (HU2.out.trans (hb3.mono hs2))
    have hs3:=HU3.out.size
    have HKp:=kp (HKp.out.below hb3 hlp)
    have hlp:=HKp.out.lt
    clear hb3 hc0 hc1' hc2 hc3
    cases r
    · go_wp2_with (go_at_call 8;fail)
      refine (jX u3).mono ?_
      rintro e u4 ⟨rfl,hb4⟩
      have HU4:=kp (HU3.out.trans (hb4.mono hs3))
      clear hb4
      go_wp2
      go_ret
      exact ⟨rfl,HU4.out⟩
    · go_wp2_with (go_at_call 8;fail)
      refine (jX u3).mono ?_
      rintro e u4 ⟨rfl,hb4⟩
      have HU4:=kp (HU3.out.trans (hb4.mono hs3))
      clear hb4
      go_wp2
      go_ret
      exact ⟨rfl,HU4.out⟩
  · go_enter Try.func3,Try.ntmps3
    go_wp2_with (first
      | ((with_reducible refine j2 rfl 24 (.tmp 0) rfl (pgC pg0) rfl ?_);intro g1 u1 hg1 hk1 hu1;have HK1:=kp hk1;have HU1:=kp hu1;have hz1:=hu1.size;have hl1:=hk1.lt;clear hg1 hk1 hu1)
      | (go_at_call 8;fail))
    refine (jX u1).mono ?_
    rintro e u2 ⟨rfl,hb2⟩
    have HU2:=kp (HU1.out.trans (hb2.mono hz1))
    have hs2:=HU2.out.size
    have HKp:=kp (HK1.out.below hb2 hl1)
    have hlp:=HKp.out.lt
    clear hb2
    obtain ⟨hc0,hc1',hc2,hc3⟩:=jE HKp.out
    go_wp2_with (go_at_call 9;fail)
    refine (qU w.heap.size pg0 u2 (HP.out.below HU2.out) hs2 _ HR.out).mono ?_
    rintro e u3 ⟨rfl,hb3⟩
    have HU3:=kp (HU2.out.trans (hb3.mono hs2))
    have hs3:=HU3.out.size
    have HKp:=kp (HKp.out.below hb3 hlp)
    have hlp:=HKp.out.lt
    clear hb3 hc0 hc1' hc2 hc3
    cases r
    · go_wp2_with (go_at_call 8;fail)
      refine (jX u3).mono ?_
      rintro e u4 ⟨rfl,hb4⟩
      have HU4:=kp (HU3.out.trans (hb4.mono hs3))
      clear hb4
      go_wp2
      go_ret
      exact ⟨rfl,HU4.out⟩
    · obtain ⟨hc0,hc1',hc2,hc3⟩:=jE HKp.out
      go_wp2_with (go_at_call 10;fail)
      refine (xZ w.heap.size pg0 (a1) (by omega) u3 (HP.out.below HU3.out) hs3 ca cb cc HC.out).mono ?_
      unfold FindPost
      rintro e u4 ⟨L4,n4,c4,l4,is4,rfl,ho4,hn4,hout4,hno4,hb4⟩
      have HO4:=kp (ho4.less hs3);have HOut4:=kp hout4;have HNo4:=kp hno4;have HU4:=kp (HU3.out.trans (hb4.mono hs3))
      have hs4:=HU4.out.size
      have HKp:=kp (HKp.out.below hb4 hlp)
      have hlp:=HKp.out.lt
      clear ho4 hout4 hno4 hb4 hc0 hc1' hc2 hc3
      obtain ⟨hc0,hc1',hc2,hc3⟩:=jE HKp.out
      go_wp2_with (go_at_call 11;fail)
      refine (ref_check w.heap.size pg0 u4 (HP.out.below HU4.out) hs4 ca cb cc HC.out).mono ?_
      rintro e u5 ⟨rfl,hb5⟩
      have HU5:=kp (HU4.out.trans (hb5.mono hs4))
      have hs5:=HU5.out.size
      have HO5:=kp (HO4.out.below hb5 (Nat.le_refl _))
      have HKp:=kp (HKp.out.below hb5 hlp)
      have hlp:=HKp.out.lt
      clear hb5 hc0 hc1' hc2 hc3
      by_cases hz : cc = 0
      rotate_left
      · obtain ⟨hl0,hi0⟩:=HNo4.out hz
        subst hl0 hi0
        have hn0 : n4 = 0:=HO4.out.1.symm
        subst hn0
        have hb0 : ((cc : Int) != 0) = true:=by simpa using hz
        have hb1 : ((cc : Int) == (cc : Int)) = true:=by simp
        go_wp2
        go_ret
        exact ⟨rfl,HU5.out⟩
      have HCz : Kept ((cc : Int) = 0):=kp (by omega)
      have hb0 : ((cc : Int) != 0) = false:=by rw [HCz.out];rfl
      have HO:=kp (HOut4.out hz)
      have HF : Kept (Fine pg0):=kp (qZ (by rw [HC.out,hz]))
      have HL : Kept (pg0.fns.length = pg0.len):=kp HP.out.row.len
      obtain ⟨hc0,hc1',hc2,hc3⟩:=jE HKp.out
      go_wp2_with (go_at_call 12;fail)
      refine (rk_find w.heap.size pg0 HF.out a1 (by omega) u5 (HP.out.below HU5.out) hs5).mono ?_
      unfold FindR
      rintro e u6 ⟨L6,n6,c6,l6,is6,rfl,ho6,hn6,hout6,hb6⟩
      obtain ⟨hl6,hi6⟩:=K.out_one hout6 HO.out
      subst hl6 hi6
      have HU6:=kp (HU5.out.trans (hb6.mono hs5))
      have hs6:=HU6.out.size
      have HPa : Kept (Picks u6 u6.heap.size L4 n4 l6):=kp ⟨(HO5.out.below hb6 (Nat.le_refl _)).recs,K.out_i64 HF.out HL.out HO.out⟩
      have HPb : Kept (Picks u6 u6.heap.size L6 n6 l6):=kp ⟨ho6.recs,K.out_i64 HF.out HL.out HO.out⟩
      clear hb6 ho6 hout6 hc0 hc1' hc2 hc3
      have hb2 : ((cc : Int) == 0) = true:=by rw [HCz.out];rfl
      have hb3 : ((is6 : Int) == (is6 : Int)) = true:=by simp
      go_wp2_with (go_at_call 13;fail)
      refine (rc_same u6.heap.size L4 L6 n4 c4 n6 c6 l6 l6 u6 HPa.out HPb.out hn4 hn6 true (by simp)).mono ?_
      rintro e u7 ⟨rfl,hb7⟩
      have HU7:=kp (HU6.out.trans (hb7.mono hs6))
      clear hb7
      go_wp2
      go_ret
      exact ⟨rfl,HU7.out⟩
end Go.Proofs.Ytnaomfmmkhgbhaa
