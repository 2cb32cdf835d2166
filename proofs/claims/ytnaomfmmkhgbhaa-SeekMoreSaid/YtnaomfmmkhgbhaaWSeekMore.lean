/- SeekMore, walked. -/
import Derived.Test.YtnaomfmmkhgbhaaPk16
import Derived.Test.YtnaomfmmkhgbhaaPk11
import Derived.Test.YtnaomfmmkhgbhaaPk1
import Derived.Test.YtnaomfmmkhgbhaaPk17
namespace Go.Proofs.Ytnaomfmmkhgbhaa
open Go.RowKit
set_option maxRecDepth 1000000 in
set_option maxHeartbeats 8000000 in
theorem walkSeekMore (pg0 : Pg) (a1 a2 : Int) (w : World) (w0 : pg0.Ok w w.heap.size) (w1 : (Lit.int .u16 a1).wf = true) (w2 : (Lit.int .u16 a2).wf = true) :
    Calls Try.prog 6 #[pgA pg0,.int .u16 a1,.int .u16 a2] w fun e w' => e = .returned (.bool true) ∧ Below w.heap.size w w':=by
  have HP:=kp w0
  have ha1:=x7 a1 w1
  have ha2:=x7 a2 w2
  obtain ⟨r,hr⟩ : ∃ r,Q.small pg0 = r:=⟨_,rfl⟩
  have HR:=kp hr
  obtain ⟨⟨ca,cb,cc⟩,hc⟩ : ∃ x,Q.check pg0 = x:=⟨_,rfl⟩
  have HC:=kp hc
  clear hr w0 w1 w2 hc
  rw [jI]
  go_enter Try.func6,Try.ntmps6
  go_wp2_with (first
    | ((with_reducible refine j2 rfl 24 (.tmp 0) rfl (pgC pg0) rfl ?_);intro g1 u1 hg1 hk1 hu1;have HK1:=kp hk1;have HU1:=kp hu1;have hz1:=hu1.size;have hl1:=hk1.lt;clear hg1 hk1 hu1)
    | (go_at_call 8;fail))
  refine (jX u1).mono ?_
  rintro e u2 ⟨rfl,hb2⟩
  have HU2:=kp (HU1.out.trans (hb2.mono hz1))
  have hs2:=HU2.out.size
  have HKp:=kp (HK1.out.below hb2 hl1)
  have hlp:=HKp.out.lt
  clear hb2
  obtain ⟨hc0,hc1',hc2,hc3⟩:=jE HKp.out
  go_wp2_with (go_at_call 9;fail)
  refine (qU w.heap.size pg0 u2 (HP.out.below HU2.out) hs2 _ HR.out).mono ?_
  rintro e u3 ⟨rfl,hb3⟩
  have HU3:=kp (HU2.out.trans (hb3.mono hs2))
  have hs3:=HU3.out.size
  have HKp:=kp (HKp.out.below hb3 hlp)
  have hlp:=HKp.out.lt
  clear hb3 hc0 hc1' hc2 hc3
  cases r
  · go_wp2_with (go_at_call 8;fail)
    refine (jX u3).mono ?_
    rintro e u4 ⟨rfl,hb4⟩
    have HU4:=kp (HU3.out.trans (hb4.mono hs3))
    clear hb4
    go_wp2
    go_ret
    exact ⟨rfl,HU4.out⟩
  · obtain ⟨hc0,hc1',hc2,hc3⟩:=jE HKp.out
    go_wp2_with (go_at_call 10;fail)
    refine (xZ w.heap.size pg0 (a1 % 600) (by omega) u3 (HP.out.below HU3.out) hs3 ca cb cc HC.out).mono ?_
    unfold FindPost
    rintro e u4 ⟨L4,n4,c4,l4,is4,rfl,ho4,hn4,hout4,hno4,hb4⟩
    have HO4:=kp (ho4.less hs3);have HOut4:=kp hout4;have HNo4:=kp hno4;have HU4:=kp (HU3.out.trans (hb4.mono hs3))
    have hs4:=HU4.out.size
    have HKp:=kp (HKp.out.below hb4 hlp)
    have hlp:=HKp.out.lt
    clear ho4 hout4 hno4 hb4 hc0 hc1' hc2 hc3
    obtain ⟨hc0,hc1',hc2,hc3⟩:=jE HKp.out
    go_wp2_with (go_at_call 10;fail)
    refine (xZ w.heap.size pg0 (a1 % 600 + a2 % 600) (by omega) u4 (HP.out.below HU4.out) hs4 ca cb cc HC.out).mono ?_
    unfold FindPost
    rintro e u5 ⟨L5,n5,c5,l5,is5,rfl,ho5,hn5,hout5,hno5,hb5⟩
    have HO5:=kp (ho5.less hs4);have HOut5:=kp hout5;have HNo5:=kp hno5;have HU5:=kp (HU4.out.trans (hb5.mono hs4))
    have hs5:=HU5.out.size
    have HKp:=kp (HKp.out.below hb5 hlp)
    have hlp:=HKp.out.lt
    have HO4c:=kp (HO4.out.below hb5 (Nat.le_refl _))
    clear ho5 hout5 hno5 hb5 hc0 hc1' hc2 hc3
    by_cases hz : cc = 0
    rotate_left
    · obtain ⟨hl0,hi0⟩:=HNo4.out hz
      subst hl0 hi0
      have hb0 : ((cc : Int) != (cc : Int)) = false:=by simp
      go_wp2
      go_ret
      exact ⟨rfl,HU5.out⟩
    have HO4b:=kp (HOut4.out hz);have HO5b:=kp (HOut5.out hz)
    have hb0 : ((cc : Int) != (cc : Int)) = false:=by simp
    have HF : Kept (Fine pg0):=kp (qZ (by rw [HC.out,hz]))
    have HL : Kept (pg0.fns.length = pg0.len):=kp HP.out.row.len
    by_cases hi0 : is4 = 0
    · subst hi0
      go_wp2
      go_ret
      exact ⟨rfl,HU5.out⟩
    obtain ⟨hl5,hi5⟩:=K.out_one HO5b.out (K.out_more (by omega) HO4b.out hi0)
    subst hl5 hi5
    have hb1 : ((is5 : Int) == 0) = false:=by rw [beq_eq_false_iff_ne];omega
    have hb2 : ((is5 : Int) == (is5 : Int)) = true:=by simp
    have HPa : Kept (Picks u5 u5.heap.size L4 n4 l5):=kp ⟨HO4c.out.recs,K.out_i64 HF.out HL.out HO5b.out⟩
    have HPb : Kept (Picks u5 u5.heap.size L5 n5 l5):=kp ⟨HO5.out.recs,K.out_i64 HF.out HL.out HO5b.out⟩
    go_wp2_with (go_at_call 13;fail)
    refine (rc_same u5.heap.size L4 L5 n4 c4 n5 c5 l5 l5 u5 HPa.out HPb.out hn4 hn5 true (by simp)).mono ?_
    rintro e u6 ⟨rfl,hb6⟩
    have HU6:=kp (HU5.out.trans (hb6.mono hs5))
    clear hb6
    go_wp2
    go_ret
    exact ⟨rfl,HU6.out⟩
end Go.Proofs.Ytnaomfmmkhgbhaa
