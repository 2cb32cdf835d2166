/- SeekTrue, walked. -/
import Derived.Test.YtnaomfmmkhgbhaaPk16
import Derived.Test.YtnaomfmmkhgbhaaPk11
import Derived.Test.YtnaomfmmkhgbhaaPk1
import Derived.Test.YtnaomfmmkhgbhaaPk17
import Derived.Test.YtnaomfmmkhgbhaaPk23
namespace Go.Proofs.Ytnaomfmmkhgbhaa
open Go.RowKit
set_option maxRecDepth 1000000 in
set_option maxHeartbeats 8000000 in
theorem walkSeekTrue (pg0 : Pg) (a1 : Int) (w : World) (w0 : pg0.Ok w w.heap.size) (w1 : (Lit.int .u16 a1).wf = true) :
    Calls Try.prog 4 #[pgA pg0,.int .u16 a1] w fun e w' => e = .returned (.bool true) ∧ Below w.heap.size w w':=by
  have HP:=kp w0
  have ha1:=x7 a1 w1
  obtain ⟨r,hr⟩ : ∃ r,Q.small pg0 = r:=⟨_,rfl⟩
  have HR:=kp hr
  obtain ⟨⟨ca,cb,cc⟩,hc⟩ : ∃ x,Q.check pg0 = x:=⟨_,rfl⟩
  have HC:=kp hc
  clear hr w0 w1 hc
  rw [jI]
  go_enter Try.func4,Try.ntmps4
  go_wp2_with (first
    | ((with_reducible refine j2 rfl 24 (.tmp 0) rfl (pgC pg0) rfl ?_);intro g1 u1 hg1 hk1 hu1;have HK1:=kp hk1;have HU1:=kp hu1;have hz1:=hu1.size;have hl1:=hk1.lt;clear hg1 hk1 hu1)
    | (go_at_call 8;fail))
  refine (jX u1).mono ?_
  rintro e u2 ⟨rfl,hb2⟩
  have HU2:=kp (HU1.out.trans (hb2.mono hz1))
  have hs2:=HU2.out.size
  have HKp:=kp (HK1.out.below hb2 hl1)
  have hlp:=HKp.out.lt
  clear hb2
  obtain ⟨hc0,hc1',hc2,hc3⟩:=jE HKp.out
  go_wp2_with (go_at_call 9;fail)
  refine (qU w.heap.size pg0 u2 (HP.out.below HU2.out) hs2 _ HR.out).mono ?_
  rintro e u3 ⟨rfl,hb3⟩
  have HU3:=kp (HU2.out.trans (hb3.mono hs2))
  have hs3:=HU3.out.size
  have HKp:=kp (HKp.out.below hb3 hlp)
  have hlp:=HKp.out.lt
  clear hb3 hc0 hc1' hc2 hc3
  cases r
  · go_wp2_with (go_at_call 8;fail)
    refine (jX u3).mono ?_
    rintro e u4 ⟨rfl,hb4⟩
    have HU4:=kp (HU3.out.trans (hb4.mono hs3))
    clear hb4
    go_wp2
    go_ret
    exact ⟨rfl,HU4.out⟩
  · obtain ⟨hc0,hc1',hc2,hc3⟩:=jE HKp.out
    go_wp2_with (go_at_call 10;fail)
    refine (xZ w.heap.size pg0 (a1 % 1000) (by omega) u3 (HP.out.below HU3.out) hs3 ca cb cc HC.out).mono ?_
    unfold FindPost
    rintro e u4 ⟨L4,n4,c4,l4,is4,rfl,ho4,hn4,hout4,hno4,hb4⟩
    have HO4:=kp (ho4.less hs3);have HOut4:=kp hout4;have HNo4:=kp hno4;have HU4:=kp (HU3.out.trans (hb4.mono hs3))
    have hs4:=HU4.out.size
    have HKp:=kp (HKp.out.below hb4 hlp)
    have hlp:=HKp.out.lt
    clear ho4 hout4 hno4 hb4 hc0 hc1' hc2 hc3
    by_cases hz : cc = 0
    rotate_left
    · obtain ⟨hl0,hi0⟩:=HNo4.out hz
      subst hl0 hi0
      have hn0 : n4 = 0:=HO4.out.1.symm
      subst hn0
      have hb0 : ((cc : Int) != 0) = true:=by simpa using hz
      go_wp2
      go_ret
      exact ⟨rfl,HU4.out⟩
    have HCz : Kept ((cc : Int) = 0):=kp (by omega)
    have hb0 : ((cc : Int) != 0) = false:=by rw [HCz.out];rfl
    have HO:=kp (HOut4.out hz)
    by_cases his : is4 = 1
    rotate_left
    · have hl0:=K.out_not HO.out his
      subst hl0
      have hn0 : n4 = 0:=HO4.out.1.symm
      subst hn0
      have hb1 : ((is4 : Int) != 1) = true:=by rw [bne_iff_ne];omega
      go_wp2
      go_ret
      exact ⟨rfl,HU4.out⟩
    subst his
    have HF : Kept (Fine pg0):=kp (qZ (by rw [HC.out,hz]))
    have HL : Kept (pg0.fns.length = pg0.len):=kp HP.out.row.len
    obtain ⟨hfd,hlm⟩:=K.out_found HF.out HL.out HO.out
    have hn4 : l4.length = n4:=HO4.out.1
    have HFd:=kp hfd
    have HPk : Kept (Picks u4 u4.heap.size L4 n4 l4):=kp ⟨HO4.out.recs,K.found_i64 HF.out HL.out hfd⟩
    obtain ⟨hc0,hc1',hc2,hc3⟩:=jE HKp.out
    clear hfd
    go_wp2_with (go_at_call 14;fail)
    refine (XE u4.heap.size pg0 L4 n4 c4 l4 u4 (lD (HP.out.below HU4.out) hs4) HPk.out (by omega) (Nat.le_refl _) ca cb cc HC.out).mono ?_
    unfold MeetsPost
    rintro e u5 ⟨k,b,rfl,hme,hb5⟩
    obtain ⟨rfl,rfl⟩:=K.found_meets HFd.out hn4 (hme.2 hz)
    have HU5:=kp (HU4.out.trans (hb5.mono hs4))
    clear hb5 hme
    go_wp2
    go_ret
    exact ⟨rfl,HU5.out⟩
end Go.Proofs.Ytnaomfmmkhgbhaa
