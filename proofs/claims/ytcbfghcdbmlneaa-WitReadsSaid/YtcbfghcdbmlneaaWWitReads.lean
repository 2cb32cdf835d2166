/- WitReads, walked. -/
import Derived.Test.YtcbfghcdbmlneaaPk10
import Derived.Test.YtcbfghcdbmlneaaWitR3
import Derived.Test.YtcbfghcdbmlneaaPk13
namespace Go.Proofs.Ytcbfghcdbmlneaa
open Go.RowKit
theorem T.read_short {bs : List Nat} {d : T.WD} {at_ why : Nat} (h : T.read bs = (d,at_,why)) : d.z.length ≤ 4096:=by
  by_cases h1 : (T.h0 bs).2.why = 0 ∧ (T.h0 bs).1 ≠ T.mark
  · rw [T.read_form h1] at h;cases h;exact Nat.zero_le _
  by_cases h2 : (T.fin bs).why = 0
  rotate_left
  · rw [T.read_fault h1 h2] at h
    have hd:=(Prod.mk.inj h).1
    subst hd
    exact Nat.zero_le _
  by_cases h3 : ∃ b ∈ (T.p2 bs (T.h0 bs).2).1,16 ≤ b
  · rw [T.read_pick h1 h2 h3] at h;cases h;exact Nat.zero_le _
  by_cases h4 : (T.p3 bs (T.h0 bs).2).1 = (T.p4 bs (T.h0 bs).2).1
  · rw [T.read_alike h1 h2 h3 h4] at h;cases h;exact Nat.zero_le _
  rw [T.read_fine h1 h2 h3 h4] at h
  have hd:=(Prod.mk.inj h).1
  subst hd
  show ((T.p2 bs (T.h0 bs).2).1.map M.bp).length ≤ 4096
  rw [List.length_map]
  have x1 : ((T.p1 bs (T.h0 bs).2).1 : Int) ≤ 4096:=R.num_le (bs:=bs) (s:=(T.h0 bs).2) (most:=4096) (by omega)
  unfold T.p2 R.raw
  split
  · split
    · exact Nat.zero_le _
    · split
      · exact Nat.zero_le _
      · simp only [List.length_take]
        omega
  · exact Nat.zero_le _
set_option maxRecDepth 1000000 in
set_option maxHeartbeats 8000000 in
theorem walkWitReads (a0 : Option Addr) (len0 cap0 : Nat) (z0 : List Int) (w : World) (w0 : IsRow .u8 w a0 len0 cap0 z0) :
    Calls Try.prog 4 #[.slice a0 len0 cap0] w fun e w' => e = .returned (.bool true) ∧ Below w.heap.size w w':=by
  obtain ⟨bs,hrow,h256,hlm,hc1,hm1⟩:=w0.bytes
  have hm1':=hm1
  unfold maxLen at hm1
  have HP:=kp hrow;have H256:=kp h256;have HCm:=kp hm1'
  obtain ⟨⟨d,at_,why⟩,hre⟩ : ∃ r,T.read bs = r:=⟨_,rfl⟩
  have HRe:=kp hre
  clear w0 hrow h256 hre hm1'
  go_enter Try.func4,Try.ntmps4
  go_wp2_with (go_at_call 9;fail)
  refine (lR w).mono ?_
  rintro e u1 ⟨rfl,hb1⟩
  have HU1:=kp hb1;have hs1:=hb1.size
  clear hb1
  by_cases hbig : 5000 < len0
  · go_wp2_with (go_at_call 9;fail)
    refine (lR u1).mono ?_
    rintro e uz ⟨rfl,hbz⟩
    have HUz:=kp (HU1.out.trans (hbz.mono HU1.out.size))
    clear hbz
    go_wp2
    go_ret
    exact ⟨rfl,HUz.out⟩
  have hn5 : len0 ≤ 5000:=by omega
  clear hbig
  go_wp2_with (go_at_call 14;fail)
  refine (uN a0 len0 cap0 bs u1 ((HP.out.below HU1.out).more hs1) H256.out (by omega) d at_ why HRe.out).mono ?_
  unfold WRead
  rintro e u2 ⟨x,rfl,hxok,hxd,hb2⟩
  have HX2:=kp hxok;have HXd:=kp hxd;have HU2:=kp (HU1.out.trans (hb2.mono hs1));have hs2:=HU2.out.size
  clear hxok hxd hb2
  have HXk : Kept (∀ W,Below u2.heap.size u2 W → x.Ok W u2.heap.size):=kp (fun W hW => HX2.out.below hW)
  rw [l6]
  go_wp2_with (first
    | ((with_reducible show Sl 3);go_must (refine j7 rfl 24 rfl _ lW ?_);intro gp3 y1 hgp3 hk1 hy1;have Kpa:=kp hk1;have YB1:=kp hy1;have ys1:=hy1.size;have yl1:=hk1.lt;clear hk1 hy1)
    | ((with_reducible show Sl 4);go_must (refine j7 rfl 35 rfl _ lY ?_);intro gp4 y2 hgp4 hk2 hy2;have Ksb:=kp hk2;have Kpb:=kp (Kpa.out.below hy2 yl1);have YB2:=kp (YB1.out.trans (hy2.mono ys1));have ys2:=YB2.out.size;have yl2:=hk2.lt;clear hk2 hy2)
    | ((with_reducible show Sn);(refine j5 rfl 24 (.tmp 3) (.tmp 19) rfl gp3 (wtC x) rfl rfl _ _ Kpb.out jD rfl (jU x) ?_);intro y3 hk3 hg3 hy3
       have Kpc:=kp hk3;have Ksc:=kp (Ksb.out.grown hg3 (by intro e;cases e;omega));have YB3:=kp (YB2.out.grown hg3 ys2 (by intro k e;cases e;exact hgp3))
       clear hk3 hg3)
    | ((with_reducible show Sn);(refine j5 rfl 35 (.tmp 4) (.tmp 20) rfl gp4 [.int .i64 (at_ : Int),.int .i64 (why : Int)] rfl rfl _ _ Ksc.out jR rfl (lA _ _) ?_);intro u3 hk4 hg4 hy4
       have KS4_3:=kp hk4;have KW3_3:=kp (Kpc.out.grown hg4 (by intro e;cases e;omega));have HB23:=kp (YB3.out.grown hg4 YB3.out.size (by intro k e;cases e;exact Nat.le_trans ys1 hgp4))
       have HU3:=kp (HU2.out.trans (HB23.out.mono hs2));have hs3:=HU3.out.size
       clear hk4 hg4 Kpa Kpb Kpc Ksb Ksc YB1 YB2 YB3 ys1 ys2 yl1 yl2 hy3 hy4)
    | (go_at_call 15;fail))
  have HB23':=kp HB23.out
  refine (rw_read a0 len0 cap0 bs u3 ((HP.out.below HU3.out).more hs3) hc1 HCm.out H256.out (by omega) d at_ why HRe.out).mono ?_
  unfold RRead
  rintro e u4 ⟨y,rfl,hyok,hyd,hb4⟩
  have HY4:=kp hyok;have HYd:=kp hyd;have HU4:=kp (HU3.out.trans (hb4.mono hs3));have hs4:=HU4.out.size;have KS4_4:=kp (KS4_3.out.below hb4 KS4_3.out.lt);have KW3_4:=kp (KW3_3.out.below hb4 KW3_3.out.lt);have HB24:=kp (HB23.out.trans (hb4.mono HB23.out.size))
  clear hyok hyd hb4
  rw [l6]
  go_wp2_with (first
    | ((with_reducible show Sl 5);go_must (refine j7 rfl 24 rfl _ lW ?_);intro g5 u5 hg5 hk5 hu5;have KV5:=kp hk5;have HB45:=kp hu5;have hs45:=hu5.size;clear hk5 hu5)
    | ((with_reducible show Sn);(refine j5 rfl 24 (.tmp 5) (.tmp 24) rfl g5 (wtC y) rfl rfl _ _ KV5.out jD rfl (jU y) ?_);intro u6 hk6 hg6 hz6
       have KV6:=kp hk6;have HB46:=kp (HB45.out.grown hg6 hs45 (fun k e => by cases e;exact hg5));have KS6:=kp (KS4_4.out.below HB46.out KS4_4.out.lt);have KW6:=kp (KW3_4.out.below HB46.out KW3_4.out.lt);have HU6:=kp (HU4.out.trans (HB46.out.mono hs4));have HB26:=kp (HB24.out.trans (HB46.out.mono HB24.out.size))
       have hs6:=HU6.out.size
       have hd0 : u6.cell? ⟨gp4,0,none⟩ = some (.int .i64 (at_ : Int)):=KS6.out.cell 0
       have hd1 : u6.cell? ⟨gp4,1,none⟩ = some (.int .i64 (why : Int)):=KS6.out.cell 1
       have hq1 : ((at_ : Int) == (at_ : Int)) = true:=by simp
       have hq2 : ((why : Int) == (why : Int)) = true:=by simp
       clear hk6 hg6)
    | ((with_reducible show Sl 38);go_must (refine lO rfl 24 (.tmp 3) rfl gp3 rfl _ (wtC x) _ KW6.out Try.underlying24 rfl jD ?_))
    | ((with_reducible show Sl 39);go_must (refine lO rfl 24 (.tmp 5) rfl g5 rfl _ (wtC y) _ KV6.out Try.underlying24 rfl jD ?_))
    | (go_at_call 16;fail))
  rw [← l6,← l6]
  have hz24:=HB24.out.size
  refine (rw_same u4.heap.size x y u6 ((HXk.out u6 HB26.out).more hz24) (HY4.out.below HB46.out) ?_ HB46.out.size true ⟨fun _ => ?_,fun _ => rfl⟩).mono ?_
  · have h1:=HX2.out.len_
    rw [HXd.out.1] at h1
    have:=T.read_short HRe.out
    omega
  · obtain ⟨h1,h2,h3,h4⟩:=HXd.out
    obtain ⟨k1,k2,k3,k4⟩:=HYd.out
    exact ⟨by rw [h2,k2],by rw [h3,k3],by rw [h4,k4],by rw [h1,k1]⟩
  rintro e u7 ⟨rfl,hb7⟩
  have HU7:=kp (HU6.out.trans (hb7.mono hs6))
  clear hb7
  go_wp2
  go_ret
  exact ⟨rfl,HU7.out⟩
end Go.Proofs.Ytcbfghcdbmlneaa
