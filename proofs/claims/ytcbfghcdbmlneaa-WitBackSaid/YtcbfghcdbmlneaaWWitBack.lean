/- WitBack, walked. -/
import Derived.Test.YtcbfghcdbmlneaaPk10
import Derived.Test.YtcbfghcdbmlneaaWWitReads
import Derived.Test.YtcbfghcdbmlneaaPk13
import Derived.Test.YtcbfghcdbmlneaaPk2
namespace Go.Proofs.Ytcbfghcdbmlneaa
open Go.RowKit
theorem JQ (x : Int) (h : (Lit.int .u16 x).wf = true) : 0 ≤ x ∧ x ≤ 65535:=by
  simp [Lit.wf,IntKind.min,IntKind.max,IntKind.bits,IntKind.signed] at h;omega
set_option maxRecDepth 1000000 in
set_option maxHeartbeats 8000000 in
theorem walkWitBack (x0 : Wt) (a1 : Option Addr) (len1 cap1 : Nat) (z1 : List Int) (a2 : Int) (w : World) (w0 : x0.Ok w w.heap.size) (w1 : IsRow .u8 w a1 len1 cap1 z1) (w2 : (Lit.int .u16 a2).wf = true) :
    Calls Try.prog 5 #[wtA x0,.slice a1 len1 cap1,.int .u16 a2] w fun e w' => e = .returned (.bool true) ∧ Below w.heap.size w w':=by
  have HW:=kp w0
  obtain ⟨bs,hrow,h256,hlm,hc1,hm1⟩:=w1.bytes
  unfold maxLen at hm1
  have HP:=kp hrow;have H256:=kp h256
  obtain ⟨⟨d,at_,why⟩,hre⟩ : ∃ r,T.read bs = r:=⟨_,rfl⟩
  have HRe:=kp hre
  obtain ⟨ck,hck⟩ : ∃ c,x0.check = c:=⟨_,rfl⟩
  have HCk':=kp hck
  obtain ⟨k0,hk0⟩ : ∃ k : Nat,a2 = (k : Int):=⟨a2.toNat,by have:=(JQ a2 w2).1;omega⟩
  have hk0m : k0 ≤ 65535:=by have:=(JQ a2 w2).2;omega
  subst hk0
  clear w0 w1 w2 hrow h256 hre hck
  rw [l6]
  go_enter Try.func5,Try.ntmps5
  go_wp2_with (first
    | ((with_reducible refine j6 rfl 24 (.tmp 0) rfl (wtC x0) rfl ?_);intro g1 u1 hg1 hk1 hu1;have HX1:=kp hk1;have HU1:=kp hu1;have hs1:=hu1.size;clear hg1 hk1 hu1)
    | (go_at_call 9;fail))
  refine (lR u1).mono ?_
  rintro e u2 ⟨rfl,hb2⟩
  have HU2:=kp (HU1.out.trans (hb2.mono hs1));have hs2:=HU2.out.size
  have HX2:=kp (HX1.out.below hb2 HX1.out.lt)
  clear hb2
  obtain ⟨hd0,hd1,hd2,hd3⟩:=jS HX2.out
  by_cases hbig : 5000 < x0.len
  · go_wp2_with (go_at_call 9;fail)
    refine (lR u2).mono ?_
    rintro e uz ⟨rfl,hbz⟩
    have HUz:=kp (HU2.out.trans (hbz.mono HU2.out.size))
    clear hbz
    go_wp2
    go_ret
    exact ⟨rfl,HUz.out⟩
  have hn5 : x0.len ≤ 5000:=by omega
  clear hbig
  by_cases hbig : 5000 < len1
  · go_wp2_with (go_at_call 9;fail)
    refine (lR u2).mono ?_
    rintro e uz ⟨rfl,hbz⟩
    have HUz:=kp (HU2.out.trans (hbz.mono HU2.out.size))
    clear hbz
    go_wp2
    go_ret
    exact ⟨rfl,HUz.out⟩
  have hn51 : len1 ≤ 5000:=by omega
  clear hbig
  by_cases h0 : ck = 0
  rotate_left
  · go_wp2_with (first
      | ((with_reducible show Sl 32);go_must (refine j4 rfl 24 (.tmp 3) rfl g1 rfl _ (wtC x0) _ HX2.out Try.underlying24 rfl jD ?_))
      | (go_at_call 10;fail))
    rw [← l6]
    clear hd0 hd1 hd2 hd3
    refine (uL w.heap.size x0 u2 (HW.out.below HU2.out) hn5 hs2 ck HCk'.out h0).mono ?_
    rintro e u3 ⟨rfl,hb3⟩
    have HU3:=kp (HU2.out.trans (hb3.mono hs2));have hs3:=HU3.out.size
    have HX3:=kp (HX2.out.below hb3 HX2.out.lt)
    clear hb3
    have hb9 : ((ck : Int) == 0) = false:=by rw [beq_eq_false_iff_ne];omega
    clear h0
    go_wp2_with (go_at_call 14;fail)
    refine (uN a1 len1 cap1 bs u3 ((HP.out.below HU3.out).more hs3) H256.out (by omega) d at_ why HRe.out).mono ?_
    unfold WRead
    rintro e u4 ⟨y,rfl,hyok,hyd,hb⟩
    have HY4:=kp hyok;have HYd:=kp hyd;have HU4:=kp (HU3.out.trans (hb.mono hs3));have hs4:=HU4.out.size
    clear hyok hyd hb
    have HYl:=kp HY4.out.len_
    rw [l6]
    by_cases hw : why = 0
    rotate_left
    · have hb0 : ((why : Int) != 0) = true:=by rw [bne_iff_ne];omega
      have hdn : d = T.none_:=by
        have h:=T.read_not (bs:=bs) (by rw [HRe.out];exact hw)
        rw [HRe.out] at h
        exact h
      obtain ⟨h1,h2,h3,h4⟩:=HYd.out
      rw [hdn] at h1 h2 h3 h4
      have hy0 : y.len = 0:=by rw [← HYl.out,h1];rfl
      have hya : y.a = 0:=h2
      have hyb : y.b = 0:=h3
      have HYC : Kept (wtC y = [.slice y.A 0 y.cap,.int .i64 0,.int .i64 0,.int .i64 y.g]):=kp (by unfold wtC;rw [hy0,hya,hyb])
      clear h1 h2 h3 h4 hy0 hya hyb hdn hw
      go_wp2_with (first
        | ((with_reducible show Sl 13);go_must (refine j7 rfl 24 rfl _ lW ?_);intro gp13 y1 hgp13 hk1 hy1;have Kpa:=kp hk1;have YB1:=kp hy1;have ys1:=hy1.size;have yl1:=hk1.lt;clear hk1 hy1)
        | ((with_reducible show Sl 14);go_must (refine j7 rfl 35 rfl _ lY ?_);intro gp14 y2 hgp14 hk2 hy2;have Ksb:=kp hk2;have Kpb:=kp (Kpa.out.below hy2 yl1);have YB2:=kp (YB1.out.trans (hy2.mono ys1));have ys2:=YB2.out.size;have yl2:=hk2.lt;clear hk2 hy2)
        | ((with_reducible show Sn);(refine j5 rfl 24 (.tmp 13) (.tmp 71) rfl gp13 (wtC y) rfl rfl _ _ Kpb.out jD rfl (jU y) ?_);intro y3 hk3 hg3 hy3
           have Kpc:=kp hk3;have Ksc:=kp (Ksb.out.grown hg3 (by intro e;cases e;omega));have YB3:=kp (YB2.out.grown hg3 ys2 (by intro k e;cases e;exact hgp13))
           clear hk3 hg3)
        | ((with_reducible show Sn);(refine j5 rfl 35 (.tmp 14) (.tmp 72) rfl gp14 [.int .i64 (at_ : Int),.int .i64 (why : Int)] rfl rfl _ _ Ksc.out jR rfl (lA _ _) ?_);intro u5 hk4 hg4 hy4
           have KS14_5:=kp hk4;have KW13_5:=kp (Kpc.out.grown hg4 (by intro e;cases e;omega));have HB45:=kp (YB3.out.grown hg4 YB3.out.size (by intro k e;cases e;exact Nat.le_trans ys1 hgp14))
           have hd1 : u5.cell? ⟨gp14,1,none⟩ = some (.int .i64 (why : Int)):=hk4.cell 1;have he0 : u5.cell? ⟨gp13,0,none⟩ = some (.slice y.A 0 y.cap):=by (rw [KW13_5.out.cell,HYC.out];rfl)
           have he1 : u5.cell? ⟨gp13,1,none⟩ = some (.int .i64 0):=by (rw [KW13_5.out.cell,HYC.out];rfl)
           have he2 : u5.cell? ⟨gp13,2,none⟩ = some (.int .i64 0):=by (rw [KW13_5.out.cell,HYC.out];rfl)
           have HU5:=kp (HU4.out.trans (HB45.out.mono hs4));have hs5:=HU5.out.size
           clear hk4 hg4 Kpa Kpb Kpc Ksb Ksc YB1 YB2 YB3 ys1 ys2 yl1 yl2 hy3 hy4)
        | fail)
      go_ret
      exact ⟨rfl,HU5.out⟩
    have hb0 : ((why : Int) != 0) = false:=by subst hw;rfl
    obtain ⟨hon1,hon2⟩:=T.read_once (bs:=bs) H256.out (d:=d) (at_:=at_) (by rw [HRe.out,hw])
    obtain ⟨h1,h2,h3,h4⟩:=HYd.out
    have HYc : Kept (y.check = 0):=kp (by unfold Wt.check;rw [h1,h2,h3,h4];exact hon1)
    have HYb : Kept (y.bytes = bs):=kp (by unfold Wt.bytes;rw [h1,h2,h3,h4];exact hon2)
    clear hon1 hon2 h1 h2 h3 h4 hw
    go_wp2_with (first
      | ((with_reducible show Sl 13);go_must (refine j7 rfl 24 rfl _ lW ?_);intro gp13 y1 hgp13 hk1 hy1;have Kpa:=kp hk1;have YB1:=kp hy1;have ys1:=hy1.size;have yl1:=hk1.lt;clear hk1 hy1)
      | ((with_reducible show Sl 14);go_must (refine j7 rfl 35 rfl _ lY ?_);intro gp14 y2 hgp14 hk2 hy2;have Ksb:=kp hk2;have Kpb:=kp (Kpa.out.below hy2 yl1);have YB2:=kp (YB1.out.trans (hy2.mono ys1));have ys2:=YB2.out.size;have yl2:=hk2.lt;clear hk2 hy2)
      | ((with_reducible show Sn);(refine j5 rfl 24 (.tmp 13) (.tmp 71) rfl gp13 (wtC y) rfl rfl _ _ Kpb.out jD rfl (jU y) ?_);intro y3 hk3 hg3 hy3
         have Kpc:=kp hk3;have Ksc:=kp (Ksb.out.grown hg3 (by intro e;cases e;omega));have YB3:=kp (YB2.out.grown hg3 ys2 (by intro k e;cases e;exact hgp13))
         clear hk3 hg3)
      | ((with_reducible show Sn);(refine j5 rfl 35 (.tmp 14) (.tmp 72) rfl gp14 [.int .i64 (at_ : Int),.int .i64 (why : Int)] rfl rfl _ _ Ksc.out jR rfl (lA _ _) ?_);intro u5 hk4 hg4 hy4
         have KS14_5:=kp hk4;have KW13_5:=kp (Kpc.out.grown hg4 (by intro e;cases e;omega));have HB45:=kp (YB3.out.grown hg4 YB3.out.size (by intro k e;cases e;exact Nat.le_trans ys1 hgp14))
         have hd1 : u5.cell? ⟨gp14,1,none⟩ = some (.int .i64 (why : Int)):=hk4.cell 1;have HU5:=kp (HU4.out.trans (HB45.out.mono hs4));have hs5:=HU5.out.size
         clear hk4 hg4 Kpa Kpb Kpc Ksb Ksc YB1 YB2 YB3 ys1 ys2 yl1 yl2 hy3 hy4)
      | ((with_reducible show Sl 91);go_must (refine j4 rfl 24 (.tmp 13) rfl gp13 rfl _ (wtC y) _ KW13_5.out Try.underlying24 rfl jD ?_))
      | (go_at_call 10;fail))
    rw [← l6]
    refine (zJ u5.heap.size y u5 ((HY4.out.below HB45.out).more HB45.out.size) (Nat.le_refl _) HYc.out).mono ?_
    rintro e u6 ⟨v,rfl,hown,hb⟩
    have HU6:=kp (HU5.out.trans (hb.mono hs5))
    rw [HYb.out] at hown
    obtain ⟨nb9,hnb9⟩ : ∃ n,bs.length = n:=⟨_,rfl⟩
    obtain ⟨A9,c9,rfl,_,_,hr9⟩:=Own.readsN hown hnb9
    have hcv:=J6 (c:=c9) hr9
    have hcw:=J6 (c:=cap1) (HP.out.below HU6.out)
    obtain ⟨str,hstr⟩ : ∃ s,strOf bs = s:=⟨_,rfl⟩
    rw [hstr] at hcv hcw
    have hse : (str.toList == str.toList) = true:=by simp
    clear hown hb hr9 hnb9 hstr hd1
    go_wp2
    go_ret
    exact ⟨rfl,HU6.out⟩
  subst h0
  have HCk : Kept (x0.check = 0):=kp HCk'.out
  go_wp2_with (first
    | ((with_reducible show Sl 32);go_must (refine j4 rfl 24 (.tmp 3) rfl g1 rfl _ (wtC x0) _ HX2.out Try.underlying24 rfl jD ?_))
    | (go_at_call 10;fail))
  rw [← l6]
  clear hd0 hd1 hd2 hd3
  have hz4:=(T.check_ok HCk.out).1
  have hbl:=T.bytes_len (z:=x0.z) x0.a x0.b x0.g hz4
  have HSm : Kept (∀ y ∈ x0.bytes,y < 256):=kp (T.bytes_small HCk.out)
  refine (zJ w.heap.size x0 u2 (HW.out.below HU2.out) hs2 HCk.out).mono ?_
  rintro e u3 ⟨v,rfl,hown,hb3⟩
  have HU3:=kp (HU2.out.trans (hb3.mono hs2));have HX3:=kp (HX2.out.below hb3 HX2.out.lt);have hs3:=HU3.out.size
  obtain ⟨nb,hnb⟩ : ∃ n,x0.bytes.length = n:=⟨_,rfl⟩
  have hnb7 : 7 ≤ nb ∧ nb ≤ 4108:=by rw [← hnb];exact hbl
  obtain ⟨hnb1,hnb2⟩:=hnb7
  obtain ⟨A4,c4,rfl,hc4,hm4,hr4⟩:=Own.readsN hown hnb
  have HR3:=kp hr4
  have hm44 : c4 ≤ 9223372036854775807:=by unfold maxLen at hm4;omega
  obtain ⟨kk,hkk⟩ : ∃ k,k0 % nb = k:=⟨_,rfl⟩
  have hkn : kk < nb:=by rw [← hkk];exact Nat.mod_lt _ (by omega)
  obtain ⟨at2,hcut⟩:=T.read_cut HCk.out (n:=kk) (by show kk < x0.bytes.length;omega)
  have HCut : Kept (T.read (x0.bytes.take kk) = (T.none_,at2,2)):=kp hcut
  have HBk : Kept (T.read x0.bytes = (⟨x0.z,x0.a.toNat,x0.b.toNat,x0.g.toNat⟩,0,0)):=kp (T.read_back HCk.out)
  have hrem : ((k0 : Int).tmod (nb : Int)) = (kk : Int):=by rw [← hkk];exact (Int.ofNat_tmod k0 nb).symm
  have hnz : ((nb : Int) == 0) = false:=by rw [beq_eq_false_iff_ne];omega
  clear hown hr4 hb3 hnb hm4 hcut hbl hz4
  go_wp2_with (go_at_call 14;fail)
  refine (uN A4 nb c4 x0.bytes u3 HR3.out HSm.out (by omega) _ 0 0 HBk.out).mono ?_
  unfold WRead
  rintro e u4 ⟨x,rfl,hxok,hxd,hb4⟩
  have HXx:=kp hxok;have HXd:=kp hxd;have HU4:=kp (HU3.out.trans (hb4.mono hs3));have hs4:=HU4.out.size;have HX4:=kp (HX3.out.below hb4 HX3.out.lt);have HR4:=kp (HR3.out.below hb4);have hs34:=hb4.size
  clear hxok hxd hb4
  rw [l6]
  go_wp2_with (first
    | ((with_reducible show Sl 9);go_must (refine j7 rfl 24 rfl _ lW ?_);intro gp9 y1 hgp9 hk1 hy1;have Kpa:=kp hk1;have YB1:=kp hy1;have ys1:=hy1.size;have yl1:=hk1.lt;clear hk1 hy1)
    | ((with_reducible show Sl 10);go_must (refine j7 rfl 35 rfl _ lY ?_);intro gp10 y2 hgp10 hk2 hy2;have Ksb:=kp hk2;have Kpb:=kp (Kpa.out.below hy2 yl1);have YB2:=kp (YB1.out.trans (hy2.mono ys1));have ys2:=YB2.out.size;have yl2:=hk2.lt;clear hk2 hy2)
    | ((with_reducible show Sn);(refine j5 rfl 24 (.tmp 9) (.tmp 41) rfl gp9 (wtC x) rfl rfl _ _ Kpb.out jD rfl (jU x) ?_);intro y3 hk3 hg3 hy3
       have Kpc:=kp hk3;have Ksc:=kp (Ksb.out.grown hg3 (by intro e;cases e;omega));have YB3:=kp (YB2.out.grown hg3 ys2 (by intro k e;cases e;exact hgp9))
       clear hk3 hg3)
    | ((with_reducible show Sn);(refine j5 rfl 35 (.tmp 10) (.tmp 42) rfl gp10 [.int .i64 ((0 : Nat) : Int),.int .i64 ((0 : Nat) : Int)] rfl rfl _ _ Ksc.out jR rfl (lA _ _) ?_);intro u5 hk4 hg4 hy4
       have KS10_5:=kp hk4;have KW9_5:=kp (Kpc.out.grown hg4 (by intro e;cases e;omega));have HB45:=kp (YB3.out.grown hg4 YB3.out.size (by intro k e;cases e;exact Nat.le_trans ys1 hgp10))
       have HU5:=kp (HU4.out.trans (HB45.out.mono hs4));have hs5:=HU5.out.size;have HX5:=kp (HX4.out.below HB45.out HX4.out.lt)
       clear hk4 hg4 Kpa Kpb Kpc Ksb Ksc YB1 YB2 YB3 ys1 ys2 yl1 yl2 hy3 hy4)
    | ((with_reducible show Sl 50);go_must (refine vS rfl 26 (.tmp 44) (.tmp 49) rfl 5 Try.underlying26 size1b A4 nb c4 rfl .i64 kk rfl (by omega) ?_))
    | (go_at_call 14;fail))
  have hz45:=HB45.out.size
  have HR5:=kp (HR4.out.below (HB45.out.mono hs34))
  refine (uN A4 kk c4 (x0.bytes.take kk) u5 ((HR5.out.take (Nat.le_of_lt hkn)).more (by omega)) (fun y hy => HSm.out y (List.mem_of_mem_take hy)) (by omega) T.none_ at2 2 HCut.out).mono ?_
  unfold WRead
  rintro e u6 ⟨x2,rfl,_,_,hb6⟩
  have HU6:=kp (HU5.out.trans (hb6.mono hs5));have hs6:=HU6.out.size;have HX6:=kp (HX5.out.below hb6 HX5.out.lt);have HB46:=kp (HB45.out.trans (hb6.mono HB45.out.size));have HS6:=kp (KS10_5.out.below hb6 KS10_5.out.lt);have HV6:=kp (KW9_5.out.below hb6 KW9_5.out.lt)
  clear hb6
  rw [l6]
  go_wp2_with (first
    | ((with_reducible show Sl 11);go_must (refine j7 rfl 24 rfl _ lW ?_);intro gp11 y1 hgp11 hk1 hy1;have Kpa:=kp hk1;have YB1:=kp hy1;have ys1:=hy1.size;have yl1:=hk1.lt;clear hk1 hy1)
    | ((with_reducible show Sl 12);go_must (refine j7 rfl 35 rfl _ lY ?_);intro gp12 y2 hgp12 hk2 hy2;have Ksb:=kp hk2;have Kpb:=kp (Kpa.out.below hy2 yl1);have YB2:=kp (YB1.out.trans (hy2.mono ys1));have ys2:=YB2.out.size;have yl2:=hk2.lt;clear hk2 hy2)
    | ((with_reducible show Sn);(refine j5 rfl 24 (.tmp 11) (.tmp 52) rfl gp11 (wtC x2) rfl rfl _ _ Kpb.out jD rfl (jU x2) ?_);intro y3 hk3 hg3 hy3
       have Kpc:=kp hk3;have Ksc:=kp (Ksb.out.grown hg3 (by intro e;cases e;omega));have YB3:=kp (YB2.out.grown hg3 ys2 (by intro k e;cases e;exact hgp11))
       clear hk3 hg3)
    | ((with_reducible show Sn);(refine j5 rfl 35 (.tmp 12) (.tmp 53) rfl gp12 [.int .i64 (at2 : Int),.int .i64 ((2 : Nat) : Int)] rfl rfl _ _ Ksc.out jR rfl (lA _ _) ?_);intro u7 hk4 hg4 hy4
       have KS12_7:=kp hk4;have KW11_7:=kp (Kpc.out.grown hg4 (by intro e;cases e;omega));have HB67:=kp (YB3.out.grown hg4 YB3.out.size (by intro k e;cases e;exact Nat.le_trans ys1 hgp12))
       have HX7:=kp (HX6.out.below HB67.out HX6.out.lt);have HS7:=kp (HS6.out.below HB67.out HS6.out.lt);have HV7:=kp (HV6.out.below HB67.out HV6.out.lt)
       have he0 : u7.cell? ⟨gp10,0,none⟩ = some (.int .i64 ((0 : Nat) : Int)):=HS7.out.cell 0;have he1 : u7.cell? ⟨gp10,1,none⟩ = some (.int .i64 ((0 : Nat) : Int)):=HS7.out.cell 1;have hf1 : u7.cell? ⟨gp12,1,none⟩ = some (.int .i64 ((2 : Nat) : Int)):=hk4.cell 1
       have HU7:=kp (HU6.out.trans (HB67.out.mono hs6));have hs7:=HU7.out.size
       clear hk4 hg4 Kpa Kpb Kpc Ksb Ksc YB1 YB2 YB3 ys1 ys2 yl1 yl2 hy3 hy4)
    | ((with_reducible show Sl 58);go_must (refine lO rfl 24 (.tmp 3) rfl g1 rfl _ (wtC x0) _ HX7.out Try.underlying24 rfl jD ?_))
    | ((with_reducible show Sl 59);go_must (refine lO rfl 24 (.tmp 9) rfl gp9 rfl _ (wtC x) _ HV7.out Try.underlying24 rfl jD ?_))
    | (go_at_call 16;fail))
  rw [← l6,← l6]
  have hz47:=HB46.out.size
  have HB47:=kp (HB46.out.trans (HB67.out.mono HB46.out.size))
  refine (rw_same u4.heap.size x0 x u7 ((HW.out.below HU7.out).more hs4) (HXx.out.below HB47.out) hn5 HB47.out.size true ⟨fun _ => ?_,fun _ => rfl⟩).mono ?_
  · obtain ⟨h1,h2,h3,h4⟩:=HXd.out
    obtain ⟨k1,k2,k3,k4,_,k5,k6⟩:=T.okN_iff.1 (T.check_ok HCk.out).2.2
    exact ⟨by rw [h2];simp only;omega,by rw [h3];simp only;omega,by rw [h4];simp only;omega,by rw [h1]⟩
  rintro e u8 ⟨rfl,hb8⟩
  have HU8:=kp (HU7.out.trans (hb8.mono hs7));have hs8:=HU8.out.size
  have hf1' : u8.cell? ⟨gp12,1,none⟩ = some (.int .i64 ((2 : Nat) : Int)):=(KS12_7.out.below hb8 KS12_7.out.lt).cell 1
  clear hb8 he0 he1 hf1
  go_wp2_with (go_at_call 14;fail)
  refine (uN a1 len1 cap1 bs u8 ((HP.out.below HU8.out).more hs8) H256.out (by omega) d at_ why HRe.out).mono ?_
  unfold WRead
  rintro e u9 ⟨y,rfl,hyok,hyd,hb⟩
  have HY9:=kp hyok;have HYd:=kp hyd;have HU9:=kp (HU8.out.trans (hb.mono hs8));have hs9:=HU9.out.size
  clear hyok hyd hb
  have HYl:=kp HY9.out.len_
  rw [l6]
  by_cases hw : why = 0
  rotate_left
  · have hb0 : ((why : Int) != 0) = true:=by rw [bne_iff_ne];omega
    have hdn : d = T.none_:=by
      have h:=T.read_not (bs:=bs) (by rw [HRe.out];exact hw)
      rw [HRe.out] at h
      exact h
    obtain ⟨h1,h2,h3,h4⟩:=HYd.out
    rw [hdn] at h1 h2 h3 h4
    have hy0 : y.len = 0:=by rw [← HYl.out,h1];rfl
    have hya : y.a = 0:=h2
    have hyb : y.b = 0:=h3
    have HYC : Kept (wtC y = [.slice y.A 0 y.cap,.int .i64 0,.int .i64 0,.int .i64 y.g]):=kp (by unfold wtC;rw [hy0,hya,hyb])
    clear h1 h2 h3 h4 hy0 hya hyb hdn hw
    go_wp2_with (first
      | ((with_reducible show Sl 13);go_must (refine j7 rfl 24 rfl _ lW ?_);intro gp13 y1 hgp13 hk1 hy1;have Kpa:=kp hk1;have YB1:=kp hy1;have ys1:=hy1.size;have yl1:=hk1.lt;clear hk1 hy1)
      | ((with_reducible show Sl 14);go_must (refine j7 rfl 35 rfl _ lY ?_);intro gp14 y2 hgp14 hk2 hy2;have Ksb:=kp hk2;have Kpb:=kp (Kpa.out.below hy2 yl1);have YB2:=kp (YB1.out.trans (hy2.mono ys1));have ys2:=YB2.out.size;have yl2:=hk2.lt;clear hk2 hy2)
      | ((with_reducible show Sn);(refine j5 rfl 24 (.tmp 13) (.tmp 71) rfl gp13 (wtC y) rfl rfl _ _ Kpb.out jD rfl (jU y) ?_);intro y3 hk3 hg3 hy3
         have Kpc:=kp hk3;have Ksc:=kp (Ksb.out.grown hg3 (by intro e;cases e;omega));have YB3:=kp (YB2.out.grown hg3 ys2 (by intro k e;cases e;exact hgp13))
         clear hk3 hg3)
      | ((with_reducible show Sn);(refine j5 rfl 35 (.tmp 14) (.tmp 72) rfl gp14 [.int .i64 (at_ : Int),.int .i64 (why : Int)] rfl rfl _ _ Ksc.out jR rfl (lA _ _) ?_);intro u10 hk4 hg4 hy4
         have KS14_10:=kp hk4;have KW13_10:=kp (Kpc.out.grown hg4 (by intro e;cases e;omega));have HB910:=kp (YB3.out.grown hg4 YB3.out.size (by intro k e;cases e;exact Nat.le_trans ys1 hgp14))
         have hd1 : u10.cell? ⟨gp14,1,none⟩ = some (.int .i64 (why : Int)):=hk4.cell 1;have he0 : u10.cell? ⟨gp13,0,none⟩ = some (.slice y.A 0 y.cap):=by (rw [KW13_10.out.cell,HYC.out];rfl)
         have he1 : u10.cell? ⟨gp13,1,none⟩ = some (.int .i64 0):=by (rw [KW13_10.out.cell,HYC.out];rfl)
         have he2 : u10.cell? ⟨gp13,2,none⟩ = some (.int .i64 0):=by (rw [KW13_10.out.cell,HYC.out];rfl)
         have HU10:=kp (HU9.out.trans (HB910.out.mono hs9));have hs10:=HU10.out.size
         clear hk4 hg4 Kpa Kpb Kpc Ksb Ksc YB1 YB2 YB3 ys1 ys2 yl1 yl2 hy3 hy4)
      | fail)
    go_ret
    exact ⟨rfl,HU10.out⟩
  have hb0 : ((why : Int) != 0) = false:=by subst hw;rfl
  obtain ⟨hon1,hon2⟩:=T.read_once (bs:=bs) H256.out (d:=d) (at_:=at_) (by rw [HRe.out,hw])
  obtain ⟨h1,h2,h3,h4⟩:=HYd.out
  have HYc : Kept (y.check = 0):=kp (by unfold Wt.check;rw [h1,h2,h3,h4];exact hon1)
  have HYb : Kept (y.bytes = bs):=kp (by unfold Wt.bytes;rw [h1,h2,h3,h4];exact hon2)
  clear hon1 hon2 h1 h2 h3 h4 hw
  go_wp2_with (first
    | ((with_reducible show Sl 13);go_must (refine j7 rfl 24 rfl _ lW ?_);intro gp13 y1 hgp13 hk1 hy1;have Kpa:=kp hk1;have YB1:=kp hy1;have ys1:=hy1.size;have yl1:=hk1.lt;clear hk1 hy1)
    | ((with_reducible show Sl 14);go_must (refine j7 rfl 35 rfl _ lY ?_);intro gp14 y2 hgp14 hk2 hy2;have Ksb:=kp hk2;have Kpb:=kp (Kpa.out.below hy2 yl1);have YB2:=kp (YB1.out.trans (hy2.mono ys1));have ys2:=YB2.out.size;have yl2:=hk2.lt;clear hk2 hy2)
    | ((with_reducible show Sn);(refine j5 rfl 24 (.tmp 13) (.tmp 71) rfl gp13 (wtC y) rfl rfl _ _ Kpb.out jD rfl (jU y) ?_);intro y3 hk3 hg3 hy3
       have Kpc:=kp hk3;have Ksc:=kp (Ksb.out.grown hg3 (by intro e;cases e;omega));have YB3:=kp (YB2.out.grown hg3 ys2 (by intro k e;cases e;exact hgp13))
       clear hk3 hg3)
    | ((with_reducible show Sn);(refine j5 rfl 35 (.tmp 14) (.tmp 72) rfl gp14 [.int .i64 (at_ : Int),.int .i64 (why : Int)] rfl rfl _ _ Ksc.out jR rfl (lA _ _) ?_);intro u10 hk4 hg4 hy4
       have KS14_10:=kp hk4;have KW13_10:=kp (Kpc.out.grown hg4 (by intro e;cases e;omega));have HB910:=kp (YB3.out.grown hg4 YB3.out.size (by intro k e;cases e;exact Nat.le_trans ys1 hgp14))
       have hd1 : u10.cell? ⟨gp14,1,none⟩ = some (.int .i64 (why : Int)):=hk4.cell 1;have HU10:=kp (HU9.out.trans (HB910.out.mono hs9));have hs10:=HU10.out.size
       clear hk4 hg4 Kpa Kpb Kpc Ksb Ksc YB1 YB2 YB3 ys1 ys2 yl1 yl2 hy3 hy4)
    | ((with_reducible show Sl 91);go_must (refine j4 rfl 24 (.tmp 13) rfl gp13 rfl _ (wtC y) _ KW13_10.out Try.underlying24 rfl jD ?_))
    | (go_at_call 10;fail))
  rw [← l6]
  refine (zJ u10.heap.size y u10 ((HY9.out.below HB910.out).more HB910.out.size) (Nat.le_refl _) HYc.out).mono ?_
  rintro e u11 ⟨v,rfl,hown,hb⟩
  have HU11:=kp (HU10.out.trans (hb.mono hs10))
  rw [HYb.out] at hown
  obtain ⟨nb9,hnb9⟩ : ∃ n,bs.length = n:=⟨_,rfl⟩
  obtain ⟨A9,c9,rfl,_,_,hr9⟩:=Own.readsN hown hnb9
  have hcv:=J6 (c:=c9) hr9
  have hcw:=J6 (c:=cap1) (HP.out.below HU11.out)
  obtain ⟨str,hstr⟩ : ∃ s,strOf bs = s:=⟨_,rfl⟩
  rw [hstr] at hcv hcw
  have hse : (str.toList == str.toList) = true:=by simp
  clear hown hb hr9 hnb9 hstr hd1
  go_wp2
  go_ret
  exact ⟨rfl,HU11.out⟩
end Go.Proofs.Ytcbfghcdbmlneaa
