/- KillTells, walked. -/
import Derived.Test.YtfiafbflhglpeaaDoorPk9
import Derived.Test.YtfiafbflhglpeaaDoorKillR1
import Derived.Test.YtfiafbflhglpeaaDoorPk1
import Derived.Test.YtfiafbflhglpeaaDoorProgRef5
import Derived.Test.YtfiafbflhglpeaaDoorPk4
import Derived.Test.YtfiafbflhglpeaaDoorPk7
namespace Go.Proofs.YtfiafbflhglpeaaDoor
open Go.RowKit
def BeginP (p : Pg) (f : Nat) : Prop:=0 < (setL (MayDo p 5 5 f)).length
open Classical in
theorem QG {p : Pg} {mb : Nat} (h16 : p.len ≤ 16) (h : BitsAre mb (fun f => f < p.len ∧ ∃ id,id < 32 ∧ MayDo p 5 5 f id)) : S.mask (setTo (BeginP p) p.len) % 4294967296 = mb:=by
  have h1:=zU (fun id => decide (BeginP p id)) p.len (by omega)
  refine LX (P:=fun f => f < p.len ∧ ∃ id,id < 32 ∧ MayDo p 5 5 f id) (h1.congr fun f _ => ?_) h
  rw [decide_eq_true_eq]
  constructor
  · rintro ⟨hf,hb⟩
    obtain ⟨id,hid⟩:=List.exists_mem_of_length_pos hb
    exact ⟨hf,id,J4.1 hid⟩
  · rintro ⟨hf,id,hid⟩
    exact ⟨hf,List.length_pos_of_mem (J4.2 hid)⟩
set_option maxRecDepth 1000000 in
set_option maxHeartbeats 8000000 in
theorem walkKillTells (pg0 : Pg) (w : World) (w0 : pg0.Ok w w.heap.size) (hL : Tab w) :
    Calls Tryd.prog 3 #[pgA pg0] w fun e w' => e = .returned (.bool true) ∧ Below w.heap.size w w':=by
  have HP:=kp w0;have HTab:=kp hL
  have hw01:=hL.size
  clear w0 hL
  obtain ⟨r,hr⟩ : ∃ r,Q.small pg0 = r:=⟨_,rfl⟩
  have HR:=kp hr
  clear hr
  rw [jN]
  cases r
  · go_enter Tryd.func3,Tryd.ntmps3
    go_wp2_with (first
      | ((with_reducible refine j4 rfl 24 (.tmp 0) rfl (pgC pg0) rfl ?_);intro g1 u1 hg1 hk1 hu1;have HK1:=kp hk1;have HG1:=kp hg1;have HU1:=kp hu1;have hz1:=hu1.size;clear hg1 hk1 hu1))
    refine (jO u1 (HTab.out.below HU1.out hw01)).mono ?_
    rintro e w1 ⟨rfl,hb1⟩
    have HW1 : Kept (Below w.heap.size w w1):=kp (HU1.out.trans (hb1.mono hz1))
    have hs1:=HW1.out.size
    have HP1:=kp (HP.out.below HW1.out)
    have HKa:=kp (HK1.out.below hb1 HK1.out.lt)
    obtain ⟨hc0,hc1,hc2,hc3⟩:=j8 HKa.out
    clear hb1
    go_wp2_with fail
    refine (lA _ pg0 w1 HP1.out hs1 _ HR.out).mono ?_
    rintro e w2 ⟨rfl,hb2⟩
    have HW2 : Kept (Below w.heap.size w w2):=kp (HW1.out.trans (hb2.mono hs1))
    have hs2:=HW2.out.size
    have HP2:=kp (HP.out.below HW2.out)
    have HKb:=kp (HKa.out.below hb2 HKa.out.lt)
    clear hb2 hc0 hc1 hc2 hc3
    obtain ⟨hc0,hc1,hc2,hc3⟩:=j8 HKb.out
    go_wp2_with fail
    refine (jO w2 (HTab.out.below HW2.out hw01)).mono ?_
    rintro e w9 ⟨rfl,hb9⟩
    have HW9:=kp (HW2.out.trans (hb9.mono hs2))
    clear hb9
    go_wp2
    go_ret
    exact ⟨rfl,HW9.out⟩
  · go_enter Tryd.func3,Tryd.ntmps3
    go_wp2_with (first
      | ((with_reducible refine j4 rfl 24 (.tmp 0) rfl (pgC pg0) rfl ?_);intro g1 u1 hg1 hk1 hu1;have HK1:=kp hk1;have HG1:=kp hg1;have HU1:=kp hu1;have hz1:=hu1.size;clear hg1 hk1 hu1))
    refine (jO u1 (HTab.out.below HU1.out hw01)).mono ?_
    rintro e w1 ⟨rfl,hb1⟩
    have HW1 : Kept (Below w.heap.size w w1):=kp (HU1.out.trans (hb1.mono hz1))
    have hs1:=HW1.out.size
    have HP1:=kp (HP.out.below HW1.out)
    have HKa:=kp (HK1.out.below hb1 HK1.out.lt)
    obtain ⟨hc0,hc1,hc2,hc3⟩:=j8 HKa.out
    clear hb1
    go_wp2_with fail
    refine (lA _ pg0 w1 HP1.out hs1 _ HR.out).mono ?_
    rintro e w2 ⟨rfl,hb2⟩
    have HW2 : Kept (Below w.heap.size w w2):=kp (HW1.out.trans (hb2.mono hs1))
    have hs2:=HW2.out.size
    have HP2:=kp (HP.out.below HW2.out)
    have HKb:=kp (HKa.out.below hb2 HKa.out.lt)
    clear hb2 hc0 hc1 hc2 hc3
    obtain ⟨hc0,hc1,hc2,hc3⟩:=j8 HKb.out
    obtain ⟨⟨ca,cb,cc⟩,hcc⟩ : ∃ x,Q.check pg0 = x:=⟨_,rfl⟩
    have HC:=kp hcc
    clear hcc
    obtain ⟨us,hus⟩ : ∃ us,killA pg0 4 4 cc = us:=⟨_,rfl⟩
    obtain ⟨ts,hts⟩ : ∃ ts,killA pg0 1 2 cc = ts:=⟨_,rfl⟩
    obtain ⟨nu,hnu⟩ : ∃ nu,us.length = nu:=⟨_,rfl⟩
    obtain ⟨nt,hnt⟩ : ∃ nt,ts.length = nt:=⟨_,rfl⟩
    obtain ⟨mb,hmb⟩ : ∃ mb,lG pg0 cc mb:=yK pg0 cc
    have HUs:=kp hus;have HTs:=kp hts;have HNus:=kp hnu;have HNts:=kp hnt;have HMb:=kp hmb
    clear hus hts hnu hnt hmb
    go_wp2_with fail
    refine (lT w.heap.size pg0 w2 (HP.out.below HW2.out) hs2 HR.out (HTab.out.below HW2.out hw01) ca cb cc HC.out us HUs.out).mono ?_
    rintro e w3 ⟨v3,rfl,hown3,hb3⟩
    have HW3 : Kept (Below w.heap.size w w3):=kp (HW2.out.trans (hb3.mono hs2))
    have hs3:=HW3.out.size
    have HK3:=kp (HKb.out.below hb3 HKb.out.lt)
    obtain ⟨A3,c3,rfl,hcl3,hcm3,hr3⟩:=hown3.readsN HNus.out
    have HRw3:=kp hr3
    unfold maxLen at hcm3
    clear hown3 hr3
    have HX23:=kp hb3;have hX23:=hb3.size
    clear hb3 hc0 hc1 hc2 hc3
    obtain ⟨hc0,hc1,hc2,hc3⟩:=j8 HK3.out
    go_wp2_with fail
    refine (xC w.heap.size pg0 w3 (HP.out.below HW3.out) hs3 HR.out (HTab.out.below HW3.out hw01) ca cb cc HC.out ts HTs.out).mono ?_
    rintro e w4 ⟨v4,rfl,hown4,hb4⟩
    have HW4 : Kept (Below w.heap.size w w4):=kp (HW3.out.trans (hb4.mono hs3))
    have hs4:=HW4.out.size
    have HK4:=kp (HK3.out.below hb4 HK3.out.lt)
    obtain ⟨A4,c4,rfl,hcl4,hcm4,hr4⟩:=hown4.readsN HNts.out
    have HRw4:=kp hr4
    unfold maxLen at hcm4
    clear hown4 hr4
    have HX34:=kp hb4;have hX34:=hb4.size
    clear hb4 hc0 hc1 hc2 hc3
    obtain ⟨hc0,hc1,hc2,hc3⟩:=j8 HK4.out
    go_wp2_with fail
    refine (xT w.heap.size pg0 w4 (HP.out.below HW4.out) hs4 HR.out (HTab.out.below HW4.out hw01) ca cb cc HC.out mb HMb.out).mono ?_
    rintro e w5 ⟨rfl,hb5⟩
    have HW5 : Kept (Below w.heap.size w w5):=kp (HW4.out.trans (hb5.mono hs4))
    have hs5:=HW5.out.size
    have HK5:=kp (HK4.out.below hb5 HK4.out.lt)
    have HX45:=kp hb5;have hX45:=hb5.size
    clear hb5 hc0 hc1 hc2 hc3
    obtain ⟨hc0,hc1,hc2,hc3⟩:=j8 HK5.out
    go_wp2_with fail
    refine (XC w.heap.size pg0 w5 (HP.out.below HW5.out) hs5 ca cb cc HC.out).mono ?_
    rintro e w6 ⟨rfl,hb6⟩
    have HW6 : Kept (Below w.heap.size w w6):=kp (HW5.out.trans (hb6.mono hs5))
    have hs6:=HW6.out.size
    have HK6:=kp (HK5.out.below hb6 HK5.out.lt)
    have hX56:=hb6.size
    have HR36:=kp ((((HRw3.out.below HX34.out).below (HX45.out.mono hX34)).below (hb6.mono (Nat.le_trans hX34 hX45))).more (Nat.le_trans hX34 (Nat.le_trans hX45 hX56)))
    have HR46:=kp (((HRw4.out.below HX45.out).below (hb6.mono hX45)).more (Nat.le_trans hX45 hX56))
    clear hb6 hc0 hc1 hc2 hc3
    obtain ⟨hc0,hc1,hc2,hc3⟩:=j8 HK6.out
    have hce : ((cc : Int) == (cc : Int)) = true:=by simp
    by_cases hz : cc = 0
    rotate_left
    · have hb0 : ((cc : Int) != 0) = true:=by simp;omega
      have hnu0 : nu = 0:=by rw [← HNus.out,← HUs.out,qT _ _ _ hz];rfl
      have hnt0 : nt = 0:=by rw [← HNts.out,← HTs.out,qT _ _ _ hz];rfl
      have hmb0 : mb = 0:=HMb.out.1 hz
      subst hnu0 hnt0 hmb0
      go_wp2
      go_ret
      exact ⟨rfl,HW6.out⟩
    have HF:=kp (xH (p:=pg0) (a:=ca) (b:=cb) (by rw [HC.out,hz]))
    have HLen:=kp HP.out.row.len
    subst hz
    have hnu1 : nu = pg0.len:=by rw [← HNus.out,← HUs.out,jU,l2]
    have hnt1 : nt = pg0.len:=by rw [← HNts.out,← HTs.out,jU,l2]
    subst hnu1 hnt1
    have hl16 : pg0.len ≤ 16:=by have h1:=HF.out.counts.f;have h2:=HLen.out;omega
    have hmb32 : mb < 4294967296:=(HMb.out.2 rfl).1
    have hlk6:=HK6.out.lt
    have hll : ((pg0.len : Int) != (pg0.len : Int)) = false:=by simp
    have hlc:=HP.out.lc
    have hcm9:=HP.out.cm
    unfold maxLen at hcm9
    go_wp2
    clear hc0 hc1 hc2 hc3 hll hce
    go_loopw [12,13] (fun v12 v13 wr => ∃ i : Nat,i ≤ pg0.len ∧ v13 = .int .i64 i ∧ Own wr w6.heap.size 3 v12 ((setTo (BeginP pg0) i).map natV) ∧ Below w6.heap.size w6 wr) (fun _ v13 _ => pg0.len - (intOf v13).toNat)
    case atStart => exact ⟨0,by omega,rfl,Own.nil _ _ _,Below.refl _ _⟩
    case round =>
      obtain ⟨i,hi,rfl,hown,hbr⟩:=hrel
      have HO:=kp hown;have HBr:=kp hbr
      have hsr:=hbr.size
      have HKr:=kp (HK6.out.below hbr hlk6)
      have hlkr:=HKr.out.lt
      by_cases hlt : i < pg0.len
      · have HLt:=kp hlt
        have HPr:=kp ((HP.out.below (HW6.out.trans (hbr.mono hs6))).more (Nat.le_trans hs6 hsr))
        obtain ⟨adU,xu,eU,habU0,hxU,hcU⟩:=(HR36.out.below hbr).get hlt
        obtain ⟨adT,xt,eT,habT0,hxT,hcT⟩:=(HR46.out.below hbr).get hlt
        subst eU eT
        rw [jT] at hcU hcT
        have habU : adU.block < wr.heap.size:=by omega
        have habT : adT.block < wr.heap.size:=by omega
        have HcU:=kp hcU;have HcT:=kp hcT
        rw [← HUs.out,jU] at hxU
        rw [← HTs.out,jU] at hxT
        obtain ⟨cs4,hcs4⟩ : ∃ cs,setL (MayDo pg0 4 4 i) = cs:=⟨_,rfl⟩
        obtain ⟨cs1,hcs1⟩ : ∃ cs,setL (MayDo pg0 1 2 i) = cs:=⟨_,rfl⟩
        obtain ⟨cs5,hcs5⟩ : ∃ cs,setL (MayDo pg0 5 5 i) = cs:=⟨_,rfl⟩
        obtain ⟨n4,hn4⟩ : ∃ n,cs4.length = n:=⟨_,rfl⟩
        obtain ⟨n1,hn1⟩ : ∃ n,cs1.length = n:=⟨_,rfl⟩
        obtain ⟨n5,hn5⟩ : ∃ n,cs5.length = n:=⟨_,rfl⟩
        have hn432 : n4 ≤ 32:=by rw [← hn4,← hcs4];exact vC _
        have hn132 : n1 ≤ 32:=by rw [← hn1,← hcs1];exact vC _
        have hn532 : n5 ≤ 32:=by rw [← hn5,← hcs5];exact vC _
        have HXu : Kept (S.mask cs4 % 4294967296 = xu):=kp (by
          rw [xU hlt] at hxU;cases hxU
          rw [hcs4,← hcs4];exact Nat.mod_eq_of_lt (lX _).1)
        have HXt : Kept (S.mask cs1 % 4294967296 = xt):=kp (by
          rw [xU hlt] at hxT;cases hxT
          rw [hcs1,← hcs1];exact Nat.mod_eq_of_lt (lX _).1)
        have HCs4:=kp hcs4;have HCs1:=kp hcs1;have HCs5:=kp hcs5;have HNcs4:=kp hn4;have HNcs1:=kp hn1;have HNcs5:=kp hn5
        obtain ⟨hc0,hc1,hc2,hc3⟩:=j8 HKr.out
        have hii : (i : Int) < (pg0.len : Int):=by omega
        have hib : decide ((i : Int) < (pg0.len : Int)) = true:=by simp;omega
        clear hown hbr hxU hxT hcU hcT hcs4 hcs1 hcs5 hn4 hn1 hn5 hlt
        go_wp2
        clear hc0 hc1 hc2 hc3 hib
        refine yU 138 rfl rfl ?_
        intro a0 HA0 hsz0 hdf0
        apply lM (.is _ :: .is _ :: .is _ :: .is (.int .u32 (xu : Int)) :: .is (pgA pg0) :: .is _ :: (.row natV n4 cs4) :: .is (.int .u32 (xu : Int)) :: .is _ :: .is _ :: .is _ :: .is _ :: .is _ :: .is (.int .u32 (xt : Int)) :: .is (pgA pg0) :: .is _ :: (.row natV n1 cs1) :: .is (.int .u32 (xt : Int)) :: .is _ :: .is _ :: [])
          [[],[],[(0,105),(1,106)],[(2,107)],[],[],[(4,109),(5,110)],[(6,111)],[(3,108),(7,112)],[(8,113)],[(9,114)],[(9,114)],[(10,115),(11,116),(9,114)],[(12,117),(9,114)],[(9,114)],[(9,114)],[(14,119),(15,120),(9,114)],[(16,121),(9,114)],[(13,118),(17,122),(9,114)],[(9,114),(18,123)]]
          [(0,105),(1,106),(2,107),(3,108),(4,109),(5,110),(6,111),(7,112),(8,113),(9,114),(10,115),(11,116),(12,117),(13,118),(14,119),(15,120),(16,121),(17,122),(18,123),(19,124)] (by kernel_rfl) (by rw [hsz0];kernel_rfl)
        case hob =>
          refine ⟨?o0,?o1,?o2,?o3,?o4,?o5,?o6,?o7,?o8,?o9,?o10,?o11,?o12,?o13,?o14,?o15,?o16,?o17,?o18,?o19,trivial⟩
          case o0 =>
            obtain rfl:=HA0.out
            intro W hW;change wpList _ _ _ _ _ _;go_wp2;exact j3 rfl rfl rfl
          case o1 =>
            obtain rfl:=HA0.out
            intro W hW;change wpList _ _ _ _ _ _;go_wp2;exact j3 rfl rfl rfl
          case o2 =>
            obtain rfl:=HA0.out
            intro W hW;rintro _ rfl;rintro _ rfl;change wpList _ _ _ _ _ _;go_wp2;exact j3 rfl rfl rfl
          case o3 =>
            obtain rfl:=HA0.out
            intro W hW;rintro _ rfl;change wpList _ _ _ _ _ _
            have hq:=(hW.cell (p:=adU.add i) (by rw [add_block];exact habU)).trans HcU.out
            go_wp2;exact j3 rfl rfl rfl
          case o4 =>
            obtain rfl:=HA0.out
            intro W hW;change wpList _ _ _ _ _ _
            obtain ⟨hc0,hc1,hc2,hc3⟩:=j8 (HKr.out.below hW hlkr)
            rw [show pgA pg0 = .agg #[.int .i64 pg0.g,.int .i64 pg0.l,.int .i64 pg0.s,.slice pg0.A pg0.len pg0.cap] from rfl]
            go_wp2;exact j3 rfl rfl rfl
          case o5 =>
            obtain rfl:=HA0.out
            intro W hW;change wpList _ _ _ _ _ _;go_wp2;exact j3 rfl rfl rfl
          case o6 =>
            obtain rfl:=HA0.out
            intro W hW;rintro _ rfl;rintro _ rfl;change wpList _ _ _ _ _ _
            go_wp2_with fail
            refine (yG W.heap.size pg0 W ((HPr.out.below hW).more hW.size) (Nat.le_refl _) HR.out (by omega) i HLt.out 4 4 cs4 HCs4.out).mono ?_
            rintro e w2 ⟨v2,rfl,hown2,hb2⟩
            obtain ⟨A2,c2,rfl,_,_,hr2⟩:=hown2.readsN HNcs4.out
            have HR2:=kp hr2;have HB2:=kp hb2;clear hown2 hr2 hb2
            go_wp2
            exact jE rfl rfl rfl HB2.out ⟨A2,c2,rfl,HR2.out⟩
          case o7 =>
            obtain rfl:=HA0.out
            intro W hW;rintro _ ⟨A6,c6,rfl,hr6⟩;change wpList _ _ _ _ _ _
            go_wp2_with fail
            refine (vJ _ A6 n4 c6 cs4 W hr6 (by rw [← HCs4.out];exact QK _) (by omega) xu HXu.out).mono ?_
            rintro e w2 ⟨rfl,rfl⟩
            go_wp2
            exact j3 rfl rfl rfl
          case o8 =>
            obtain rfl:=HA0.out
            intro W hW;rintro _ rfl;rintro _ rfl;change wpList _ _ _ _ _ _;go_wp2;exact j3 rfl rfl rfl
          case o9 =>
            obtain rfl:=HA0.out
            intro W hW;rintro _ rfl;change wpList _ _ _ _ _ _;go_wp2;exact j3 rfl rfl rfl
          case o10 =>
            obtain rfl:=HA0.out
            intro W hW;rintro _ rfl;change wpList _ _ _ _ _ _;go_wp2;exact j3 rfl rfl rfl
          case o11 =>
            obtain rfl:=HA0.out
            intro W hW;rintro _ rfl;change wpList _ _ _ _ _ _;go_wp2;exact j3 rfl rfl rfl
          case o12 =>
            obtain rfl:=HA0.out
            intro W hW;rintro _ rfl;rintro _ rfl;rintro _ rfl;change wpList _ _ _ _ _ _;go_wp2;exact j3 rfl rfl rfl
          case o13 =>
            obtain rfl:=HA0.out
            intro W hW;rintro _ rfl;rintro _ rfl;change wpList _ _ _ _ _ _
            have hq:=(hW.cell (p:=adT.add i) (by rw [add_block];exact habT)).trans HcT.out
            go_wp2;exact j3 rfl rfl rfl
          case o14 =>
            obtain rfl:=HA0.out
            intro W hW;rintro _ rfl;change wpList _ _ _ _ _ _
            obtain ⟨hc0,hc1,hc2,hc3⟩:=j8 (HKr.out.below hW hlkr)
            rw [show pgA pg0 = .agg #[.int .i64 pg0.g,.int .i64 pg0.l,.int .i64 pg0.s,.slice pg0.A pg0.len pg0.cap] from rfl]
            go_wp2;exact j3 rfl rfl rfl
          case o15 =>
            obtain rfl:=HA0.out
            intro W hW;rintro _ rfl;change wpList _ _ _ _ _ _;go_wp2;exact j3 rfl rfl rfl
          case o16 =>
            obtain rfl:=HA0.out
            intro W hW;rintro _ rfl;rintro _ rfl;rintro _ rfl;change wpList _ _ _ _ _ _
            go_wp2_with fail
            refine (yG W.heap.size pg0 W ((HPr.out.below hW).more hW.size) (Nat.le_refl _) HR.out (by omega) i HLt.out 1 2 cs1 HCs1.out).mono ?_
            rintro e w2 ⟨v2,rfl,hown2,hb2⟩
            obtain ⟨A2,c2,rfl,_,_,hr2⟩:=hown2.readsN HNcs1.out
            have HR2:=kp hr2;have HB2:=kp hb2;clear hown2 hr2 hb2
            go_wp2
            exact jE rfl rfl rfl HB2.out ⟨A2,c2,rfl,HR2.out⟩
          case o17 =>
            obtain rfl:=HA0.out
            intro W hW;rintro _ ⟨A16,c16,rfl,hr16⟩;rintro _ rfl;change wpList _ _ _ _ _ _
            go_wp2_with fail
            refine (vJ _ A16 n1 c16 cs1 W hr16 (by rw [← HCs1.out];exact QK _) (by omega) xt HXt.out).mono ?_
            rintro e w2 ⟨rfl,rfl⟩
            go_wp2
            exact j3 rfl rfl rfl
          case o18 =>
            obtain rfl:=HA0.out
            intro W hW;rintro _ rfl;rintro _ rfl;rintro _ rfl;change wpList _ _ _ _ _ _;go_wp2;exact j3 rfl rfl rfl
          case o19 =>
            obtain rfl:=HA0.out
            intro W hW;rintro _ rfl;rintro _ rfl;change wpList _ _ _ _ _ _;go_wp2;exact j3 rfl rfl rfl
        case hend =>
          obtain rfl:=HA0.out
          intro W hW;rintro _ rfl;rintro _ rfl;rintro _ rfl;rintro _ rfl;rintro _ rfl;rintro _ rfl;rintro _ ⟨A6,c6,rfl,hr6⟩;rintro _ rfl;rintro _ rfl;rintro _ rfl;rintro _ rfl;rintro _ rfl;rintro _ rfl;rintro _ rfl;rintro _ rfl;rintro _ rfl;rintro _ ⟨A16,c16,rfl,hr16⟩;rintro _ rfl;rintro _ rfl;rintro _ rfl
          simp only [given,jL,List.set]
          have HWa:=kp (HBr.out.trans (hW.mono hsr))
          have HKw:=kp (HKr.out.below hW hlkr)
          have hlkw:=HKw.out.lt
          have HOw:=kp (HO.out.below hW (Nat.le_refl _))
          have HPw:=kp ((HPr.out.below hW).more hW.size)
          have hsw:=HWa.out.size
          have hnu : ((xu : Int) != (xu : Int)) = false:=by simp
          have hnt : ((xt : Int) != (xt : Int)) = false:=by simp
          clear hr6 hr16 hW
          go_wp2_with (first
            | ((with_reducible show Sl 125);go_must (refine j6 rfl 24 (.tmp 1) rfl g1 rfl _ (pgC pg0) _ HKw.out Tryd.underlying24 rfl jH ?_))
            | (go_at_call 14;fail))
          refine (yG W.heap.size pg0 W HPw.out (Nat.le_refl _) HR.out (by omega) i HLt.out 5 5 cs5 HCs5.out).mono ?_
          rintro e wg ⟨v2,rfl,hown2,hb2⟩
          obtain ⟨A2,c2,rfl,_,_,_⟩:=hown2.readsN HNcs5.out
          have HWg:=kp (HWa.out.trans (hb2.mono hsw));have HOg:=kp (HOw.out.below hb2 (Nat.le_refl _));have hsg:=HWg.out.size
          clear hown2 hb2
          by_cases h0 : n5 = 0
          · have HSn : Kept (setTo (BeginP pg0) (i + 1) = setTo (BeginP pg0) i):=kp (J3 (by unfold BeginP;rw [HCs5.out,HNcs5.out];omega))
            have hgt : decide ((n5 : Int) > (0 : Int)) = false:=by simp;omega
            subst h0
            go_wp2
            go_roundw
            case rel => exact ⟨i + 1,by have:=HLt.out;omega,by go_num,by rw [HSn.out];exact HOg.out,HWg.out⟩
            case measure => have:=HLt.out;simp [intOf];omega
          · have HSy : Kept (setTo (BeginP pg0) (i + 1) = setTo (BeginP pg0) i ++ [i]):=kp (u5 (by unfold BeginP;rw [HCs5.out,HNcs5.out];omega))
            have hgt : (0 : Int) < (n5 : Int):=by omega
            have hlk2 : ((setTo (BeginP pg0) i).map natV).length ≤ 32:=by rw [List.length_map];have:=yZ (BeginP pg0) i;have:=HLt.out;omega
            clear h0
            go_wp2_with (at_builtin;go_must (refine jJ rfl (.tmp 130) (.tmp 132) 36 rfl w6.heap.size 3 _ _ Tryd.underlying36 lD rfl _ _ _ _ rfl HOg.out _ 1 rfl rfl rfl (by simp only [maxLen];omega) (by omega) hsg ?_);intro v1 w8 hown1 hg1;have HO8:=kp hown1;have HG8:=kp hg1;clear hown1 hg1)
            go_roundw
            case rel => exact ⟨i + 1,by have:=HLt.out;omega,by go_num,by rw [HSy.out,List.map_append];exact HO8.out,HG8.out.below HWg.out HOg.out hsg⟩
            case measure => have:=HLt.out;simp [intOf];omega
      · have hge : pg0.len ≤ i:=by omega
        have hie : i = pg0.len:=by omega
        obtain ⟨bl,hbl⟩ : ∃ bl,setTo (BeginP pg0) i = bl:=⟨_,rfl⟩
        obtain ⟨nb,hnb⟩ : ∃ nb,bl.length = nb:=⟨_,rfl⟩
        have hnb32 : nb ≤ 16:=by rw [← hnb,← hbl];have:=yZ (BeginP pg0) i;omega
        have HMask : Kept (S.mask bl % 4294967296 = mb):=kp (by
          rw [← hbl,hie]
          exact QG hl16 (HMb.out.2 rfl))
        have HLe : Kept (∀ x ∈ bl,x ≤ 31):=kp (by
          rw [← hbl]
          intro x hx
          have:=List.mem_range.1 (List.mem_filter.1 hx).1
          omega)
        rw [hbl] at HO
        obtain ⟨AB,cB,rfl,_,_,hrB⟩:=HO.out.readsN hnb
        have HRB:=kp hrB
        have HWx:=kp (HW6.out.trans (HBr.out.mono hs6))
        obtain ⟨hc0,hc1,hc2,hc3⟩:=j8 HKr.out
        have hmm : ((mb : Int) == (mb : Int)) = true:=by simp
        clear hown hbr hlt hie hbl hnb hrB
        go_wp2_with (go_at_call 13;go_must (refine (vJ _ AB nb cB bl wr HRB.out HLe.out (by omega) mb HMask.out).mono ?_);rintro e w9 ⟨rfl,rfl⟩)
        go_ret
        exact ⟨rfl,HWx.out⟩
end Go.Proofs.YtfiafbflhglpeaaDoor
