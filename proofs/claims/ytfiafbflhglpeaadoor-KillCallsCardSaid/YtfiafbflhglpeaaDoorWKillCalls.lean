/- KillCalls, walked. -/
import Derived.Test.YtfiafbflhglpeaaDoorPk9
import Derived.Test.YtfiafbflhglpeaaDoorPk1
import Derived.Test.YtfiafbflhglpeaaDoorPk4
import Derived.BigQuiet
namespace Go.Proofs.YtfiafbflhglpeaaDoor
open Go.RowKit
set_option maxRecDepth 1000000 in
set_option maxHeartbeats 8000000 in
theorem walkKillCalls (pg0 : Pg) (w : World) (w0 : pg0.Ok w w.heap.size) (hL : Tab w) :
    Calls Tryd.prog 4 #[pgA pg0] w fun e w' => e = .returned (.bool true) ∧ Below w.heap.size w w':=by
  have HP:=kp w0;have HTab:=kp hL
  have hw01:=hL.size
  clear w0 hL
  obtain ⟨r,hr⟩ : ∃ r,Q.small pg0 = r:=⟨_,rfl⟩
  have HR:=kp hr
  clear hr
  rw [jN]
  cases r
  · go_enter Tryd.func4,Tryd.ntmps4
    go_wp2_with (first
      | ((with_reducible refine j4 rfl 24 (.tmp 0) rfl (pgC pg0) rfl ?_);intro g1 u1 hg1 hk1 hu1;have HK1:=kp hk1;have HG1:=kp hg1;have HU1:=kp hu1;have hz1:=hu1.size;clear hg1 hk1 hu1))
    refine (jO u1 (HTab.out.below HU1.out hw01)).mono ?_
    rintro e w1 ⟨rfl,hb1⟩
    have HW1 : Kept (Below w.heap.size w w1):=kp (HU1.out.trans (hb1.mono hz1))
    have hs1:=HW1.out.size
    have HP1:=kp (HP.out.below HW1.out)
    have HKa:=kp (HK1.out.below hb1 HK1.out.lt)
    obtain ⟨hc0,hc1,hc2,hc3⟩:=j8 HKa.out
    clear hb1
    go_wp2_with fail
    refine (lA _ pg0 w1 HP1.out hs1 _ HR.out).mono ?_
    rintro e w2 ⟨rfl,hb2⟩
    have HW2 : Kept (Below w.heap.size w w2):=kp (HW1.out.trans (hb2.mono hs1))
    have hs2:=HW2.out.size
    have HP2:=kp (HP.out.below HW2.out)
    have HKb:=kp (HKa.out.below hb2 HKa.out.lt)
    clear hb2 hc0 hc1 hc2 hc3
    obtain ⟨hc0,hc1,hc2,hc3⟩:=j8 HKb.out
    go_wp2_with fail
    refine (jO w2 (HTab.out.below HW2.out hw01)).mono ?_
    rintro e w9 ⟨rfl,hb9⟩
    have HW9:=kp (HW2.out.trans (hb9.mono hs2))
    clear hb9
    go_wp2
    go_ret
    exact ⟨rfl,HW9.out⟩
  · go_enter Tryd.func4,Tryd.ntmps4
    go_wp2_with (first
      | ((with_reducible refine j4 rfl 24 (.tmp 0) rfl (pgC pg0) rfl ?_);intro g1 u1 hg1 hk1 hu1;have HK1:=kp hk1;have HG1:=kp hg1;have HU1:=kp hu1;have hz1:=hu1.size;clear hg1 hk1 hu1))
    refine (jO u1 (HTab.out.below HU1.out hw01)).mono ?_
    rintro e w1 ⟨rfl,hb1⟩
    have HW1 : Kept (Below w.heap.size w w1):=kp (HU1.out.trans (hb1.mono hz1))
    have hs1:=HW1.out.size
    have HP1:=kp (HP.out.below HW1.out)
    have HKa:=kp (HK1.out.below hb1 HK1.out.lt)
    obtain ⟨hc0,hc1,hc2,hc3⟩:=j8 HKa.out
    clear hb1
    go_wp2_with fail
    refine (lA _ pg0 w1 HP1.out hs1 _ HR.out).mono ?_
    rintro e w2 ⟨rfl,hb2⟩
    have HW2 : Kept (Below w.heap.size w w2):=kp (HW1.out.trans (hb2.mono hs1))
    have hs2:=HW2.out.size
    have HP2:=kp (HP.out.below HW2.out)
    have HKb:=kp (HKa.out.below hb2 HKa.out.lt)
    clear hb2 hc0 hc1 hc2 hc3
    obtain ⟨hc0,hc1,hc2,hc3⟩:=j8 HKb.out
    obtain ⟨⟨ca,cb,cc⟩,hcc⟩ : ∃ x,Q.check pg0 = x:=⟨_,rfl⟩
    have HC:=kp hcc
    clear hcc
    obtain ⟨us,hus⟩ : ∃ us,killA pg0 4 4 cc = us:=⟨_,rfl⟩
    obtain ⟨ts,hts⟩ : ∃ ts,killA pg0 1 2 cc = ts:=⟨_,rfl⟩
    obtain ⟨nu,hnu⟩ : ∃ nu,us.length = nu:=⟨_,rfl⟩
    obtain ⟨nt,hnt⟩ : ∃ nt,ts.length = nt:=⟨_,rfl⟩
    obtain ⟨mb,hmb⟩ : ∃ mb,lG pg0 cc mb:=yK pg0 cc
    have HUs:=kp hus;have HTs:=kp hts;have HNus:=kp hnu;have HNts:=kp hnt;have HMb:=kp hmb
    clear hus hts hnu hnt hmb
    go_wp2_with fail
    refine (lT w.heap.size pg0 w2 (HP.out.below HW2.out) hs2 HR.out (HTab.out.below HW2.out hw01) ca cb cc HC.out us HUs.out).mono ?_
    rintro e w3 ⟨v3,rfl,hown3,hb3⟩
    have HW3 : Kept (Below w.heap.size w w3):=kp (HW2.out.trans (hb3.mono hs2))
    have hs3:=HW3.out.size
    have HK3:=kp (HKb.out.below hb3 HKb.out.lt)
    obtain ⟨A3,c3,rfl,hcl3,hcm3,hr3⟩:=hown3.readsN HNus.out
    have HRw3:=kp hr3
    unfold maxLen at hcm3
    clear hown3 hr3
    clear hb3 hc0 hc1 hc2 hc3
    obtain ⟨hc0,hc1,hc2,hc3⟩:=j8 HK3.out
    go_wp2_with fail
    refine (xC w.heap.size pg0 w3 (HP.out.below HW3.out) hs3 HR.out (HTab.out.below HW3.out hw01) ca cb cc HC.out ts HTs.out).mono ?_
    rintro e w4 ⟨v4,rfl,hown4,hb4⟩
    have HW4 : Kept (Below w.heap.size w w4):=kp (HW3.out.trans (hb4.mono hs3))
    have hs4:=HW4.out.size
    have HK4:=kp (HK3.out.below hb4 HK3.out.lt)
    have HX34:=kp hb4;have hX34:=hb4.size
    obtain ⟨A4,c4,rfl,hcl4,hcm4,hr4⟩:=hown4.readsN HNts.out
    have HRw4:=kp hr4
    unfold maxLen at hcm4
    clear hown4 hr4
    clear hb4 hc0 hc1 hc2 hc3
    obtain ⟨hc0,hc1,hc2,hc3⟩:=j8 HK4.out
    go_wp2_with fail
    refine (xT w.heap.size pg0 w4 (HP.out.below HW4.out) hs4 HR.out (HTab.out.below HW4.out hw01) ca cb cc HC.out mb HMb.out).mono ?_
    rintro e w5 ⟨rfl,hb5⟩
    have HW5 : Kept (Below w.heap.size w w5):=kp (HW4.out.trans (hb5.mono hs4))
    have hs5:=HW5.out.size
    have HK5:=kp (HK4.out.below hb5 HK4.out.lt)
    have HR35:=kp (((HRw3.out.below HX34.out).below (hb5.mono hX34)).more (Nat.le_trans hX34 hb5.size))
    have HR45:=kp ((HRw4.out.below hb5).more hb5.size)
    clear hb5 hc0 hc1 hc2 hc3
    obtain ⟨hc0,hc1,hc2,hc3⟩:=j8 HK5.out
    by_cases hz : cc = 0
    rotate_left
    · have hb0 : ((cc : Int) != 0) = true:=by simp;omega
      have hnu0 : nu = 0:=by rw [← HNus.out,← HUs.out,qT _ _ _ hz];rfl
      subst hnu0
      go_wp2
      go_ret
      exact ⟨rfl,HW5.out⟩
    have HF:=kp (xH (p:=pg0) (a:=ca) (b:=cb) (by rw [HC.out,hz]))
    have HLen:=kp HP.out.row.len
    subst hz
    have hnu1 : nu = pg0.len:=by rw [← HNus.out,← HUs.out,jU,l2]
    have hnt1 : nt = pg0.len:=by rw [← HNts.out,← HTs.out,jU,l2]
    subst hnu1 hnt1
    have hl16 : pg0.len ≤ 16:=by have h1:=HF.out.counts.f;have h2:=HLen.out;omega
    have HSm : Kept (∀ f ∈ pg0.fns,f.nodes.length ≤ 100):=kp (by
      have hsm:=HR.out
      unfold Q.small at hsm
      rw [Bool.and_eq_true] at hsm
      intro f hf
      simpa using List.all_eq_true.1 hsm.2 f hf)
    have hmb32 : mb < 4294967296:=(HMb.out.2 rfl).1
    have hlk5:=HK5.out.lt
    clear hc0 hc1 hc2 hc3
    go_wp2
    go_loopw [9] (fun v9 wr => ∃ f : Nat,f ≤ pg0.len ∧ v9 = .int .i64 f ∧ Below w5.heap.size w5 wr) (fun v9 _ => pg0.len - (intOf v9).toNat)
    case atStart => exact ⟨0,by omega,rfl,Below.refl _ _⟩
    case round =>
      obtain ⟨f,hf,rfl,hbr⟩:=hrel
      have HBr:=kp hbr
      by_cases hlt : f < pg0.len
      · obtain ⟨ad,fn,e0,hab,hfn,hfok,hcf⟩:=(HP.out.below (HW5.out.trans (hbr.mono hs5))).fn hlt
        have HE0:=kp e0;have HFn:=kp hfn
        have hfl100:=HSm.out fn (List.mem_of_getElem? hfn)
        have hfl:=hfok.nodes.1.len
        have hflc:=hfok.lc;have hfcm:=hfok.cm
        unfold maxLen at hfcm
        have HNd : Kept (∀ W,Below w5.heap.size w5 W → Nodes W w.heap.size fn.A fn.len fn.nodes ∧ W.cell? (ad.add f) = some (.slice fn.A fn.len fn.cap)):=kp fun W hW => by
          obtain ⟨ad',fn',e',_,hx',hok',hc'⟩:=(HP.out.below (HW5.out.trans (hW.mono hs5))).fn hlt
          rw [HFn.out] at hx';cases hx'
          rw [HE0.out] at e';cases e'
          exact ⟨hok'.nodes,hc'⟩
        have HC3 : Kept (∀ W,Below w5.heap.size w5 W → W.cell? ⟨g1,3,none⟩ = some (.slice (some ad) pg0.len pg0.cap)):=kp fun W hW => by
          have h:=(j8 (HK5.out.below hW hlk5)).2.2.2
          rw [HE0.out] at h
          exact h
        have hlc:=HP.out.lc
        have hcm9:=HP.out.cm
        unfold maxLen at hcm9
        have hc3:=HC3.out wr hbr
        have hfi : (f : Int) < (pg0.len : Int):=by omega
        have hfb : decide ((f : Int) < (pg0.len : Int)) = true:=by simp;omega
        have HLt:=kp hlt
        clear hbr hfn hfok hcf e0 hlt
        rw [HE0.out]
        go_wp2
        clear hc3 hfb
        go_loopw [10] (fun v10 wr => ∃ i : Nat,i ≤ fn.len ∧ v10 = .int .i64 i ∧ Below w5.heap.size w5 wr) (fun v10 _ => fn.len - (intOf v10).toNat)
        case atStart => exact ⟨0,by omega,rfl,HBr.out⟩
        case round =>
          clear HBr
          obtain ⟨i,hi,rfl,hbr⟩:=hrel
          have HBr:=kp hbr
          have hsr:=hbr.size
          have hc3:=HC3.out wr hbr
          obtain ⟨hnds,hcf⟩:=HNd.out wr hbr
          by_cases hil : i < fn.len
          · obtain ⟨ad4,x,e4,_,hx,hxok,hn0,hn1,hn2,hn3⟩:=hnds.get hil
            have HE4:=kp e4;have HX:=kp hx
            obtain ⟨adU,xu,eU,habU,hxU,hcU⟩:=(HR35.out.below hbr).get HLt.out
            obtain ⟨adT,xt,eT,habT,hxT,hcT⟩:=(HR45.out.below hbr).get HLt.out
            cases eU;cases eT
            rw [jT] at hcU hcT
            have hdU : ad4 = ad4:=rfl
            rw [e4] at hcf
            clear hnds hx e4 hdU
            by_cases h7 : x.kind = 7
            · have hxin : Q.calls pg0 f x.arg.toNat ∧ x.arg.toNat < pg0.len ∧ x.arg = ((x.arg.toNat : Nat) : Int):=call_in HF.out HLen.out HFn.out HX.out h7
              obtain ⟨y,hy⟩ : ∃ y,x.arg.toNat = y:=⟨_,rfl⟩
              rw [hy] at hxin
              obtain ⟨hxc,hyl,hxa⟩:=hxin
              have HCi:=kp (⟨hxc,hyl⟩ : CallIn pg0 f y)
              obtain ⟨_,yu,eU,_,hyU,hcyU⟩:=(HR35.out.below hbr).get hyl
              obtain ⟨_,yt,eT,_,hyT,hcyT⟩:=(HR45.out.below hbr).get hyl
              cases eU;cases eT
              rw [jT] at hcyU hcyT
              rw [← HUs.out,jU] at hxU hyU
              rw [← HTs.out,jU] at hxT hyT
              have hAu : bits .andNot .u32 (yu : Int) (xu : Int) = 0:=vB (jZ hyU) (jZ hxU) (fun id _ h => qG HLt.out HCi.out h)
              have hAt : bits .andNot .u32 (yt : Int) (xt : Int) = 0:=vB (jZ hyT) (jZ hxT) (fun id _ h => qG HLt.out HCi.out h)
              have h7b : (x.kind == 7) = true:=by simpa using h7
              have HHas : Kept (S.has mb (y : Int) = true → S.has mb (f : Int) = true):=kp (L5 (HMb.out.2 rfl) hl16 HLt.out HCi.out)
              obtain ⟨hv,hhv⟩ : ∃ hv,S.has mb (y : Int) = hv:=⟨_,rfl⟩
              have HHv:=kp hhv
              rw [hhv] at HHas
              have hyi : (y : Int) < (pg0.len : Int):=by omega
              have HXa:=kp hxa
              clear hxa
              clear hxc hxU hyU hxT hyT hhv hy h7
              go_wp2_with (first
                | ((with_reducible show Sl 11);go_must (refine j7 rfl 41 rfl (ndC ⟨0,0,0,0⟩) jI ?_);intro g5 w6 hg5 hk6 hw6;have HG5:=kp hg5;have HK6:=kp hk6;have HW6:=kp hw6;clear hg5 hk6 hw6)
                | ((with_reducible show Sn);go_must (refine j5 rfl 41 (.tmp 11) (.tmp 64) rfl g5 (ndC x) rfl rfl _ _ HK6.out jF rfl (jK x) ?_);intro w7 hk7 hg7 hs7
                   have HBq7:=kp (HW6.out.grown hg7 HW6.out.size (fun k hk => by cases hk;exact HG5.out))
                   have HB7:=kp (HBr.out.trans (HBq7.out.mono hsr))
                   have HKx7:=kp hk7;have hlx7:=hk7.lt;have hs57:=HB7.out.size
                   have HU1:=kp ((HBq7.out.cell (p:=adU.add f) (by rw [add_block];omega)).trans hcU)
                   have HU2:=kp ((HBq7.out.cell (p:=adU.add y) (by rw [add_block];omega)).trans hcyU)
                   have HT1:=kp ((HBq7.out.cell (p:=adT.add f) (by rw [add_block];omega)).trans hcT)
                   have HT2:=kp ((HBq7.out.cell (p:=adT.add y) (by rw [add_block];omega)).trans hcyT)
                   obtain ⟨hx0,hx1,hx2,hx3⟩:=jC hk7
                   have hU1:=HU1.out;have hU2:=HU2.out;have hT1:=HT1.out;have hT2:=HT2.out
                   rw [HXa.out] at hx1
                   have habU7 : adU.block < w7.heap.size:=by omega
                   have habT7 : adT.block < w7.heap.size:=by omega
                   clear hcU hcyU hcT hcyT
                   clear hk7 hg7 hs7 hn0 hn1 hn2 hn3 hc3 hcf))
              simp only [x9,jL,List.set]
              cases hv
              · clear HHas
                refine wp_region_quiet_lit (by kernel_rfl) (by kernel_rfl) ?_
                iterate 33 (go_big_quiet_step (exact lC (x8 mb hmb32 (y : Int) ⟨by omega,by omega⟩ false HHv.out _)))
                iterate 8 (go_big_quiet_step (fail))
                refine wpQuiet_nil ?_
                intro _ hw'
                obtain ⟨nq,hw''⟩:=hw'
                subst hw''
                obtain ⟨w8,hw8⟩ : ∃ w8,w7.drewN nq = w8:=⟨_,rfl⟩
                have HB8 : Kept (Below w5.heap.size w5 w8):=kp (by rw [← hw8];exact below_drewN HB7.out _)
                rw [hw8]
                clear hw8 hx0 hx1 hx2 hx3 hU1 hU2 hT1 hT2 hAu hAt
                go_wp2
                go_roundw
                case rel => exact ⟨i + 1,by omega,by go_num,HB8.out⟩
                case measure => simp [intOf];omega
              · have HHf:=kp (HHas.out rfl)
                refine wp_region_quiet_lit (by kernel_rfl) (by kernel_rfl) ?_
                iterate 33 (go_big_quiet_step (exact lC (x8 mb hmb32 (y : Int) ⟨by omega,by omega⟩ true HHv.out _)))
                iterate 4 (go_big_quiet_step (exact lC (x8 mb hmb32 (f : Int) ⟨by omega,by omega⟩ true HHf.out _)))
                iterate 4 (go_big_quiet_step (fail))
                refine wpQuiet_nil ?_
                intro _ hw'
                obtain ⟨nq,hw''⟩:=hw'
                subst hw''
                obtain ⟨w8,hw8⟩ : ∃ w8,w7.drewN nq = w8:=⟨_,rfl⟩
                have HB8 : Kept (Below w5.heap.size w5 w8):=kp (by rw [← hw8];exact below_drewN HB7.out _)
                rw [hw8]
                clear hw8 hx0 hx1 hx2 hx3 hU1 hU2 hT1 hT2 hAu hAt
                go_wp2
                go_roundw
                case rel => exact ⟨i + 1,by omega,by go_num,HB8.out⟩
                case measure => simp [intOf];omega
            · have h7b : (x.kind == 7) = false:=by simpa using h7
              clear hcU hcT hxU hxT h7
              go_wp2_with (first
                | ((with_reducible show Sl 11);go_must (refine j7 rfl 41 rfl (ndC ⟨0,0,0,0⟩) jI ?_);intro g5 w6 hg5 hk6 hw6;have HG5:=kp hg5;have HK6:=kp hk6;have HW6:=kp hw6;clear hg5 hk6 hw6)
                | ((with_reducible show Sn);go_must (refine j5 rfl 41 (.tmp 11) (.tmp 64) rfl g5 (ndC x) rfl rfl _ _ HK6.out jF rfl (jK x) ?_);intro w7 hk7 hg7 hs7
                   have HBq7:=kp (HW6.out.grown hg7 HW6.out.size (fun k hk => by cases hk;exact HG5.out))
                   have HB7:=kp (HBr.out.trans (HBq7.out.mono hsr))
                   obtain ⟨hx0,hx1,hx2,hx3⟩:=jC hk7
                   clear hk7 hg7 hs7 hn0 hn1 hn2 hn3 hc3 hcf))
              simp only [x9,jL,List.set]
              go_quiet (fail)
              obtain ⟨w8,hw8⟩ : ∃ w8,w7.drewN nq = w8:=⟨_,rfl⟩
              have HB8 : Kept (Below w5.heap.size w5 w8):=kp (by rw [← hw8];exact below_drewN HB7.out _)
              rw [hw8]
              clear hw8 hx0 hx1 hx2 hx3
              go_wp2
              go_roundw
              case rel => exact ⟨i + 1,by omega,by go_num,HB8.out⟩
              case measure => simp [intOf];omega
          · have hge : fn.len ≤ i:=by omega
            clear hil hnds
            go_wp2
            go_roundw
            case rel => exact ⟨f + 1,by have:=HLt.out;omega,by go_num,HBr.out⟩
            case measure => have:=HLt.out;simp [intOf];omega
      · have hge : pg0.len ≤ f:=by omega
        have HWx:=kp (HW5.out.trans (hbr.mono hs5))
        obtain ⟨hc0,hc1,hc2,hc3⟩:=j8 (HK5.out.below hbr hlk5)
        clear hbr hlt
        go_wp2
        go_ret
        exact ⟨rfl,HWx.out⟩
end Go.Proofs.YtfiafbflhglpeaaDoor
