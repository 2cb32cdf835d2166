/- What is wrong with a function, walked. -/
import Derived.Test.YtlgaefenhfmjfaaDoorMustP3
namespace Go.Proofs.YtlgaefenhfmjfaaDoor
open Go.RowKit
theorem xW : (Tryd.prog.info? 54).map (·.zero) = some (some (.agg (scC default).toArray)):=by kernel_rfl
theorem yL (a : Addr) : a.add 0 = a:=by unfold Addr.add;rw [if_pos rfl]
theorem Secs.getA {w : World} {B : Nat} {A : Option Addr} {n : Nat} {l : List Sc} (h : Secs w B A n l) {k : Nat} (hk : k < n) :
    ∃ ad x,A = some ad ∧ ad.block < B ∧ l[k]? = some x ∧ x.Ok w B ∧ w.cell? (ad.add (k * 6)) = some (.int .u32 (x.en : Int)) ∧ w.cell? ⟨(ad.add (k * 6)).block,(ad.add (k * 6)).off + 1,none⟩ = some (.int .u32 (x.ex : Int)) ∧
      w.cell? ⟨(ad.add (k * 6)).block,(ad.add (k * 6)).off + 2,none⟩ = some (.slice x.held.A x.held.len x.held.cap) ∧ w.cell? ⟨(ad.add (k * 6)).block,(ad.add (k * 6)).off + 3,none⟩ = some (.int .u32 (x.le : Int)) ∧
      w.cell? ⟨(ad.add (k * 6)).block,(ad.add (k * 6)).off + 4,none⟩ = some (.int .u32 (x.lx : Int)) ∧ w.cell? ⟨(ad.add (k * 6)).block,(ad.add (k * 6)).off + 5,none⟩ = some (.slice x.live.A x.live.len x.live.cap):=by
  obtain ⟨ad,x,e,hb,hx,hc0,hc⟩:=h.1.field hk
  exact ⟨ad,x,e,hb,hx,h.2 x (List.mem_of_getElem? hx),hc0 (by omega),hc 1 (by omega) (by omega),hc 2 (by omega) (by omega),hc 3 (by omega) (by omega),hc 4 (by omega) (by omega),hc 5 (by omega) (by omega)⟩
def NotBare (b : Bool) (x : Sc) : Prop:=¬ (b = true ∧ x.en ≠ 0)
def FnFit (c : Cl) (k : Nat) (l : List Nd) : Prop:=∀ (i : Nat) (y : Nd),l[i]? = some y → CallFit c y ∧ SuccFit k y
set_option maxRecDepth 1000000 in
set_option maxHeartbeats 8000000 in
theorem uW (B : Nat) (c : Cl) (f : Nat) (x : Sc) (fn : Fn) (w : World) (hc : c.Ok w B) (hf : f < c.ll) (hx : c.ls[f]? = some x) (hfn : fn.Ok w B) (hB : B ≤ w.heap.size) (hl : x.held.len = fn.len) (h0 : 0 < fn.len) (hfit : FnFit c x.held.len fn.nodes) (b : Bool) (hb : S.has c.m (f : Int) = b) (a : Int) (cc : Nat) (hr : Mu.func c.us c.ls b x fn.nodes = (a,cc)) :
    Calls Tryd.prog 21 #[clA c,.int .i64 (f : Int),.slice fn.A fn.len fn.cap] w fun e w' => e = .returned (.tuple #[.int .i64 a,.int .i64 (cc : Int)]) ∧ Below w.heap.size w w':=by
  have HC:=kp hc;have HR:=kp hr;have HFn:=kp hfn;have HFits:=kp hfit;have HBt:=kp hb;have HM:=kp hc.m
  have hlc:=hc.lc;have hlm:=hc.lm
  have hfc:=hfn.lc;have hfm:=hfn.cm
  unfold maxLen at hlm hfm
  obtain ⟨ad,x',e0,hb0,hx',hxok,hx0,hx1,hx2,hx3,hx4,hx5⟩:=hc.secs.getA hf
  rw [hx] at hx'
  cases hx'
  have HX:=kp hxok
  have HX0:=kp hx0;have HX1:=kp hx1;have HX2:=kp hx2;have HX3:=kp hx3;have HX4:=kp hx4;have HX5:=kp hx5
  have HE0:=kp e0
  have hx32:=hxok.en
  have hhc:=hxok.held.lc;have hhm:=hxok.held.cm
  unfold maxLen at hhm
  obtain ⟨adH,eH,hbH,_,hh0,hcH⟩:=hxok.held.get (k:=0) (by omega)
  obtain ⟨h0v,hh0e⟩ : ∃ q,x.held.z.getD 0 0 = q:=⟨_,rfl⟩
  rw [hh0e] at hh0 hcH
  have HCH:=kp hcH;have HAe:=kp eH;have HHe:=kp hh0e
  obtain ⟨wt,hwt⟩ : ∃ q,S.within h0v x.en 32 = q:=⟨_,rfl⟩
  have HWt0:=kp hwt
  have HL:=kp hl
  have HFi : Kept (-9223372036854775808 ≤ (f : Int) ∧ (f : Int) ≤ 9223372036854775807):=kp (by omega)
  have h0l : (0 : Int) < (x.held.len : Int):=by omega
  have hfl : (f : Int) < (c.ll : Int):=by omega
  clear hl hc hr hfn hfit hb hx hxok hx0 hx1 hx2 hx3 hx4 hx5 e0 hcH eH hh0e hwt
  obtain ⟨adF,_,eF,_⟩:=HFn.out.nodes.get h0
  have HEF:=kp eF
  rw [uB,eF]
  clear eF
  go_enter Tryd.func21,Tryd.ntmps21
  by_cases hne : b = true ∧ x.en ≠ 0
  · obtain ⟨rfl,hen⟩:=hne
    have HE : Kept (((-1 : Int),2) = (a,cc)):=kp (by rw [← HR.out];exact (Mu.func_entry rfl hen).symm)
    have hnb : ((x.en : Int) != 0) = true:=by simp;omega
    clear hen
    go_wp2_with (first
      | ((with_reducible refine j4 rfl 68 (.tmp 0) rfl (clC c) rfl ?_);intro g1 w1 hg1 hk1 hw1;have HK1:=kp hk1;have HW1:=kp hw1;have hs1:=hw1.size
         obtain ⟨hu0,hu1,hu2⟩:=jP hk1
         rw [HE0.out] at hu0
         have hx0:=(hw1.cell (p:=ad.add (f * 6)) (by rw [add_block];omega)).trans HX0.out
         have hx1:=(hw1.cell (p:=⟨(ad.add (f * 6)).block,(ad.add (f * 6)).off + 1,none⟩) (by show (ad.add (f * 6)).block < _;rw [add_block];omega)).trans HX1.out
         have hx2:=(hw1.cell (p:=⟨(ad.add (f * 6)).block,(ad.add (f * 6)).off + 2,none⟩) (by show (ad.add (f * 6)).block < _;rw [add_block];omega)).trans HX2.out
         have hx3:=(hw1.cell (p:=⟨(ad.add (f * 6)).block,(ad.add (f * 6)).off + 3,none⟩) (by show (ad.add (f * 6)).block < _;rw [add_block];omega)).trans HX3.out
         have hx4:=(hw1.cell (p:=⟨(ad.add (f * 6)).block,(ad.add (f * 6)).off + 4,none⟩) (by show (ad.add (f * 6)).block < _;rw [add_block];omega)).trans HX4.out
         have hx5:=(hw1.cell (p:=⟨(ad.add (f * 6)).block,(ad.add (f * 6)).off + 5,none⟩) (by show (ad.add (f * 6)).block < _;rw [add_block];omega)).trans HX5.out
         clear hg1 hk1 hw1)
      | ((with_reducible show Sl 8);go_must (refine j6 rfl 54 rfl (scC default) xW ?_);intro gS w2 hgS hk2 hb2;have HGS:=kp hgS;have HK2:=kp hk2;have HW2:=kp (HW1.out.trans (hb2.mono hs1));have hs2:=HW2.out.size;have HKa:=kp (HK1.out.below hb2 HK1.out.lt);have HGc:=kp (show g1 < gS by have h1:=HK1.out.lt;omega);clear hgS hk2 hb2 hu0 hu1 hu2 hx0 hx1 hx2 hx3 hx4 hx5)
      | ((with_reducible show Sn);go_must (refine j7 rfl 54 (.tmp 8) (.tmp 16) rfl gS (scC x) rfl rfl _ _ HK2.out lQ rfl (xX x) ?_);intro w3 hk3 hg3 hz3
         have HK3:=kp hk3;have HW3:=kp (HW2.out.grown hg3 hs2 (fun k e => by cases e;have:=HGS.out;omega));have hs3:=HW3.out.size;have HKb:=kp (HKa.out.grown hg3 (fun e => by cases e;have:=HGc.out;omega))
         obtain ⟨hu0,hu1,hu2⟩:=jP HKb.out;obtain ⟨hs_0,hs_1,hs_2,hs_5⟩:=lB hk3
         clear hk3 hg3 hz3)
      | (go_at_call 39;go_must (refine (zI c.m HM.out (f : Int) HFi.out _ HBt.out _).mono ?_);rintro e w9 ⟨rfl,rfl⟩))
    go_ret2
    have h1:=HE.out
    simp only [Prod.mk.injEq] at h1
    rw [← h1.1,← h1.2]
    exact ⟨rfl,HW3.out⟩
  have HNb : Kept (NotBare b x):=kp hne
  have HWt : Kept (S.within (x.held.z.getD 0 0) x.en 32 = wt):=kp (by rw [HHe.out];exact HWt0.out)
  have HWt0:=HWt0
  cases b with
  | false =>
    clear hne
    go_wp2_with (first
      | ((with_reducible refine j4 rfl 68 (.tmp 0) rfl (clC c) rfl ?_);intro g1 w1 hg1 hk1 hw1;have HK1:=kp hk1;have HW1:=kp hw1;have hs1:=hw1.size
         obtain ⟨hu0,hu1,hu2⟩:=jP hk1
         rw [HE0.out] at hu0
         have hx0:=(hw1.cell (p:=ad.add (f * 6)) (by rw [add_block];omega)).trans HX0.out
         have hx1:=(hw1.cell (p:=⟨(ad.add (f * 6)).block,(ad.add (f * 6)).off + 1,none⟩) (by show (ad.add (f * 6)).block < _;rw [add_block];omega)).trans HX1.out
         have hx2:=(hw1.cell (p:=⟨(ad.add (f * 6)).block,(ad.add (f * 6)).off + 2,none⟩) (by show (ad.add (f * 6)).block < _;rw [add_block];omega)).trans HX2.out
         have hx3:=(hw1.cell (p:=⟨(ad.add (f * 6)).block,(ad.add (f * 6)).off + 3,none⟩) (by show (ad.add (f * 6)).block < _;rw [add_block];omega)).trans HX3.out
         have hx4:=(hw1.cell (p:=⟨(ad.add (f * 6)).block,(ad.add (f * 6)).off + 4,none⟩) (by show (ad.add (f * 6)).block < _;rw [add_block];omega)).trans HX4.out
         have hx5:=(hw1.cell (p:=⟨(ad.add (f * 6)).block,(ad.add (f * 6)).off + 5,none⟩) (by show (ad.add (f * 6)).block < _;rw [add_block];omega)).trans HX5.out
         clear hg1 hk1 hw1)
      | ((with_reducible show Sl 8);go_must (refine j6 rfl 54 rfl (scC default) xW ?_);intro gS w2 hgS hk2 hb2;have HGS:=kp hgS;have HK2:=kp hk2;have HW2:=kp (HW1.out.trans (hb2.mono hs1));have hs2:=HW2.out.size;have HKa:=kp (HK1.out.below hb2 HK1.out.lt);have HGc:=kp (show g1 < gS by have h1:=HK1.out.lt;omega);clear hgS hk2 hb2 hu0 hu1 hu2 hx0 hx1 hx2 hx3 hx4 hx5)
      | ((with_reducible show Sn);go_must (refine j7 rfl 54 (.tmp 8) (.tmp 16) rfl gS (scC x) rfl rfl _ _ HK2.out lQ rfl (xX x) ?_);intro w3 hk3 hg3 hz3
         have HK3:=kp hk3;have HW3:=kp (HW2.out.grown hg3 hs2 (fun k e => by cases e;have:=HGS.out;omega));have hs3:=HW3.out.size;have HKb:=kp (HKa.out.grown hg3 (fun e => by cases e;have:=HGc.out;omega))
         obtain ⟨hu0,hu1,hu2⟩:=jP HKb.out;obtain ⟨hs_0,hs_1,hs_2,hs_5⟩:=lB hk3
         clear hk3 hg3 hz3)
      | (go_at_call 39;go_must (refine (zI c.m HM.out (f : Int) HFi.out _ HBt.out _).mono ?_);rintro e w9 ⟨rfl,rfl⟩))
    have hcH:=(HW3.out.cell (p:=adH.add 0) (by rw [add_block];omega)).trans HCH.out
    rw [yL] at hcH
    rw [HAe.out] at hs_2
    go_wp2
    refine wp_region_quiet_lit (by kernel_rfl) (by kernel_rfl) ?_
    iterate 7 (go_big_quiet_step (exact zR (jM h0v x.en hh0 hx32 _ HWt0.out _)))
    iterate 1 (go_big_quiet_step (fail))
    refine wpQuiet_nil ?_
    intro _ hw'
    obtain ⟨nq,hw''⟩:=hw'
    subst hw''
    obtain ⟨w4,hw4⟩ : ∃ q,w3.drewN nq = q:=⟨_,rfl⟩
    have hb4 : Below w3.heap.size w3 w4:=by rw [← hw4];exact below_drewN (Below.refl _ _) _
    rw [hw4]
    have HW4:=kp (HW3.out.trans (hb4.mono hs3));have hs4:=HW4.out.size
    have HKc4:=kp (HKb.out.below hb4 HKb.out.lt);have HKs4:=kp (HK3.out.below hb4 HK3.out.lt)
    clear hw4 hb4 hcH hu0 hu1 hu2 hs_0 hs_1 hs_2 hs_5
    cases wt with
    | false =>
      have HE : Kept (((-1 : Int),3) = (a,cc)):=kp (by rw [← HR.out];exact (Mu.func_held HNb.out HWt.out).symm)
      go_wp2
      go_ret2
      have h1:=HE.out
      simp only [Prod.mk.injEq] at h1
      rw [← h1.1,← h1.2]
      exact ⟨rfl,HW4.out⟩
    | true =>
      simp only [Bool.not_true]
      go_wp2
      go_loopw [36] (fun v36 wr => ∃ i : Nat,i ≤ fn.len ∧ v36 = .int .i64 i ∧ (∀ j,j < i → Mu.at_ c.us c.ls x fn.nodes j = 0) ∧ Below w4.heap.size w4 wr) (fun v36 _ => fn.len - (intOf v36).toNat)
      case atStart => exact ⟨0,by omega,rfl,fun j hj => by omega,Below.refl _ _⟩
      case round =>
        obtain ⟨i,hi,rfl,hall,hbr⟩:=hrel
        have HAll:=kp hall;have HBr:=kp hbr
        have hsr:=hbr.size
        have HW:=kp (HW4.out.trans (hbr.mono hs4))
        have hsW:=HW.out.size
        have HKc:=kp (HKc4.out.below hbr HKc4.out.lt);have HKs:=kp (HKs4.out.below hbr HKs4.out.lt)
        clear hall hbr
        by_cases hlt : i < fn.len
        · obtain ⟨ad4,y,e4,hb4,hy,hyok,hy0,hy1,hy2,hy3⟩:=(HFn.out.nodes.keep fun _ hp => HW.out.cell (by omega)).get hlt
          have HY:=kp hyok
          obtain ⟨hfit1,hfit2⟩:=HFits.out i y hy
          have HF1:=kp hfit1;have HF2:=kp hfit2
          obtain ⟨r,hr⟩ : ∃ r,Mu.node c.us c.ls x y (x.held.z.getD i 0) = r:=⟨_,rfl⟩
          have HRn:=kp hr
          have hat : Mu.at_ c.us c.ls x fn.nodes i = r:=by
            unfold Mu.at_
            rw [List.getD_eq_getElem?_getD (l:=fn.nodes),hy]
            exact hr
          have HAt:=kp hat
          have hil : i < x.held.len:=by rw [HL.out];exact hlt
          have HIl:=kp hil
          have hfi : (i : Int) < (fn.len : Int):=by omega
          obtain rfl : adF = ad4:=by rw [HEF.out] at e4;exact Option.some.inj e4
          clear e4
          clear hy hyok hfit1 hfit2 hr hat hil
          go_wp2_with (first
            | ((with_reducible show Sl 10);go_must (refine j6 rfl 63 rfl (ndC ⟨0,0,0,0⟩) jZ ?_);intro gN w5 hgN hk5 hb5;have HGN:=kp hgN;have HK5:=kp hk5;have HW5:=kp (HBr.out.trans (hb5.mono hsr));have hs5:=HW5.out.size;have HKc5:=kp (HKc.out.below hb5 HKc.out.lt);have HKs5:=kp (HKs.out.below hb5 HKs.out.lt);clear hgN hk5 hb5 hy0 hy1 hy2 hy3)
            | ((with_reducible show Sn);go_must (refine j7 rfl 63 (.tmp 10) (.tmp 40) rfl gN (ndC y) rfl rfl _ _ HK5.out jE rfl (l0 y) ?_);intro w6 hk6 hg6 hz6
               have HK6:=kp hk6;have HW6:=kp (HW5.out.grown hg6 hs5 (fun k e => by cases e;have:=HGN.out;omega));have hs6:=HW6.out.size
               have HKc6:=kp (HKc5.out.grown hg6 (fun e => by cases e;have:=HGN.out;have:=HKc.out.lt;omega));have HKs6:=kp (HKs5.out.grown hg6 (fun e => by cases e;have:=HGN.out;have:=HKs.out.lt;omega))
               clear hk6 hg6 hz6)
            | ((with_reducible show Sl 41);go_must (refine j5 rfl 68 (.tmp 3) rfl g1 rfl _ (clC c) _ HKc6.out Tryd.underlying68 rfl lV ?_))
            | ((with_reducible show Sl 42);go_must (refine j5 rfl 54 (.tmp 8) rfl gS rfl _ (scC x) _ HKs6.out Tryd.underlying54 rfl lQ ?_))
            | ((with_reducible show Sl 44);go_must (refine j5 rfl 63 (.tmp 10) rfl gN rfl _ (ndC y) _ HK6.out Tryd.underlying63 rfl jE ?_))
            | (go_at_call 41;fail))
          have HWx:=kp (HW4.out.trans (HW6.out.mono hs4))
          refine (yV B c x y HY.out i w6 (HC.out.below (HWx.out.mono hB)) (HX.out.below (HWx.out.mono hB)) (Nat.le_trans hB HWx.out.size) HF1.out HF2.out HIl.out r HRn.out).mono ?_
          rintro e w7 ⟨rfl,hb7⟩
          have HW7:=kp (HW6.out.trans (hb7.mono hs6))
          have HWy:=kp (HWx.out.trans (hb7.mono HWx.out.size))
          clear hb7
          by_cases h0 : r = 0
          · have h0b : ((r : Int) != 0) = false:=by rw [h0];rfl
            have HR0:=kp h0
            clear h0
            go_wp2
            go_roundw
            case rel => exact ⟨i + 1,by omega,by go_num,(fun j hj => by
              by_cases e : j = i
              · subst e;rw [HAt.out];exact HR0.out
              · exact HAll.out j (by omega)),HW7.out⟩
            case measure => simp [intOf];omega
          · have h0b : ((r : Int) != 0) = true:=by simp;omega
            have HE : Kept (((i : Int),r) = (a,cc)):=kp (by
              rw [← HR.out,Mu.func_hit HNb.out HWt.out (by rw [HFn.out.nodes.1.len];exact hlt) HAll.out (by rw [HAt.out];exact h0),HAt.out])
            clear h0
            go_wp2
            go_ret2
            have h1:=HE.out
            simp only [Prod.mk.injEq] at h1
            rw [← h1.1,← h1.2]
            exact ⟨rfl,HWy.out⟩
        · have HE : Kept (((0 : Int),0) = (a,cc)):=kp (by
            rw [← HR.out]
            exact (Mu.func_none HNb.out HWt.out (fun j hj => HAll.out j (by rw [HFn.out.nodes.1.len] at hj;omega))).symm)
          have hge : fn.len ≤ i:=by omega
          clear hlt
          go_wp2
          go_ret2
          have h1:=HE.out
          simp only [Prod.mk.injEq] at h1
          rw [← h1.1,← h1.2]
          exact ⟨rfl,HW.out⟩
  | true =>
    have hen : x.en = 0:=Classical.byContradiction fun h => hne ⟨rfl,h⟩
    have hnb : ((x.en : Int) != 0) = false:=by rw [hen];rfl
    clear hen hne
    go_wp2_with (first
      | ((with_reducible refine j4 rfl 68 (.tmp 0) rfl (clC c) rfl ?_);intro g1 w1 hg1 hk1 hw1;have HK1:=kp hk1;have HW1:=kp hw1;have hs1:=hw1.size
         obtain ⟨hu0,hu1,hu2⟩:=jP hk1
         rw [HE0.out] at hu0
         have hx0:=(hw1.cell (p:=ad.add (f * 6)) (by rw [add_block];omega)).trans HX0.out
         have hx1:=(hw1.cell (p:=⟨(ad.add (f * 6)).block,(ad.add (f * 6)).off + 1,none⟩) (by show (ad.add (f * 6)).block < _;rw [add_block];omega)).trans HX1.out
         have hx2:=(hw1.cell (p:=⟨(ad.add (f * 6)).block,(ad.add (f * 6)).off + 2,none⟩) (by show (ad.add (f * 6)).block < _;rw [add_block];omega)).trans HX2.out
         have hx3:=(hw1.cell (p:=⟨(ad.add (f * 6)).block,(ad.add (f * 6)).off + 3,none⟩) (by show (ad.add (f * 6)).block < _;rw [add_block];omega)).trans HX3.out
         have hx4:=(hw1.cell (p:=⟨(ad.add (f * 6)).block,(ad.add (f * 6)).off + 4,none⟩) (by show (ad.add (f * 6)).block < _;rw [add_block];omega)).trans HX4.out
         have hx5:=(hw1.cell (p:=⟨(ad.add (f * 6)).block,(ad.add (f * 6)).off + 5,none⟩) (by show (ad.add (f * 6)).block < _;rw [add_block];omega)).trans HX5.out
         clear hg1 hk1 hw1)
      | ((with_reducible show Sl 8);go_must (refine j6 rfl 54 rfl (scC default) xW ?_);intro gS w2 hgS hk2 hb2;have HGS:=kp hgS;have HK2:=kp hk2;have HW2:=kp (HW1.out.trans (hb2.mono hs1));have hs2:=HW2.out.size;have HKa:=kp (HK1.out.below hb2 HK1.out.lt);have HGc:=kp (show g1 < gS by have h1:=HK1.out.lt;omega);clear hgS hk2 hb2 hu0 hu1 hu2 hx0 hx1 hx2 hx3 hx4 hx5)
      | ((with_reducible show Sn);go_must (refine j7 rfl 54 (.tmp 8) (.tmp 16) rfl gS (scC x) rfl rfl _ _ HK2.out lQ rfl (xX x) ?_);intro w3 hk3 hg3 hz3
         have HK3:=kp hk3;have HW3:=kp (HW2.out.grown hg3 hs2 (fun k e => by cases e;have:=HGS.out;omega));have hs3:=HW3.out.size;have HKb:=kp (HKa.out.grown hg3 (fun e => by cases e;have:=HGc.out;omega))
         obtain ⟨hu0,hu1,hu2⟩:=jP HKb.out;obtain ⟨hs_0,hs_1,hs_2,hs_5⟩:=lB hk3
         clear hk3 hg3 hz3)
      | (go_at_call 39;go_must (refine (zI c.m HM.out (f : Int) HFi.out _ HBt.out _).mono ?_);rintro e w9 ⟨rfl,rfl⟩))
    have hcH:=(HW3.out.cell (p:=adH.add 0) (by rw [add_block];omega)).trans HCH.out
    rw [yL] at hcH
    rw [HAe.out] at hs_2
    go_wp2
    refine wp_region_quiet_lit (by kernel_rfl) (by kernel_rfl) ?_
    iterate 7 (go_big_quiet_step (exact zR (jM h0v x.en hh0 hx32 _ HWt0.out _)))
    iterate 1 (go_big_quiet_step (fail))
    refine wpQuiet_nil ?_
    intro _ hw'
    obtain ⟨nq,hw''⟩:=hw'
    subst hw''
    obtain ⟨w4,hw4⟩ : ∃ q,w3.drewN nq = q:=⟨_,rfl⟩
    have hb4 : Below w3.heap.size w3 w4:=by rw [← hw4];exact below_drewN (Below.refl _ _) _
    rw [hw4]
    have HW4:=kp (HW3.out.trans (hb4.mono hs3));have hs4:=HW4.out.size
    have HKc4:=kp (HKb.out.below hb4 HKb.out.lt);have HKs4:=kp (HK3.out.below hb4 HK3.out.lt)
    clear hw4 hb4 hcH hu0 hu1 hu2 hs_0 hs_1 hs_2 hs_5
    cases wt with
    | false =>
      have HE : Kept (((-1 : Int),3) = (a,cc)):=kp (by rw [← HR.out];exact (Mu.func_held HNb.out HWt.out).symm)
      go_wp2
      go_ret2
      have h1:=HE.out
      simp only [Prod.mk.injEq] at h1
      rw [← h1.1,← h1.2]
      exact ⟨rfl,HW4.out⟩
    | true =>
      simp only [Bool.not_true]
      go_wp2
      go_loopw [36] (fun v36 wr => ∃ i : Nat,i ≤ fn.len ∧ v36 = .int .i64 i ∧ (∀ j,j < i → Mu.at_ c.us c.ls x fn.nodes j = 0) ∧ Below w4.heap.size w4 wr) (fun v36 _ => fn.len - (intOf v36).toNat)
      case atStart => exact ⟨0,by omega,rfl,fun j hj => by omega,Below.refl _ _⟩
      case round =>
        obtain ⟨i,hi,rfl,hall,hbr⟩:=hrel
        have HAll:=kp hall;have HBr:=kp hbr
        have hsr:=hbr.size
        have HW:=kp (HW4.out.trans (hbr.mono hs4))
        have hsW:=HW.out.size
        have HKc:=kp (HKc4.out.below hbr HKc4.out.lt);have HKs:=kp (HKs4.out.below hbr HKs4.out.lt)
        clear hall hbr
        by_cases hlt : i < fn.len
        · obtain ⟨ad4,y,e4,hb4,hy,hyok,hy0,hy1,hy2,hy3⟩:=(HFn.out.nodes.keep fun _ hp => HW.out.cell (by omega)).get hlt
          have HY:=kp hyok
          obtain ⟨hfit1,hfit2⟩:=HFits.out i y hy
          have HF1:=kp hfit1;have HF2:=kp hfit2
          obtain ⟨r,hr⟩ : ∃ r,Mu.node c.us c.ls x y (x.held.z.getD i 0) = r:=⟨_,rfl⟩
          have HRn:=kp hr
          have hat : Mu.at_ c.us c.ls x fn.nodes i = r:=by
            unfold Mu.at_
            rw [List.getD_eq_getElem?_getD (l:=fn.nodes),hy]
            exact hr
          have HAt:=kp hat
          have hil : i < x.held.len:=by rw [HL.out];exact hlt
          have HIl:=kp hil
          have hfi : (i : Int) < (fn.len : Int):=by omega
          obtain rfl : adF = ad4:=by rw [HEF.out] at e4;exact Option.some.inj e4
          clear e4
          clear hy hyok hfit1 hfit2 hr hat hil
          go_wp2_with (first
            | ((with_reducible show Sl 10);go_must (refine j6 rfl 63 rfl (ndC ⟨0,0,0,0⟩) jZ ?_);intro gN w5 hgN hk5 hb5;have HGN:=kp hgN;have HK5:=kp hk5;have HW5:=kp (HBr.out.trans (hb5.mono hsr));have hs5:=HW5.out.size;have HKc5:=kp (HKc.out.below hb5 HKc.out.lt);have HKs5:=kp (HKs.out.below hb5 HKs.out.lt);clear hgN hk5 hb5 hy0 hy1 hy2 hy3)
            | ((with_reducible show Sn);go_must (refine j7 rfl 63 (.tmp 10) (.tmp 40) rfl gN (ndC y) rfl rfl _ _ HK5.out jE rfl (l0 y) ?_);intro w6 hk6 hg6 hz6
               have HK6:=kp hk6;have HW6:=kp (HW5.out.grown hg6 hs5 (fun k e => by cases e;have:=HGN.out;omega));have hs6:=HW6.out.size
               have HKc6:=kp (HKc5.out.grown hg6 (fun e => by cases e;have:=HGN.out;have:=HKc.out.lt;omega));have HKs6:=kp (HKs5.out.grown hg6 (fun e => by cases e;have:=HGN.out;have:=HKs.out.lt;omega))
               clear hk6 hg6 hz6)
            | ((with_reducible show Sl 41);go_must (refine j5 rfl 68 (.tmp 3) rfl g1 rfl _ (clC c) _ HKc6.out Tryd.underlying68 rfl lV ?_))
            | ((with_reducible show Sl 42);go_must (refine j5 rfl 54 (.tmp 8) rfl gS rfl _ (scC x) _ HKs6.out Tryd.underlying54 rfl lQ ?_))
            | ((with_reducible show Sl 44);go_must (refine j5 rfl 63 (.tmp 10) rfl gN rfl _ (ndC y) _ HK6.out Tryd.underlying63 rfl jE ?_))
            | (go_at_call 41;fail))
          have HWx:=kp (HW4.out.trans (HW6.out.mono hs4))
          refine (yV B c x y HY.out i w6 (HC.out.below (HWx.out.mono hB)) (HX.out.below (HWx.out.mono hB)) (Nat.le_trans hB HWx.out.size) HF1.out HF2.out HIl.out r HRn.out).mono ?_
          rintro e w7 ⟨rfl,hb7⟩
          have HW7:=kp (HW6.out.trans (hb7.mono hs6))
          have HWy:=kp (HWx.out.trans (hb7.mono HWx.out.size))
          clear hb7
          by_cases h0 : r = 0
          · have h0b : ((r : Int) != 0) = false:=by rw [h0];rfl
            have HR0:=kp h0
            clear h0
            go_wp2
            go_roundw
            case rel => exact ⟨i + 1,by omega,by go_num,(fun j hj => by
              by_cases e : j = i
              · subst e;rw [HAt.out];exact HR0.out
              · exact HAll.out j (by omega)),HW7.out⟩
            case measure => simp [intOf];omega
          · have h0b : ((r : Int) != 0) = true:=by simp;omega
            have HE : Kept (((i : Int),r) = (a,cc)):=kp (by
              rw [← HR.out,Mu.func_hit HNb.out HWt.out (by rw [HFn.out.nodes.1.len];exact hlt) HAll.out (by rw [HAt.out];exact h0),HAt.out])
            clear h0
            go_wp2
            go_ret2
            have h1:=HE.out
            simp only [Prod.mk.injEq] at h1
            rw [← h1.1,← h1.2]
            exact ⟨rfl,HWy.out⟩
        · have HE : Kept (((0 : Int),0) = (a,cc)):=kp (by
            rw [← HR.out]
            exact (Mu.func_none HNb.out HWt.out (fun j hj => HAll.out j (by rw [HFn.out.nodes.1.len] at hj;omega))).symm)
          have hge : fn.len ≤ i:=by omega
          clear hlt
          go_wp2
          go_ret2
          have h1:=HE.out
          simp only [Prod.mk.injEq] at h1
          rw [← h1.1,← h1.2]
          exact ⟨rfl,HW.out⟩
end Go.Proofs.YtlgaefenhfmjfaaDoor
