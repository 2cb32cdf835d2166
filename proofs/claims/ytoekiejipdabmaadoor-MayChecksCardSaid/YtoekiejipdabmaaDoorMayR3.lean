/- The document's Check, walked. -/
import Derived.Test.YtoekiejipdabmaaDoorMayR2
import Derived.Test.YtoekiejipdabmaaDoorMayP5
import Derived.Test.YtoekiejipdabmaaDoorPk10
namespace Go.Proofs.YtoekiejipdabmaaDoor
open Go.RowKit
set_option maxRecDepth 1000000 in
set_option maxHeartbeats 8000000 in
theorem L8 (B : Nat) (p : Pg) (w : World) (hp : p.Ok w B) (hB : B ≤ w.heap.size) (hs : Q.small p = true) (hf : Fine p) (bg : Nat) (hbg : BitsAre bg (fun f => f < p.len ∧ ∃ id,id < 32 ∧ MayDo p 5 5 f id)) (lA : Option Addr) (ll lc : Nat) (ls : List Sc) (hl : Secs w B lA ll ls) (hlc : ll ≤ lc) (hlm : lc ≤ maxLen) (r : Int × Int × Nat) (hr : Ma.check p bg ls = r) :
    Calls Tryd.prog 13 #[pgA p,.slice lA ll lc] w fun e w' => e = .returned (ftA r) ∧ Below w.heap.size w w':=by
  obtain ⟨ra,rb,rc⟩:=r
  have HP:=kp hp;have HS:=kp hs;have HL:=kp hl;have HR:=kp hr;have HFine:=kp hf;have HBg:=kp hbg
  have HLl:=kp hl.len_
  have HLen:=kp hp.row.len
  have hpc:=hp.lc;have hpm:=hp.cm
  have HLm:=kp hlm
  have hl16 : p.len ≤ 16:=by have h1:=hf.counts.f;have h2:=hp.row.len;omega
  have hl0 : 0 < p.len:=by have h1:=hf.counts.f;have h2:=hp.row.len;omega
  unfold maxLen at hpm hlm
  obtain ⟨sh,hsh⟩ : ∃ sh,Mu.shaped p ls = sh:=⟨_,rfl⟩
  have HSh:=kp hsh
  clear hp hs hl hr hf hsh hbg
  rw [jM]
  go_enter Tryd.func13,Tryd.ntmps13
  go_wp2_with (first
    | ((with_reducible refine j4 rfl 24 (.tmp 0) rfl (pgC p) rfl ?_);intro g1 w1 hg1 hk1 hw1;have HK1:=kp hk1;have HW1:=kp hw1;have hs1:=hw1.size;clear hg1 hk1 hw1)
    | ((with_reducible show Sl 4);go_must (refine j7 rfl 30 rfl (ftC 0 0 0) lT ?_);intro gF w2 hgF hk2 hb2;have HGF:=kp hgF;have HF2:=kp hk2;have HW2:=kp (HW1.out.trans (hb2.mono hs1));have hs2:=HW2.out.size;have HK2:=kp (HK1.out.below hb2 HK1.out.lt);have HGG : Kept (g1 < gF ∧ w.heap.size ≤ gF):=kp (by have h1:=HK1.out.lt;omega)
       clear hgF hk2 hb2)
    | ((with_reducible show Sl 8);go_must (refine j6 rfl 24 (.tmp 2) rfl g1 rfl _ (pgC p) _ HK2.out Tryd.underlying24 rfl jL ?_))
    | (go_at_call 24;fail))
  refine (QL B p w2 (HP.out.below (HW2.out.mono hB)) (Nat.le_trans hB hs2) lA ll lc ls (HL.out.below (HW2.out.mono hB)) hlc HLm.out sh HSh.out).mono ?_
  rintro e w4 ⟨rfl,hb4⟩
  have HW4:=kp (HW2.out.trans (hb4.mono hs2));have hs4:=HW4.out.size
  have HK4:=kp (HK2.out.below hb4 HK2.out.lt);have HF4:=kp (HF2.out.below hb4 HF2.out.lt)
  clear hb4
  cases sh with
  | false =>
    have HE : Kept (((-1 : Int),(-1 : Int),1) = (ra,rb,rc)):=kp (by rw [← HR.out];exact (Ma.check_shape HSh.out).symm)
    go_wp2_with (first
      | ((with_reducible show Sn);go_must (refine j5 rfl 30 (.tmp 4) (.tmp 12) rfl gF (ftC (-1) (-1) 1) rfl rfl _ _ HF4.out jT rfl (l5 _ _ _) ?_);intro wz hkz hgz hzz;have HKz:=kp hkz;have HBz:=kp (HW4.out.grown hgz HW4.out.size (fun k e => by cases e;exact HGG.out.2));clear hkz hgz hzz)
      | (((with_reducible show bodyPost _ _ _ _ _ _);exact bodyPost_ret (jZ (P:=Tryd.prog) (fn:=Tryd.f13) rfl _ _ gF 30 _ _ rfl HKz.out Tryd.underlying30 rfl jT) rfl ⟨by have h1:=HE.out;simp only [Prod.mk.injEq] at h1;rw [← h1.1,← h1.2.1,← h1.2.2];rfl,HBz.out⟩)))
  | true =>
    have hll : ll = p.len:=by rw [← HLl.out];exact (Mu.shaped_iff.1 HSh.out).1
    subst hll
    obtain ⟨adL,_,eL,hbL,_⟩:=HL.out.get hl0
    subst eL
    obtain ⟨adP,_,eP,hbP,_⟩:=HP.out.fn hl0
    have EP:=kp eP
    clear eP
    go_wp2
    go_loopw [5] (fun v5 wr => ∃ f : Nat,f ≤ p.len ∧ v5 = .int .i64 f ∧ (∀ g,g < f → (Ma.fun_ p bg ls g).2 = 0) ∧ Below w4.heap.size w4 wr) (fun v5 _ => p.len - (intOf v5).toNat)
    case atStart => exact ⟨0,by omega,rfl,fun g hg => by omega,Below.refl _ _⟩
    case round =>
      obtain ⟨f,hf,rfl,hall,hbr⟩:=hrel
      have HAll:=kp hall;have HB:=kp hbr
      have HV:=kp (HW4.out.trans (hbr.mono hs4))
      have hsV:=HV.out.size
      have HF:=kp (HF4.out.below hbr HF4.out.lt);have HK:=kp (HK4.out.below hbr HK4.out.lt)
      clear hall hbr
      by_cases hlt : f < p.len
      · obtain ⟨adP',fn,eP',_,hfn,hfok,hcf⟩:=HP.out.fn hlt
        obtain rfl : adP = adP':=by rw [EP.out] at eP';exact Option.some.inj eP'
        obtain ⟨adL',x,eL',_,hx,hxok,hx3,hx4,hx5⟩:=HL.out.get16 hlt
        obtain rfl : adL = adL':=Option.some.inj eL'
        have HX:=kp hx;have HFn:=kp hfn;have HCf:=kp hcf;have HX3:=kp hx3
        have hle:=hxok.le
        have hsa : x.live.len = fn.len:=by
          have h1:=(Mu.shaped_iff.1 HSh.out).2 f hlt
          rw [q9 hx hfn,Bool.and_eq_true,decide_eq_true_eq,decide_eq_true_eq] at h1
          exact h1.2
        have HSa:=kp hsa
        have hfn0 : 0 < fn.len:=by rw [← hfok.nodes.1.len];exact M.fine_len HFine.out hfn
        have HFnl:=kp hfok.nodes.1.len
        have hfc:=hfok.lc;have hfm:=hfok.cm
        have hvc:=hxok.live.lc;have hvm:=hxok.live.cm
        unfold maxLen at hfm hvm
        obtain ⟨adV,eV,hbV,hj0,hh0,hcV⟩:=hxok.live.get (k:=0) (by omega)
        obtain ⟨h0v,hh0e⟩ : ∃ q,x.live.z.getD 0 0 = q:=⟨_,rfl⟩
        rw [hh0e] at hh0 hcV
        rw [xS] at hcV
        rw [eV] at hx5
        have HX5:=kp hx5;have HV0:=kp hcV;have HHe:=kp hh0e
        obtain ⟨wt,hwt⟩ : ∃ q,S.within x.le h0v 32 = q:=⟨_,rfl⟩
        have HWt:=kp hwt
        have hvl : (0 : Int) < (x.live.len : Int):=by omega
        have hfi : (f : Int) < (p.len : Int):=by omega
        have HFu : Kept (Ma.fun_ p bg ls f = Ma.func bg p.s ls x fn.nodes):=kp (by unfold Ma.fun_;rw [zU HX.out,JI HFn.out])
        have HFits:=kp (zZ HFine.out HFn.out (rfl : p.len = p.len) (k:=x.live.len) (by rw [hsa,HFnl.out]))
        clear eP' eL' hx hfn hfok hcf hx3 hx4 hx5 hxok hj0 hcV hh0e hwt hsa eV
        have hx3:=(HV.out.cell (p:=⟨(adL.add (f * 6)).block,(adL.add (f * 6)).off + 3,none⟩) (by show (adL.add (f * 6)).block < _;rw [add_block];omega)).trans HX3.out
        have hx5:=(HV.out.cell (p:=⟨(adL.add (f * 6)).block,(adL.add (f * 6)).off + 5,none⟩) (by show (adL.add (f * 6)).block < _;rw [add_block];omega)).trans HX5.out
        have hV:=(HV.out.cell (p:=adV) (by omega)).trans HV0.out
        go_wp2
        refine wp_region_quiet_lit (by kernel_rfl) (by kernel_rfl) ?_
        iterate 13 (go_big_quiet_step (exact lO (qQ x.le h0v hle hh0 _ HWt.out _)))
        iterate 1 (go_big_quiet_step (fail))
        refine wpQuiet_nil ?_
        intro _ hw'
        obtain ⟨nq,hw''⟩:=hw'
        subst hw''
        obtain ⟨wc,hwc⟩ : ∃ q,wr.drewN nq = q:=⟨_,rfl⟩
        have hbc : Below wr.heap.size wr wc:=by rw [← hwc];exact below_drewN (Below.refl _ _) _
        rw [hwc]
        have HB:=kp (HB.out.trans (hbc.mono HB.out.size));have HF:=kp (HF.out.below hbc HF.out.lt);have HK:=kp (HK.out.below hbc HK.out.lt)
        have HV:=kp (HV.out.trans (hbc.mono HV.out.size))
        clear hwc hbc hx3 hx5 hV
        cases wt with
        | false =>
          have HE : Kept (((f : Int),(-1 : Int),6) = (ra,rb,rc)):=kp (by
            rw [← HR.out];exact (Ma.check_hit HSh.out hlt HAll.out (by rw [HFu.out];exact Ma.func_live (by rw [HHe.out];exact HWt.out)) (by omega)).symm)
          go_wp2_with (first
            | ((with_reducible show Sn);go_must (refine j5 rfl 30 (.tmp 4) (.tmp 34) rfl gF (ftC (f : Int) (-1) 6) rfl rfl _ _ HF.out jT rfl (l5 _ _ _) ?_);intro wz hkz hgz hzz;have HKz:=kp hkz;have HBz:=kp (HV.out.grown hgz HV.out.size (fun k e => by cases e;exact HGG.out.2));clear hkz hgz hzz)
            | (((with_reducible show bodyPost _ _ _ _ _ _);exact bodyPost_ret (jZ (P:=Tryd.prog) (fn:=Tryd.f13) rfl _ _ gF 30 _ _ rfl HKz.out Tryd.underlying30 rfl jT) rfl ⟨by have h1:=HE.out;simp only [Prod.mk.injEq] at h1;rw [← h1.1,← h1.2.1,← h1.2.2];rfl,HBz.out⟩)))
        | true =>
          have HWt2 : Kept (S.within x.le (x.live.z.getD 0 0) 32 = true):=kp (by rw [HHe.out];exact HWt.out)
          simp only [Bool.not_true]
          go_wp2
          go_loopw [6] (fun v6 wr => ∃ i : Nat,i ≤ fn.len ∧ v6 = .int .i64 i ∧ (∀ j,j < i → Ma.at_ bg p.s ls x fn.nodes j = 0) ∧ Below w4.heap.size w4 wr) (fun v6 _ => fn.len - (intOf v6).toNat)
          case atStart => exact ⟨0,by omega,rfl,fun j hj => by omega,HB.out⟩
          case round =>
            clear HB HF HK HV
            obtain ⟨i,hi,rfl,halli,hbi⟩:=hrel
            have HAlli:=kp halli;have HB:=kp hbi
            have HV:=kp (HW4.out.trans (hbi.mono hs4))
            have HF:=kp (HF4.out.below hbi HF4.out.lt);have HK:=kp (HK4.out.below hbi HK4.out.lt)
            obtain ⟨hc0,hc1,hc2,hc3⟩:=j8 HK.out
            rw [EP.out] at hc3
            have hcf:=(HV.out.cell (p:=adP.add f) (by rw [add_block];omega)).trans HCf.out
            have hsi:=hbi.size;have hsV:=HV.out.size
            clear halli hbi
            by_cases hil : i < fn.len
            · obtain ⟨y,hy⟩ : ∃ y,fn.nodes[i]? = some y:=⟨_,List.getElem?_eq_getElem (by rw [HFnl.out];exact hil)⟩
              have HY:=kp hy
              obtain ⟨hfit1,hfit2⟩:=HFits.out i y hy
              have HF1:=kp hfit1;have HF2:=kp hfit2
              obtain ⟨r,hr⟩ : ∃ r,Ma.node bg p.s ls x y (x.live.z.getD i 0) = r:=⟨_,rfl⟩
              have HRn:=kp hr
              have HAt : Kept (Ma.at_ bg p.s ls x fn.nodes i = r):=kp (by
                unfold Ma.at_
                rw [List.getD_eq_getElem?_getD (l:=fn.nodes),HY.out]
                exact HRn.out)
              clear hy hfit1 hfit2 hr
              go_wp2_with (first
                | ((with_reducible show Sl 45);go_must (refine j6 rfl 24 (.tmp 2) rfl g1 rfl _ (pgC p) _ HK.out Tryd.underlying24 rfl jL ?_))
                | (go_at_call 26;fail))
              refine (QM B p wr (HP.out.below (HV.out.mono hB)) (Nat.le_trans hB hsV) HS.out (by omega) (some adL) lc ls (HL.out.below (HV.out.mono hB)) f i x fn y HX.out HFn.out HY.out HSa.out HF1.out HF2.out bg HBg.out r HRn.out).mono ?_
              rintro e w7 ⟨rfl,hb7⟩
              have HB7:=kp (HB.out.trans (hb7.mono hsi));have HV7:=kp (HV.out.trans (hb7.mono hsV));have HF7:=kp (HF.out.below hb7 HF.out.lt)
              clear hb7 hc0 hc1 hc2 hc3 hcf
              by_cases h0 : r = 0
              · have h0b : ((r : Int) != 0) = false:=by rw [h0];rfl
                have HR0:=kp h0
                clear h0
                go_wp2
                go_roundw
                case rel => exact ⟨i + 1,by omega,by go_num,(fun j hj => by
                  by_cases e : j = i
                  · subst e;rw [HAt.out];exact HR0.out
                  · exact HAlli.out j (by omega)),HB7.out⟩
                case measure => simp [intOf];omega
              · have h0b : ((r : Int) != 0) = true:=by simp;omega
                have HE : Kept (((f : Int),(i : Int),r) = (ra,rb,rc)):=kp (by
                  rw [← HR.out]
                  exact (Ma.check_hit HSh.out hlt HAll.out (by rw [HFu.out,Ma.func_hit HWt2.out (by rw [HFnl.out];exact hil) HAlli.out (by rw [HAt.out];exact h0),HAt.out]) h0).symm)
                clear h0
                go_wp2_with (first
                  | ((with_reducible show Sn);go_must (refine j5 rfl 30 (.tmp 4) (.tmp 55) rfl gF (ftC (f : Int) (i : Int) (r : Int)) rfl rfl _ _ HF7.out jT rfl (l5 _ _ _) ?_);intro wz hkz hgz hzz;have HKz:=kp hkz;have HBz:=kp (HV7.out.grown hgz HV7.out.size (fun k e => by cases e;exact HGG.out.2));clear hkz hgz hzz)
                  | (((with_reducible show bodyPost _ _ _ _ _ _);exact bodyPost_ret (jZ (P:=Tryd.prog) (fn:=Tryd.f13) rfl _ _ gF 30 _ _ rfl HKz.out Tryd.underlying30 rfl jT) rfl ⟨by have h1:=HE.out;simp only [Prod.mk.injEq] at h1;rw [← h1.1,← h1.2.1,← h1.2.2];rfl,HBz.out⟩)))
            · have HZ : Kept ((Ma.fun_ p bg ls f).2 = 0):=kp (by
                rw [HFu.out,Ma.func_none HWt2.out (fun j hj => HAlli.out j (by rw [HFnl.out] at hj;omega))])
              have hge : fn.len ≤ i:=by omega
              clear hil
              go_wp2
              go_roundw
              case rel => exact ⟨f + 1,by omega,by go_num,(fun g hg => by
                by_cases e : g = f
                · subst e;exact HZ.out
                · exact HAll.out g (by omega)),HB.out⟩
              case measure => simp [intOf];omega
      · have HE : Kept (((0 : Int),(0 : Int),0) = (ra,rb,rc)):=kp (by
          rw [← HR.out];exact (Ma.check_none HSh.out fun g hg => HAll.out g (by omega)).symm)
        have hge : p.len ≤ f:=by omega
        clear hlt
        go_wp2_with (first
          | ((with_reducible show Sn);go_must (refine j5 rfl 30 (.tmp 4) (.tmp 56) rfl gF (ftC 0 0 0) rfl rfl _ _ HF.out jT rfl (l5 _ _ _) ?_);intro wz hkz hgz hzz;have HKz:=kp hkz;have HBz:=kp (HV.out.grown hgz HV.out.size (fun k e => by cases e;exact HGG.out.2));clear hkz hgz hzz)
          | (((with_reducible show bodyPost _ _ _ _ _ _);exact bodyPost_ret (jZ (P:=Tryd.prog) (fn:=Tryd.f13) rfl _ _ gF 30 _ _ rfl HKz.out Tryd.underlying30 rfl jT) rfl ⟨by have h1:=HE.out;simp only [Prod.mk.injEq] at h1;rw [← h1.1,← h1.2.1,← h1.2.2];rfl,HBz.out⟩)))
end Go.Proofs.YtoekiejipdabmaaDoor
