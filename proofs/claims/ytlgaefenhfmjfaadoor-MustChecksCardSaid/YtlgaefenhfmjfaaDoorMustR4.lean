/- The document's Node, walked. -/
import Derived.Test.YtlgaefenhfmjfaaDoorPk12
import Derived.Test.YtlgaefenhfmjfaaDoorMustP4
import Derived.Test.YtlgaefenhfmjfaaDoorPk11
namespace Go.Proofs.YtlgaefenhfmjfaaDoor
open Go.RowKit
set_option maxRecDepth 1000000 in
set_option maxHeartbeats 8000000 in
theorem vM (B : Nat) (p : Pg) (w : World) (hp : p.Ok w B) (hB : B ≤ w.heap.size) (hs : Q.small p = true) (h32 : p.len ≤ 32) (lA : Option Addr) (lc : Nat) (ls : List Sc) (hl : Secs w B lA p.len ls)
    (f i : Nat) (s : Sc) (fn : Fn) (n : Nd) (hls : ls[f]? = some s) (hfn : p.fns[f]? = some fn) (hnd : fn.nodes[i]? = some n) (hsl : s.held.len = fn.len) (hfit : n.kind = 7 → ∃ j : Nat,n.arg = (j : Int) ∧ j < p.len) (hsf : SuccFit s.held.len n)
    (r : Nat) (hr : Mu.node (killL p 4 4) ls s n (s.held.z.getD i 0) = r) :
    Calls Tryd.prog 26 #[pgA p,.slice lA p.len lc,.int .i64 (f : Int),.int .i64 (i : Int)] w fun e w' => e = .returned (.int .i64 (r : Int)) ∧ Below w.heap.size w w':=by
  have hfl : f < p.len:=by rw [← hl.len_];exact (List.getElem?_eq_some_iff.1 hls).1
  obtain ⟨adL,s',eL,hbL,hs',hsok,hj0,hS1,hS2,hj5⟩:=hl.get hfl
  clear hj0 hj5
  obtain rfl : s = s':=by rw [hls] at hs';exact Option.some.inj hs'
  obtain ⟨adP,fn',eP,hbP,hfn',hfok,hcf⟩:=hp.fn hfl
  obtain rfl : fn = fn':=by rw [hfn] at hfn';exact Option.some.inj hfn'
  have hil : i < fn.len:=by rw [← hfok.nodes.1.len];exact (List.getElem?_eq_some_iff.1 hnd).1
  obtain ⟨adF,n',eF,hbF,hnd',hnok,hN0,hN1,hN2,hN3⟩:=hfok.nodes.get hil
  obtain rfl : n = n':=by rw [hnd] at hnd';exact Option.some.inj hnd'
  obtain ⟨adH,eH,hbH,hj0,hh,hHc⟩:=hsok.held.get (k:=i) (by omega)
  clear hj0
  obtain ⟨h,hhe⟩ : ∃ h,s.held.z.getD i 0 = h:=⟨_,rfl⟩
  rw [hhe] at hh hHc hr
  rw [eH] at hS2
  rw [eF] at hcf
  have HP:=kp hp;have HL:=kp hl;have HS:=kp hs;have HR:=kp hr;have HFit:=kp hfit;have HSf:=kp hsf;have HNok:=kp hnok;have HSok:=kp hsok;have EH:=kp eH
  have HS1:=kp hS1;have HS2:=kp hS2;have HCf:=kp hcf;have HN0:=kp hN0;have HN1:=kp hN1;have HN2:=kp hN2;have HN3:=kp hN3;have HHc:=kp hHc
  have EP:=kp eP
  have hpc:=hp.lc;have hpm:=hp.cm
  have hfc:=hfok.lc;have hfm:=hfok.cm
  have hhc:=hsok.held.lc;have hhm:=hsok.held.cm
  have hex:=hsok.ex
  unfold maxLen at hpm hfm hhm
  obtain ⟨nl,hnl⟩ : ∃ nl,(Q.succ n).length = nl:=⟨_,rfl⟩
  have HNl:=kp hnl
  have hnl2 : nl ≤ 2:=by rw [← hnl];unfold Q.succ;split <;> (try split) <;> simp
  have hfi : (f : Int) < (p.len : Int):=by omega
  have hii : (i : Int) < (fn.len : Int):=by omega
  have hih : (i : Int) < (s.held.len : Int):=by omega
  subst eL
  have HSl:=kp hsl
  clear hp hl hs hr hfit hsf hnok hsok eH eP eF hS1 hS2 hcf hN0 hN1 hN2 hN3 hHc hnl hs' hfn' hnd' hfok hhe hls hfn hnd hsl
  rw [jL]
  go_enter Tryd.func26,Tryd.ntmps26
  by_cases h7 : n.kind = 7
  · have hk7 : (n.kind == 7) = true:=by simpa using h7
    have hk9 : (n.kind == 9) = false:=by rw [h7];rfl
    obtain ⟨ka,hka,hkl⟩:=HFit.out h7
    obtain ⟨_,x,e0,hb0,hx,hxok,hd0,hj1,hj2,hj5⟩:=HL.out.get hkl
    cases e0
    clear hj1 hj2 hj5
    have HCd:=kp hd0
    have hx32:=hxok.en
    have hx2 : ls.getD ka default = x:=by rw [List.getD_eq_getElem?_getD,hx];rfl
    obtain ⟨r5,hr5⟩ : ∃ r5,S.within x.en h 32 = r5:=⟨_,rfl⟩
    have HR5:=kp hr5
    have hki : (ka : Int) < (p.len : Int):=by omega
    have HKa2:=kp hka
    cases r5 with
    | false =>
      have HE : Kept (5 = r):=kp (by rw [← HR.out];exact (Mu.node_call h7 (by rw [hka,Int.toNat_natCast,hx2];exact hr5)).symm)
      clear h7 hka hx hxok hx2 hr5 hd0
      go_wp2_with (first
        | ((with_reducible refine j4 rfl 24 (.tmp 0) rfl (pgC p) rfl ?_);intro g1 w1 hg1 hk1 hw1;have HW1:=kp hw1;have HK1:=kp hk1;have hs1:=hw1.size;obtain ⟨hc0,hc1,hc2,hc3⟩:=j8 hk1;rw [EP.out] at hc3
           have hcf:=(HW1.out.cell (p:=adP.add f) (by rw [add_block];omega)).trans HCf.out;have hn0:=(HW1.out.cell (p:=adF.add (i * 4)) (by rw [add_block];omega)).trans HN0.out;have hn1:=(HW1.out.cell (p:=⟨(adF.add (i * 4)).block,(adF.add (i * 4)).off + 1,none⟩) (by show (adF.add (i * 4)).block < _;rw [add_block];omega)).trans HN1.out;have hn2:=(HW1.out.cell (p:=⟨(adF.add (i * 4)).block,(adF.add (i * 4)).off + 2,none⟩) (by show (adF.add (i * 4)).block < _;rw [add_block];omega)).trans HN2.out;have hn3:=(HW1.out.cell (p:=⟨(adF.add (i * 4)).block,(adF.add (i * 4)).off + 3,none⟩) (by show (adF.add (i * 4)).block < _;rw [add_block];omega)).trans HN3.out
           clear hg1 hk1 hw1)
        | ((with_reducible show Sl 9);go_must (refine j7 rfl 63 rfl (ndC ⟨0,0,0,0⟩) qR ?_);intro gN w2 hgN hk2 hb2;have HGN:=kp hgN;have HK2:=kp hk2;have HW2:=kp (HW1.out.trans (hb2.mono hs1));have hs2:=HW2.out.size;have HKp:=kp (HK1.out.below hb2 HK1.out.lt);clear hgN hk2 hb2 hc0 hc1 hc2 hc3 hcf hn0 hn1 hn2 hn3)
        | ((with_reducible show Sn);go_must (refine j5 rfl 63 (.tmp 9) (.tmp 21) rfl gN (ndC n) rfl rfl _ _ HK2.out jD rfl (jI n) ?_);intro w3 hk3 hg3 hz3
           have HK3:=kp hk3;have HW3:=kp (HW2.out.grown hg3 hs2 (fun k e => by cases e;have:=HGN.out;omega));have hs3:=HW3.out.size
           have HK3p:=kp (HKp.out.grown hg3 (fun e => by cases e;have:=HGN.out;have:=HK1.out.lt;omega))
           obtain ⟨hm0,hm1,hm2,hm3⟩:=j9 hk3
           have hs1_:=(HW3.out.cell (p:=⟨(adL.add (f * 6)).block,(adL.add (f * 6)).off + 1,none⟩) (by show (adL.add (f * 6)).block < _;rw [add_block];omega)).trans HS1.out;have hs2_:=(HW3.out.cell (p:=⟨(adL.add (f * 6)).block,(adL.add (f * 6)).off + 2,none⟩) (by show (adL.add (f * 6)).block < _;rw [add_block];omega)).trans HS2.out;have hh_:=(HW3.out.cell (p:=adH.add i) (by rw [add_block];omega)).trans HHc.out
           rw [HKa2.out] at hm1;have hcd:=(HW3.out.cell (p:=adL.add (ka * 6)) (by rw [add_block];omega)).trans HCd.out
           clear hk3 hg3 hz3)
        | (go_at_call 25;go_must (refine (lO x.en h hx32 hh _ HR5.out _).mono ?_);rintro e w9 ⟨rfl,rfl⟩))
      go_ret
      exact ⟨by rw [← HE.out];rfl,HW3.out⟩
    | true =>
      have HPast : Kept (Mu.Past ls s n h):=kp ⟨fun h1 => (by have h2:=h1.2;rw [hka,Int.toNat_natCast,hx2,hr5] at h2;cases h2),fun h1 => (by have h2:=h1.1;omega)⟩
      clear h7 hka hx hxok hx2 hr5 hd0
      go_wp2_with (first
        | ((with_reducible refine j4 rfl 24 (.tmp 0) rfl (pgC p) rfl ?_);intro g1 w1 hg1 hk1 hw1;have HW1:=kp hw1;have HK1:=kp hk1;have hs1:=hw1.size;obtain ⟨hc0,hc1,hc2,hc3⟩:=j8 hk1;rw [EP.out] at hc3
           have hcf:=(HW1.out.cell (p:=adP.add f) (by rw [add_block];omega)).trans HCf.out;have hn0:=(HW1.out.cell (p:=adF.add (i * 4)) (by rw [add_block];omega)).trans HN0.out;have hn1:=(HW1.out.cell (p:=⟨(adF.add (i * 4)).block,(adF.add (i * 4)).off + 1,none⟩) (by show (adF.add (i * 4)).block < _;rw [add_block];omega)).trans HN1.out;have hn2:=(HW1.out.cell (p:=⟨(adF.add (i * 4)).block,(adF.add (i * 4)).off + 2,none⟩) (by show (adF.add (i * 4)).block < _;rw [add_block];omega)).trans HN2.out;have hn3:=(HW1.out.cell (p:=⟨(adF.add (i * 4)).block,(adF.add (i * 4)).off + 3,none⟩) (by show (adF.add (i * 4)).block < _;rw [add_block];omega)).trans HN3.out
           clear hg1 hk1 hw1)
        | ((with_reducible show Sl 9);go_must (refine j7 rfl 63 rfl (ndC ⟨0,0,0,0⟩) qR ?_);intro gN w2 hgN hk2 hb2;have HGN:=kp hgN;have HK2:=kp hk2;have HW2:=kp (HW1.out.trans (hb2.mono hs1));have hs2:=HW2.out.size;have HKp:=kp (HK1.out.below hb2 HK1.out.lt);clear hgN hk2 hb2 hc0 hc1 hc2 hc3 hcf hn0 hn1 hn2 hn3)
        | ((with_reducible show Sn);go_must (refine j5 rfl 63 (.tmp 9) (.tmp 21) rfl gN (ndC n) rfl rfl _ _ HK2.out jD rfl (jI n) ?_);intro w3 hk3 hg3 hz3
           have HK3:=kp hk3;have HW3:=kp (HW2.out.grown hg3 hs2 (fun k e => by cases e;have:=HGN.out;omega));have hs3:=HW3.out.size
           have HK3p:=kp (HKp.out.grown hg3 (fun e => by cases e;have:=HGN.out;have:=HK1.out.lt;omega))
           obtain ⟨hm0,hm1,hm2,hm3⟩:=j9 hk3
           have hs1_:=(HW3.out.cell (p:=⟨(adL.add (f * 6)).block,(adL.add (f * 6)).off + 1,none⟩) (by show (adL.add (f * 6)).block < _;rw [add_block];omega)).trans HS1.out;have hs2_:=(HW3.out.cell (p:=⟨(adL.add (f * 6)).block,(adL.add (f * 6)).off + 2,none⟩) (by show (adL.add (f * 6)).block < _;rw [add_block];omega)).trans HS2.out;have hh_:=(HW3.out.cell (p:=adH.add i) (by rw [add_block];omega)).trans HHc.out
           rw [HKa2.out] at hm1;have hcd:=(HW3.out.cell (p:=adL.add (ka * 6)) (by rw [add_block];omega)).trans HCd.out
           clear hk3 hg3 hz3)
        | (go_at_call 25;go_must (refine (lO x.en h hx32 hh _ HR5.out _).mono ?_);rintro e w9 ⟨rfl,rfl⟩)
        | ((with_reducible show Sl 57);go_must (refine j6 rfl 63 (.tmp 9) rfl gN rfl _ (ndC n) _ HK3.out Tryd.underlying63 rfl jD ?_))
        | (go_at_call 46;fail))
      refine (vK n _).mono ?_
      rintro e w5 ⟨v4,rfl,hown4,hb4⟩
      obtain ⟨A4,c4,rfl,hcl4,hcm4,hr4⟩:=hown4.readsN HNl.out
      have HR4:=kp hr4;have HW5:=kp (HW3.out.trans (hb4.mono hs3));have hs5:=HW5.out.size
      have HKp5:=kp (HK3p.out.below hb4 HK3p.out.lt);have HKn5:=kp (HK3.out.below hb4 HK3.out.lt)
      unfold maxLen at hcm4
      clear hown4 hr4 hb4 hm0 hm1 hm2 hm3 hs1_ hs2_ hh_ hcd
      go_wp2
      go_loopw [12] (fun v12 wr => ∃ k : Nat,k ≤ nl ∧ v12 = .int .i64 k ∧ (∀ to ∈ (Q.succ n).take k,Mu.badTo (killL p 4 4) ls s n h to = false) ∧ Below w5.heap.size w5 wr) (fun v12 _ => nl - (intOf v12).toNat)
      case atStart => exact ⟨0,by omega,rfl,fun to ht => by simp at ht,Below.refl _ _⟩
      case round =>
        obtain ⟨k,hk,rfl,hall,hbo⟩:=hrel
        have HAll:=kp hall;have HBo0:=kp hbo
        have HWo0:=kp (HW5.out.trans (hbo.mono hs5))
        clear hall hbo
        by_cases hlt : k < nl
        · obtain ⟨ad4,to,rfl,hb4,hto,hj0⟩:=HR4.out.get hlt
          clear hj0
          have HTo:=kp hto
          have htm:=List.mem_of_getElem? hto
          obtain ⟨t,ht,htl⟩:=HSf.out to htm
          subst ht
          have HTm:=kp htm
          obtain ⟨ad5,e5,hb5,hj0,hhv,hc5⟩:=HSok.out.held.get htl
          clear hj0
          obtain ⟨hv,hhve⟩ : ∃ hv,s.held.z.getD t 0 = hv:=⟨_,rfl⟩
          rw [hhve] at hhv hc5
          obtain rfl : adH = ad5:=by rw [EH.out] at e5;exact Option.some.inj e5
          have HC50:=kp hc5;have HHv : Kept (s.held.z.getD t 0 = hv):=kp hhve
          obtain ⟨bq,hbqe⟩ : ∃ bq,Mu.behind (killL p 4 4) ls n h = bq:=⟨_,rfl⟩
          have HBqe:=kp hbqe
          have hti : (t : Int) < (s.held.len : Int):=by omega
          have hki : (k : Int) < (nl : Int):=by omega
          clear hto htm hhve hc5 hbqe e5
          go_wp2
          go_loopw [13] (fun v13 wr => ∃ lk : Nat,lk ≤ 32 ∧ v13 = .int .i64 lk ∧ (∀ j,j < lk → hv.testBit j = true → bq.testBit j = true) ∧ Below w5.heap.size w5 wr) (fun v13 _ => 32 - (intOf v13).toNat)
          case atStart => exact ⟨0,by omega,rfl,fun j hj => by omega,HBo0.out⟩
          case round =>
            clear HBo0 HWo0
            obtain ⟨lk,hlk32,rfl,hall2,hbr⟩:=hrel
            have HAll2:=kp hall2;have HBr:=kp hbr
            have HWr:=kp (HW5.out.trans (hbr.mono hs5))
            have hsr:=hbr.size;have hsWr:=HWr.out.size
            have HKpr:=kp (HKp5.out.below hbr HKp5.out.lt);have HKnr:=kp (HKn5.out.below hbr HKn5.out.lt)
            by_cases hlk : lk < 32
            · have HS2r:=kp ((HWr.out.cell (p:=⟨(adL.add (f * 6)).block,(adL.add (f * 6)).off + 2,none⟩) (by show (adL.add (f * 6)).block < _;rw [add_block];omega)).trans HS2.out)
              have HC5:=kp ((HWr.out.cell (p:=adH.add t) (by rw [add_block];omega)).trans HC50.out)
              have HCt : Kept (wr.cell? (ad4.add k) = some (.int .i64 (t : Int))):=kp (by
                obtain ⟨ad',y,e',_,hy',hc'⟩:=(HR4.out.below hbr).get hlt
                cases e'
                rw [HTo.out] at hy';cases hy'
                exact hc')
              have had4 : ad4.block < wr.heap.size:=by omega
              have hlkb : decide ((lk : Int) < (32 : Int)) = true:=by simp;omega
              obtain ⟨fh,hfh⟩ : ∃ q,hv.testBit lk = q:=⟨_,rfl⟩
              have HFhb:=kp hfh
              have HFh : Kept (S.has hv (lk : Int) = fh):=kp (by rw [S.has_in _ _ (by omega)];exact hfh)
              obtain ⟨hb,hhb⟩ : ∃ q,h.testBit lk = q:=⟨_,rfl⟩
              have HHbb:=kp hhb
              have HHb : Kept (S.has h (lk : Int) = hb):=kp (by rw [S.has_in _ _ (by omega)];exact hhb)
              obtain ⟨bb,hbb⟩ : ∃ q,bq.testBit lk = q:=⟨_,rfl⟩
              have HBqb:=kp hbb
              have HBb : Kept ((Mu.behind (killL p 4 4) ls n h).testBit lk = bb):=kp (by rw [HBqe.out];exact hbb)
              clear hall2 hbr hfh hhb hbb
              cases fh with
              | false =>
                go_wp2
                have hq1:=HS2r.out;have hq2:=HC5.out;have hq3:=HCt.out
                refine wp_region_quiet_lit (by kernel_rfl) (by kernel_rfl) ?_
                iterate 13 (go_big_quiet_step (exact lE (l6 hv hhv (lk : Int) ⟨by omega,by omega⟩ false HFh.out _)))
                iterate 11 (go_big_quiet_step (fail))
                refine wpQuiet_nil ?_
                intro _ hw'
                obtain ⟨nq,hw''⟩:=hw'
                subst hw''
                obtain ⟨W,hWe⟩ : ∃ x,wr.drewN nq = x:=⟨_,rfl⟩
                have hW : Below wr.heap.size wr W:=by rw [← hWe];exact below_drewN (Below.refl _ _) _
                rw [hWe]
                clear hWe hq1 hq2 hq3
                have HBo:=kp (HBr.out.trans (hW.mono HBr.out.size))
                have HWo:=kp (HWr.out.trans (hW.mono HWr.out.size))
                clear hW
                have HThis : Kept (hv.testBit lk = true → bq.testBit lk = true):=kp (fun e => by rw [HFhb.out] at e;cases e)
                go_wp2
                go_roundw
                case rel => exact ⟨lk + 1,by omega,by go_num,(fun j hj hb1 => by
                  by_cases e : j = lk
                  · subst e;exact HThis.out hb1
                  · exact HAll2.out j (by omega) hb1),HBo.out⟩
                case measure => simp [intOf];omega        | true =>
                go_wp2
                apply jU (.is _ :: .is _ :: .is _ :: .is _ :: .is (.slice (some adH) s.held.len s.held.cap) :: .is _ :: .is _ :: .is _ :: .is (.int .i64 (t : Int)) :: .is _ :: .is (.int .u32 (hv : Int)) :: .is _ :: .is (.bool true) :: .is _ :: .is (pgA p) :: .is _ :: .is (ndA n) :: .is _ :: .is _ :: .is _ :: .is (.bool hb) :: .is (.bool bb) :: .is _ :: .is _ :: [])
                  [[],[],[(0,69),(1,70)],[(2,71)],[(3,72)],[],[],[(5,74),(6,75)],[(7,76)],[(4,73),(8,77)],[(9,78)],[],[(10,79),(11,80)],[(12,81)],[(13,82)],[(13,82)],[(13,82)],[(13,82)],[(13,82)],[(13,82)],[(18,87),(19,88),(13,82)],[(14,83),(15,84),(16,85),(17,86),(20,89),(13,82)],[(21,90),(13,82)],[(13,82),(22,91)]]
                  [(0,69),(1,70),(2,71),(3,72),(4,73),(5,74),(6,75),(7,76),(8,77),(9,78),(10,79),(11,80),(12,81),(13,82),(14,83),(15,84),(16,85),(17,86),(18,87),(19,88),(20,89),(21,90),(22,91),(23,92)] (by kernel_rfl) (by kernel_rfl)
                case hob =>
                  refine ⟨?o0,?o1,?o2,?o3,?o4,?o5,?o6,?o7,?o8,?o9,?o10,?o11,?o12,?o13,?o14,?o15,?o16,?o17,?o18,?o19,?o20,?o21,?o22,?o23,trivial⟩
                  case o0 => intro W hW;change wpList _ _ _ _ _ _;go_wp2;exact j3 rfl rfl rfl
                  case o1 => intro W hW;change wpList _ _ _ _ _ _;go_wp2;exact j3 rfl rfl rfl
                  case o2 => intro W hW;rintro _ rfl;rintro _ rfl;change wpList _ _ _ _ _ _;go_wp2;exact j3 rfl rfl rfl
                  case o3 => intro W hW;rintro _ rfl;change wpList _ _ _ _ _ _;go_wp2;exact j3 rfl rfl rfl
                  case o4 =>
                    intro W hW;rintro _ rfl;change wpList _ _ _ _ _ _
                    have hq:=(hW.cell (p:=⟨(adL.add (f * 6)).block,(adL.add (f * 6)).off + 2,none⟩) (by show (adL.add (f * 6)).block < _;rw [add_block];omega)).trans HS2r.out
                    go_wp2;exact j3 rfl rfl rfl
                  case o5 => intro W hW;change wpList _ _ _ _ _ _;go_wp2;exact j3 rfl rfl rfl
                  case o6 => intro W hW;change wpList _ _ _ _ _ _;go_wp2;exact j3 rfl rfl rfl
                  case o7 => intro W hW;rintro _ rfl;rintro _ rfl;change wpList _ _ _ _ _ _;go_wp2;exact j3 rfl rfl rfl
                  case o8 =>
                    intro W hW;rintro _ rfl;change wpList _ _ _ _ _ _
                    have hq:=(hW.cell (p:=ad4.add k) (by rw [add_block];omega)).trans HCt.out
                    go_wp2;exact j3 rfl rfl rfl
                  case o9 => intro W hW;rintro _ rfl;rintro _ rfl;change wpList _ _ _ _ _ _;go_wp2;exact j3 rfl rfl rfl
                  case o10 =>
                    intro W hW;rintro _ rfl;change wpList _ _ _ _ _ _
                    have hq:=(hW.cell (p:=adH.add t) (by rw [add_block];omega)).trans HC5.out
                    go_wp2;exact j3 rfl rfl rfl
                  case o11 => intro W hW;change wpList _ _ _ _ _ _;go_wp2;exact j3 rfl rfl rfl
                  case o12 =>
                    intro W hW;rintro _ rfl;rintro _ rfl;change wpList _ _ _ _ _ _
                    go_wp2_with fail
                    refine (l6 hv hhv (lk : Int) ⟨by omega,by omega⟩ true HFh.out W).mono ?_
                    rintro e w2 ⟨rfl,rfl⟩
                    go_wp2
                    exact j3 rfl rfl rfl
                  case o13 => intro W hW;rintro _ rfl;change wpList _ _ _ _ _ _;go_wp2;exact j3 rfl rfl rfl
                  case o14 =>
                    intro W hW;rintro _ rfl;change wpList _ _ _ _ _ _
                    go_must (refine jT rfl 24 (.tmp 4) rfl g1 rfl _ (pgC p) _ (HKpr.out.below hW HKpr.out.lt) Tryd.underlying24 rfl jH ?_)
                    go_wp2;exact j3 rfl rfl rfl
                  case o15 => intro W hW;rintro _ rfl;change wpList _ _ _ _ _ _;go_wp2;exact j3 rfl rfl rfl
                  case o16 =>
                    intro W hW;rintro _ rfl;change wpList _ _ _ _ _ _
                    go_must (refine jT rfl 63 (.tmp 9) rfl gN rfl _ (ndC n) _ (HKnr.out.below hW HKnr.out.lt) Tryd.underlying63 rfl jD ?_)
                    go_wp2;exact j3 rfl rfl rfl
                  case o17 => intro W hW;rintro _ rfl;change wpList _ _ _ _ _ _;go_wp2;exact j3 rfl rfl rfl
                  case o18 => intro W hW;rintro _ rfl;change wpList _ _ _ _ _ _;go_wp2;exact j3 rfl rfl rfl
                  case o19 => intro W hW;rintro _ rfl;change wpList _ _ _ _ _ _;go_wp2;exact j3 rfl rfl rfl
                  case o20 =>
                    intro W hW;rintro _ rfl;rintro _ rfl;rintro _ rfl;change wpList _ _ _ _ _ _
                    go_wp2_with fail
                    refine (l6 h hh (lk : Int) ⟨by omega,by omega⟩ hb HHb.out W).mono ?_
                    rintro e w2 ⟨rfl,rfl⟩
                    go_wp2
                    exact j3 rfl rfl rfl
                  case o21 =>
                    intro W hW;rintro _ rfl;rintro _ rfl;rintro _ rfl;rintro _ rfl;rintro _ rfl;rintro _ rfl;change wpList _ _ _ _ _ _
                    have hWw : Below w.heap.size w W:=HWr.out.trans (hW.mono HWr.out.size)
                    go_wp2_with fail
                    refine (vN B p W (HP.out.below (hWw.mono hB)) (Nat.le_trans hB hWw.size) HS.out h32 (some adL) lc ls (HL.out.below (hWw.mono hB)) n HNok.out HFit.out h lk hlk hb HHbb.out bb HBb.out).mono ?_
                    rintro e w2 ⟨rfl,hb2⟩
                    have HBq:=kp hb2;clear hb2
                    go_wp2
                    exact jE rfl rfl rfl HBq.out rfl
                  case o22 => intro W hW;rintro _ rfl;rintro _ rfl;change wpList _ _ _ _ _ _;go_wp2;exact j3 rfl rfl rfl
                  case o23 => intro W hW;rintro _ rfl;rintro _ rfl;change wpList _ _ _ _ _ _;go_wp2;exact j3 rfl rfl rfl
                case hend =>
                  intro W hW;rintro _ rfl;rintro _ rfl;rintro _ rfl;rintro _ rfl;rintro _ rfl;rintro _ rfl;rintro _ rfl;rintro _ rfl;rintro _ rfl;rintro _ rfl;rintro _ rfl;rintro _ rfl;rintro _ rfl;rintro _ rfl;rintro _ rfl;rintro _ rfl;rintro _ rfl;rintro _ rfl;rintro _ rfl;rintro _ rfl;rintro _ rfl;rintro _ rfl;rintro _ rfl;rintro _ rfl
                  simp only [given,jK,List.set]
                  have HBo:=kp (HBr.out.trans (hW.mono HBr.out.size))
                  have HWo:=kp (HWr.out.trans (hW.mono HWr.out.size))
                  clear hW
                  cases bb with
                  | false =>
                    have HE : Kept (3 = r):=kp (by
                      rw [← HR.out]
                      refine (Mu.node_bad HPast.out HTm.out ?_).symm
                      unfold Mu.badTo
                      rw [Int.toNat_natCast,HHv.out,HBqe.out,Bool.not_eq_true']
                      cases e : S.within hv bq 32 with
                      | false => rfl
                      | true =>
                        have h1:=(S.within_iff _ _).1 e lk hlk HFhb.out
                        rw [HBqb.out] at h1;cases h1)
                    go_wp2
                    go_ret
                    exact ⟨by rw [← HE.out];rfl,HWo.out⟩
                  | true =>
                    have HThis : Kept (hv.testBit lk = true → bq.testBit lk = true):=kp (fun _ => HBqb.out)
                    go_wp2
                    go_roundw
                    case rel => exact ⟨lk + 1,by omega,by go_num,(fun j hj hb1 => by
                      by_cases e : j = lk
                      · subst e;exact HThis.out hb1
                      · exact HAll2.out j (by omega) hb1),HBo.out⟩
                    case measure => simp [intOf];omega
            · have hlkb : decide ((lk : Int) < (32 : Int)) = false:=by simp;omega
              have HOk : Kept (Mu.badTo (killL p 4 4) ls s n h (t : Int) = false):=kp (by
                unfold Mu.badTo
                rw [Int.toNat_natCast,HHv.out,HBqe.out,(S.within_iff _ _).2 fun j hj => HAll2.out j (by omega)];rfl)
              clear hlk hall2 hbr
              go_wp2
              go_roundw
              case rel => exact ⟨k + 1,by omega,by go_num,(fun y hy => by
                rw [List.take_add_one,HTo.out] at hy
                simp only [Option.toList_some,List.mem_append,List.mem_singleton] at hy
                rcases hy with hy | rfl
                · exact HAll.out y hy
                · exact HOk.out),HBr.out⟩
              case measure => simp [intOf];omega
        · have HE : Kept (0 = r):=kp (by
            rw [← HR.out]
            have h1:=HAll.out
            rw [List.take_of_length_le (by rw [HNl.out];omega)] at h1
            exact (Mu.node_fine HPast.out h1).symm)
          have hge : nl ≤ k:=by omega
          clear hlt
          go_wp2
          go_ret
          exact ⟨by rw [← HE.out];rfl,HWo0.out⟩
  · have hk7 : (n.kind == 7) = false:=by simpa using h7
    by_cases h9 : n.kind = 9
    · have hk9 : (n.kind == 9) = true:=by simpa using h9
      obtain ⟨r9,hr9⟩ : ∃ r9,S.within s.ex h 32 = r9:=⟨_,rfl⟩
      have HR9:=kp hr9
      cases r9 with
      | false =>
        have HE : Kept (4 = r):=kp (by rw [← HR.out];exact (Mu.node_exit h9 hr9).symm)
        clear h7 h9 hr9
        go_wp2_with (first
          | ((with_reducible refine j4 rfl 24 (.tmp 0) rfl (pgC p) rfl ?_);intro g1 w1 hg1 hk1 hw1;have HW1:=kp hw1;have HK1:=kp hk1;have hs1:=hw1.size;obtain ⟨hc0,hc1,hc2,hc3⟩:=j8 hk1;rw [EP.out] at hc3
             have hcf:=(HW1.out.cell (p:=adP.add f) (by rw [add_block];omega)).trans HCf.out;have hn0:=(HW1.out.cell (p:=adF.add (i * 4)) (by rw [add_block];omega)).trans HN0.out;have hn1:=(HW1.out.cell (p:=⟨(adF.add (i * 4)).block,(adF.add (i * 4)).off + 1,none⟩) (by show (adF.add (i * 4)).block < _;rw [add_block];omega)).trans HN1.out;have hn2:=(HW1.out.cell (p:=⟨(adF.add (i * 4)).block,(adF.add (i * 4)).off + 2,none⟩) (by show (adF.add (i * 4)).block < _;rw [add_block];omega)).trans HN2.out;have hn3:=(HW1.out.cell (p:=⟨(adF.add (i * 4)).block,(adF.add (i * 4)).off + 3,none⟩) (by show (adF.add (i * 4)).block < _;rw [add_block];omega)).trans HN3.out
             clear hg1 hk1 hw1)
          | ((with_reducible show Sl 9);go_must (refine j7 rfl 63 rfl (ndC ⟨0,0,0,0⟩) qR ?_);intro gN w2 hgN hk2 hb2;have HGN:=kp hgN;have HK2:=kp hk2;have HW2:=kp (HW1.out.trans (hb2.mono hs1));have hs2:=HW2.out.size;have HKp:=kp (HK1.out.below hb2 HK1.out.lt);clear hgN hk2 hb2 hc0 hc1 hc2 hc3 hcf hn0 hn1 hn2 hn3)
          | ((with_reducible show Sn);go_must (refine j5 rfl 63 (.tmp 9) (.tmp 21) rfl gN (ndC n) rfl rfl _ _ HK2.out jD rfl (jI n) ?_);intro w3 hk3 hg3 hz3
             have HK3:=kp hk3;have HW3:=kp (HW2.out.grown hg3 hs2 (fun k e => by cases e;have:=HGN.out;omega));have hs3:=HW3.out.size
             have HK3p:=kp (HKp.out.grown hg3 (fun e => by cases e;have:=HGN.out;have:=HK1.out.lt;omega))
             obtain ⟨hm0,hm1,hm2,hm3⟩:=j9 hk3
             have hs1_:=(HW3.out.cell (p:=⟨(adL.add (f * 6)).block,(adL.add (f * 6)).off + 1,none⟩) (by show (adL.add (f * 6)).block < _;rw [add_block];omega)).trans HS1.out;have hs2_:=(HW3.out.cell (p:=⟨(adL.add (f * 6)).block,(adL.add (f * 6)).off + 2,none⟩) (by show (adL.add (f * 6)).block < _;rw [add_block];omega)).trans HS2.out;have hh_:=(HW3.out.cell (p:=adH.add i) (by rw [add_block];omega)).trans HHc.out
             clear hk3 hg3 hz3)
          | (go_at_call 25;go_must (refine (lO s.ex h hex hh _ HR9.out _).mono ?_);rintro e w9 ⟨rfl,rfl⟩))
        go_ret
        exact ⟨by rw [← HE.out];rfl,HW3.out⟩
      | true =>
        have HNl0 : Kept (nl = 0):=kp (by rw [← HNl.out];unfold Q.succ;rw [if_pos h9];rfl)
        have HPast : Kept (Mu.Past ls s n h):=kp ⟨fun h1 => h7 h1.1,fun h1 => (by have h2:=h1.2;rw [hr9] at h2;cases h2)⟩
        clear h7 h9 hr9
        go_wp2_with (first
          | ((with_reducible refine j4 rfl 24 (.tmp 0) rfl (pgC p) rfl ?_);intro g1 w1 hg1 hk1 hw1;have HW1:=kp hw1;have HK1:=kp hk1;have hs1:=hw1.size;obtain ⟨hc0,hc1,hc2,hc3⟩:=j8 hk1;rw [EP.out] at hc3
             have hcf:=(HW1.out.cell (p:=adP.add f) (by rw [add_block];omega)).trans HCf.out;have hn0:=(HW1.out.cell (p:=adF.add (i * 4)) (by rw [add_block];omega)).trans HN0.out;have hn1:=(HW1.out.cell (p:=⟨(adF.add (i * 4)).block,(adF.add (i * 4)).off + 1,none⟩) (by show (adF.add (i * 4)).block < _;rw [add_block];omega)).trans HN1.out;have hn2:=(HW1.out.cell (p:=⟨(adF.add (i * 4)).block,(adF.add (i * 4)).off + 2,none⟩) (by show (adF.add (i * 4)).block < _;rw [add_block];omega)).trans HN2.out;have hn3:=(HW1.out.cell (p:=⟨(adF.add (i * 4)).block,(adF.add (i * 4)).off + 3,none⟩) (by show (adF.add (i * 4)).block < _;rw [add_block];omega)).trans HN3.out
             clear hg1 hk1 hw1)
          | ((with_reducible show Sl 9);go_must (refine j7 rfl 63 rfl (ndC ⟨0,0,0,0⟩) qR ?_);intro gN w2 hgN hk2 hb2;have HGN:=kp hgN;have HK2:=kp hk2;have HW2:=kp (HW1.out.trans (hb2.mono hs1));have hs2:=HW2.out.size;have HKp:=kp (HK1.out.below hb2 HK1.out.lt);clear hgN hk2 hb2 hc0 hc1 hc2 hc3 hcf hn0 hn1 hn2 hn3)
          | ((with_reducible show Sn);go_must (refine j5 rfl 63 (.tmp 9) (.tmp 21) rfl gN (ndC n) rfl rfl _ _ HK2.out jD rfl (jI n) ?_);intro w3 hk3 hg3 hz3
             have HK3:=kp hk3;have HW3:=kp (HW2.out.grown hg3 hs2 (fun k e => by cases e;have:=HGN.out;omega));have hs3:=HW3.out.size
             have HK3p:=kp (HKp.out.grown hg3 (fun e => by cases e;have:=HGN.out;have:=HK1.out.lt;omega))
             obtain ⟨hm0,hm1,hm2,hm3⟩:=j9 hk3
             have hs1_:=(HW3.out.cell (p:=⟨(adL.add (f * 6)).block,(adL.add (f * 6)).off + 1,none⟩) (by show (adL.add (f * 6)).block < _;rw [add_block];omega)).trans HS1.out;have hs2_:=(HW3.out.cell (p:=⟨(adL.add (f * 6)).block,(adL.add (f * 6)).off + 2,none⟩) (by show (adL.add (f * 6)).block < _;rw [add_block];omega)).trans HS2.out;have hh_:=(HW3.out.cell (p:=adH.add i) (by rw [add_block];omega)).trans HHc.out
             clear hk3 hg3 hz3)
          | (go_at_call 25;go_must (refine (lO s.ex h hex hh _ HR9.out _).mono ?_);rintro e w9 ⟨rfl,rfl⟩)
          | ((with_reducible show Sl 57);go_must (refine j6 rfl 63 (.tmp 9) rfl gN rfl _ (ndC n) _ HK3.out Tryd.underlying63 rfl jD ?_))
          | (go_at_call 46;fail))
        refine (vK n _).mono ?_
        rintro e w5 ⟨v4,rfl,hown4,hb4⟩
        obtain ⟨A4,c4,rfl,hcl4,hcm4,hr4⟩:=hown4.readsN HNl.out
        have HR4:=kp hr4;have HW5:=kp (HW3.out.trans (hb4.mono hs3));have hs5:=HW5.out.size
        have HKp5:=kp (HK3p.out.below hb4 HK3p.out.lt);have HKn5:=kp (HK3.out.below hb4 HK3.out.lt)
        unfold maxLen at hcm4
        clear hown4 hr4 hb4 hm0 hm1 hm2 hm3 hs1_ hs2_ hh_
        go_wp2
        go_loopw [12] (fun v12 wr => ∃ k : Nat,k ≤ nl ∧ v12 = .int .i64 k ∧ (∀ to ∈ (Q.succ n).take k,Mu.badTo (killL p 4 4) ls s n h to = false) ∧ Below w5.heap.size w5 wr) (fun v12 _ => nl - (intOf v12).toNat)
        case atStart => exact ⟨0,by omega,rfl,fun to ht => by simp at ht,Below.refl _ _⟩
        case round =>
          obtain ⟨k,hk,rfl,hall,hbo⟩:=hrel
          have HAll:=kp hall;have HBo0:=kp hbo
          have HWo0:=kp (HW5.out.trans (hbo.mono hs5))
          clear hall hbo
          by_cases hlt : k < nl
          · exact absurd hlt (by rw [HNl0.out];omega)
          · have HE : Kept (0 = r):=kp (by
              rw [← HR.out]
              have h1:=HAll.out
              rw [List.take_of_length_le (by rw [HNl.out];omega)] at h1
              exact (Mu.node_fine HPast.out h1).symm)
            have hge : nl ≤ k:=by omega
            clear hlt
            go_wp2
            go_ret
            exact ⟨by rw [← HE.out];rfl,HWo0.out⟩
    · have hk9 : (n.kind == 9) = false:=by simpa using h9
      have HPast : Kept (Mu.Past ls s n h):=kp ⟨fun h1 => h7 h1.1,fun h1 => h9 h1.1⟩
      clear h7 h9
      go_wp2_with (first
        | ((with_reducible refine j4 rfl 24 (.tmp 0) rfl (pgC p) rfl ?_);intro g1 w1 hg1 hk1 hw1;have HW1:=kp hw1;have HK1:=kp hk1;have hs1:=hw1.size;obtain ⟨hc0,hc1,hc2,hc3⟩:=j8 hk1;rw [EP.out] at hc3
           have hcf:=(HW1.out.cell (p:=adP.add f) (by rw [add_block];omega)).trans HCf.out;have hn0:=(HW1.out.cell (p:=adF.add (i * 4)) (by rw [add_block];omega)).trans HN0.out;have hn1:=(HW1.out.cell (p:=⟨(adF.add (i * 4)).block,(adF.add (i * 4)).off + 1,none⟩) (by show (adF.add (i * 4)).block < _;rw [add_block];omega)).trans HN1.out;have hn2:=(HW1.out.cell (p:=⟨(adF.add (i * 4)).block,(adF.add (i * 4)).off + 2,none⟩) (by show (adF.add (i * 4)).block < _;rw [add_block];omega)).trans HN2.out;have hn3:=(HW1.out.cell (p:=⟨(adF.add (i * 4)).block,(adF.add (i * 4)).off + 3,none⟩) (by show (adF.add (i * 4)).block < _;rw [add_block];omega)).trans HN3.out
           clear hg1 hk1 hw1)
        | ((with_reducible show Sl 9);go_must (refine j7 rfl 63 rfl (ndC ⟨0,0,0,0⟩) qR ?_);intro gN w2 hgN hk2 hb2;have HGN:=kp hgN;have HK2:=kp hk2;have HW2:=kp (HW1.out.trans (hb2.mono hs1));have hs2:=HW2.out.size;have HKp:=kp (HK1.out.below hb2 HK1.out.lt);clear hgN hk2 hb2 hc0 hc1 hc2 hc3 hcf hn0 hn1 hn2 hn3)
        | ((with_reducible show Sn);go_must (refine j5 rfl 63 (.tmp 9) (.tmp 21) rfl gN (ndC n) rfl rfl _ _ HK2.out jD rfl (jI n) ?_);intro w3 hk3 hg3 hz3
           have HK3:=kp hk3;have HW3:=kp (HW2.out.grown hg3 hs2 (fun k e => by cases e;have:=HGN.out;omega));have hs3:=HW3.out.size
           have HK3p:=kp (HKp.out.grown hg3 (fun e => by cases e;have:=HGN.out;have:=HK1.out.lt;omega))
           obtain ⟨hm0,hm1,hm2,hm3⟩:=j9 hk3
           have hs1_:=(HW3.out.cell (p:=⟨(adL.add (f * 6)).block,(adL.add (f * 6)).off + 1,none⟩) (by show (adL.add (f * 6)).block < _;rw [add_block];omega)).trans HS1.out;have hs2_:=(HW3.out.cell (p:=⟨(adL.add (f * 6)).block,(adL.add (f * 6)).off + 2,none⟩) (by show (adL.add (f * 6)).block < _;rw [add_block];omega)).trans HS2.out;have hh_:=(HW3.out.cell (p:=adH.add i) (by rw [add_block];omega)).trans HHc.out
           clear hk3 hg3 hz3)
        | ((with_reducible show Sl 57);go_must (refine j6 rfl 63 (.tmp 9) rfl gN rfl _ (ndC n) _ HK3.out Tryd.underlying63 rfl jD ?_))
        | (go_at_call 46;fail))
      refine (vK n _).mono ?_
      rintro e w5 ⟨v4,rfl,hown4,hb4⟩
      obtain ⟨A4,c4,rfl,hcl4,hcm4,hr4⟩:=hown4.readsN HNl.out
      have HR4:=kp hr4;have HW5:=kp (HW3.out.trans (hb4.mono hs3));have hs5:=HW5.out.size
      have HKp5:=kp (HK3p.out.below hb4 HK3p.out.lt);have HKn5:=kp (HK3.out.below hb4 HK3.out.lt)
      unfold maxLen at hcm4
      clear hown4 hr4 hb4 hm0 hm1 hm2 hm3 hs1_ hs2_ hh_
      go_wp2
      go_loopw [12] (fun v12 wr => ∃ k : Nat,k ≤ nl ∧ v12 = .int .i64 k ∧ (∀ to ∈ (Q.succ n).take k,Mu.badTo (killL p 4 4) ls s n h to = false) ∧ Below w5.heap.size w5 wr) (fun v12 _ => nl - (intOf v12).toNat)
      case atStart => exact ⟨0,by omega,rfl,fun to ht => by simp at ht,Below.refl _ _⟩
      case round =>
        obtain ⟨k,hk,rfl,hall,hbo⟩:=hrel
        have HAll:=kp hall;have HBo0:=kp hbo
        have HWo0:=kp (HW5.out.trans (hbo.mono hs5))
        clear hall hbo
        by_cases hlt : k < nl
        · obtain ⟨ad4,to,rfl,hb4,hto,hj0⟩:=HR4.out.get hlt
          clear hj0
          have HTo:=kp hto
          have htm:=List.mem_of_getElem? hto
          obtain ⟨t,ht,htl⟩:=HSf.out to htm
          subst ht
          have HTm:=kp htm
          obtain ⟨ad5,e5,hb5,hj0,hhv,hc5⟩:=HSok.out.held.get htl
          clear hj0
          obtain ⟨hv,hhve⟩ : ∃ hv,s.held.z.getD t 0 = hv:=⟨_,rfl⟩
          rw [hhve] at hhv hc5
          obtain rfl : adH = ad5:=by rw [EH.out] at e5;exact Option.some.inj e5
          have HC50:=kp hc5;have HHv : Kept (s.held.z.getD t 0 = hv):=kp hhve
          obtain ⟨bq,hbqe⟩ : ∃ bq,Mu.behind (killL p 4 4) ls n h = bq:=⟨_,rfl⟩
          have HBqe:=kp hbqe
          have hti : (t : Int) < (s.held.len : Int):=by omega
          have hki : (k : Int) < (nl : Int):=by omega
          clear hto htm hhve hc5 hbqe e5
          go_wp2
          go_loopw [13] (fun v13 wr => ∃ lk : Nat,lk ≤ 32 ∧ v13 = .int .i64 lk ∧ (∀ j,j < lk → hv.testBit j = true → bq.testBit j = true) ∧ Below w5.heap.size w5 wr) (fun v13 _ => 32 - (intOf v13).toNat)
          case atStart => exact ⟨0,by omega,rfl,fun j hj => by omega,HBo0.out⟩
          case round =>
            clear HBo0 HWo0
            obtain ⟨lk,hlk32,rfl,hall2,hbr⟩:=hrel
            have HAll2:=kp hall2;have HBr:=kp hbr
            have HWr:=kp (HW5.out.trans (hbr.mono hs5))
            have hsr:=hbr.size;have hsWr:=HWr.out.size
            have HKpr:=kp (HKp5.out.below hbr HKp5.out.lt);have HKnr:=kp (HKn5.out.below hbr HKn5.out.lt)
            by_cases hlk : lk < 32
            · have HS2r:=kp ((HWr.out.cell (p:=⟨(adL.add (f * 6)).block,(adL.add (f * 6)).off + 2,none⟩) (by show (adL.add (f * 6)).block < _;rw [add_block];omega)).trans HS2.out)
              have HC5:=kp ((HWr.out.cell (p:=adH.add t) (by rw [add_block];omega)).trans HC50.out)
              have HCt : Kept (wr.cell? (ad4.add k) = some (.int .i64 (t : Int))):=kp (by
                obtain ⟨ad',y,e',_,hy',hc'⟩:=(HR4.out.below hbr).get hlt
                cases e'
                rw [HTo.out] at hy';cases hy'
                exact hc')
              have had4 : ad4.block < wr.heap.size:=by omega
              have hlkb : decide ((lk : Int) < (32 : Int)) = true:=by simp;omega
              obtain ⟨fh,hfh⟩ : ∃ q,hv.testBit lk = q:=⟨_,rfl⟩
              have HFhb:=kp hfh
              have HFh : Kept (S.has hv (lk : Int) = fh):=kp (by rw [S.has_in _ _ (by omega)];exact hfh)
              obtain ⟨hb,hhb⟩ : ∃ q,h.testBit lk = q:=⟨_,rfl⟩
              have HHbb:=kp hhb
              have HHb : Kept (S.has h (lk : Int) = hb):=kp (by rw [S.has_in _ _ (by omega)];exact hhb)
              obtain ⟨bb,hbb⟩ : ∃ q,bq.testBit lk = q:=⟨_,rfl⟩
              have HBqb:=kp hbb
              have HBb : Kept ((Mu.behind (killL p 4 4) ls n h).testBit lk = bb):=kp (by rw [HBqe.out];exact hbb)
              clear hall2 hbr hfh hhb hbb
              cases fh with
              | false =>
                go_wp2
                have hq1:=HS2r.out;have hq2:=HC5.out;have hq3:=HCt.out
                refine wp_region_quiet_lit (by kernel_rfl) (by kernel_rfl) ?_
                iterate 13 (go_big_quiet_step (exact lE (l6 hv hhv (lk : Int) ⟨by omega,by omega⟩ false HFh.out _)))
                iterate 11 (go_big_quiet_step (fail))
                refine wpQuiet_nil ?_
                intro _ hw'
                obtain ⟨nq,hw''⟩:=hw'
                subst hw''
                obtain ⟨W,hWe⟩ : ∃ x,wr.drewN nq = x:=⟨_,rfl⟩
                have hW : Below wr.heap.size wr W:=by rw [← hWe];exact below_drewN (Below.refl _ _) _
                rw [hWe]
                clear hWe hq1 hq2 hq3
                have HBo:=kp (HBr.out.trans (hW.mono HBr.out.size))
                have HWo:=kp (HWr.out.trans (hW.mono HWr.out.size))
                clear hW
                have HThis : Kept (hv.testBit lk = true → bq.testBit lk = true):=kp (fun e => by rw [HFhb.out] at e;cases e)
                go_wp2
                go_roundw
                case rel => exact ⟨lk + 1,by omega,by go_num,(fun j hj hb1 => by
                  by_cases e : j = lk
                  · subst e;exact HThis.out hb1
                  · exact HAll2.out j (by omega) hb1),HBo.out⟩
                case measure => simp [intOf];omega        | true =>
                go_wp2
                apply jU (.is _ :: .is _ :: .is _ :: .is _ :: .is (.slice (some adH) s.held.len s.held.cap) :: .is _ :: .is _ :: .is _ :: .is (.int .i64 (t : Int)) :: .is _ :: .is (.int .u32 (hv : Int)) :: .is _ :: .is (.bool true) :: .is _ :: .is (pgA p) :: .is _ :: .is (ndA n) :: .is _ :: .is _ :: .is _ :: .is (.bool hb) :: .is (.bool bb) :: .is _ :: .is _ :: [])
                  [[],[],[(0,69),(1,70)],[(2,71)],[(3,72)],[],[],[(5,74),(6,75)],[(7,76)],[(4,73),(8,77)],[(9,78)],[],[(10,79),(11,80)],[(12,81)],[(13,82)],[(13,82)],[(13,82)],[(13,82)],[(13,82)],[(13,82)],[(18,87),(19,88),(13,82)],[(14,83),(15,84),(16,85),(17,86),(20,89),(13,82)],[(21,90),(13,82)],[(13,82),(22,91)]]
                  [(0,69),(1,70),(2,71),(3,72),(4,73),(5,74),(6,75),(7,76),(8,77),(9,78),(10,79),(11,80),(12,81),(13,82),(14,83),(15,84),(16,85),(17,86),(18,87),(19,88),(20,89),(21,90),(22,91),(23,92)] (by kernel_rfl) (by kernel_rfl)
                case hob =>
                  refine ⟨?o0,?o1,?o2,?o3,?o4,?o5,?o6,?o7,?o8,?o9,?o10,?o11,?o12,?o13,?o14,?o15,?o16,?o17,?o18,?o19,?o20,?o21,?o22,?o23,trivial⟩
                  case o0 => intro W hW;change wpList _ _ _ _ _ _;go_wp2;exact j3 rfl rfl rfl
                  case o1 => intro W hW;change wpList _ _ _ _ _ _;go_wp2;exact j3 rfl rfl rfl
                  case o2 => intro W hW;rintro _ rfl;rintro _ rfl;change wpList _ _ _ _ _ _;go_wp2;exact j3 rfl rfl rfl
                  case o3 => intro W hW;rintro _ rfl;change wpList _ _ _ _ _ _;go_wp2;exact j3 rfl rfl rfl
                  case o4 =>
                    intro W hW;rintro _ rfl;change wpList _ _ _ _ _ _
                    have hq:=(hW.cell (p:=⟨(adL.add (f * 6)).block,(adL.add (f * 6)).off + 2,none⟩) (by show (adL.add (f * 6)).block < _;rw [add_block];omega)).trans HS2r.out
                    go_wp2;exact j3 rfl rfl rfl
                  case o5 => intro W hW;change wpList _ _ _ _ _ _;go_wp2;exact j3 rfl rfl rfl
                  case o6 => intro W hW;change wpList _ _ _ _ _ _;go_wp2;exact j3 rfl rfl rfl
                  case o7 => intro W hW;rintro _ rfl;rintro _ rfl;change wpList _ _ _ _ _ _;go_wp2;exact j3 rfl rfl rfl
                  case o8 =>
                    intro W hW;rintro _ rfl;change wpList _ _ _ _ _ _
                    have hq:=(hW.cell (p:=ad4.add k) (by rw [add_block];omega)).trans HCt.out
                    go_wp2;exact j3 rfl rfl rfl
                  case o9 => intro W hW;rintro _ rfl;rintro _ rfl;change wpList _ _ _ _ _ _;go_wp2;exact j3 rfl rfl rfl
                  case o10 =>
                    intro W hW;rintro _ rfl;change wpList _ _ _ _ _ _
                    have hq:=(hW.cell (p:=adH.add t) (by rw [add_block];omega)).trans HC5.out
                    go_wp2;exact j3 rfl rfl rfl
                  case o11 => intro W hW;change wpList _ _ _ _ _ _;go_wp2;exact j3 rfl rfl rfl
                  case o12 =>
                    intro W hW;rintro _ rfl;rintro _ rfl;change wpList _ _ _ _ _ _
                    go_wp2_with fail
                    refine (l6 hv hhv (lk : Int) ⟨by omega,by omega⟩ true HFh.out W).mono ?_
                    rintro e w2 ⟨rfl,rfl⟩
                    go_wp2
                    exact j3 rfl rfl rfl
                  case o13 => intro W hW;rintro _ rfl;change wpList _ _ _ _ _ _;go_wp2;exact j3 rfl rfl rfl
                  case o14 =>
                    intro W hW;rintro _ rfl;change wpList _ _ _ _ _ _
                    go_must (refine jT rfl 24 (.tmp 4) rfl g1 rfl _ (pgC p) _ (HKpr.out.below hW HKpr.out.lt) Tryd.underlying24 rfl jH ?_)
                    go_wp2;exact j3 rfl rfl rfl
                  case o15 => intro W hW;rintro _ rfl;change wpList _ _ _ _ _ _;go_wp2;exact j3 rfl rfl rfl
                  case o16 =>
                    intro W hW;rintro _ rfl;change wpList _ _ _ _ _ _
                    go_must (refine jT rfl 63 (.tmp 9) rfl gN rfl _ (ndC n) _ (HKnr.out.below hW HKnr.out.lt) Tryd.underlying63 rfl jD ?_)
                    go_wp2;exact j3 rfl rfl rfl
                  case o17 => intro W hW;rintro _ rfl;change wpList _ _ _ _ _ _;go_wp2;exact j3 rfl rfl rfl
                  case o18 => intro W hW;rintro _ rfl;change wpList _ _ _ _ _ _;go_wp2;exact j3 rfl rfl rfl
                  case o19 => intro W hW;rintro _ rfl;change wpList _ _ _ _ _ _;go_wp2;exact j3 rfl rfl rfl
                  case o20 =>
                    intro W hW;rintro _ rfl;rintro _ rfl;rintro _ rfl;change wpList _ _ _ _ _ _
                    go_wp2_with fail
                    refine (l6 h hh (lk : Int) ⟨by omega,by omega⟩ hb HHb.out W).mono ?_
                    rintro e w2 ⟨rfl,rfl⟩
                    go_wp2
                    exact j3 rfl rfl rfl
                  case o21 =>
                    intro W hW;rintro _ rfl;rintro _ rfl;rintro _ rfl;rintro _ rfl;rintro _ rfl;rintro _ rfl;change wpList _ _ _ _ _ _
                    have hWw : Below w.heap.size w W:=HWr.out.trans (hW.mono HWr.out.size)
                    go_wp2_with fail
                    refine (vN B p W (HP.out.below (hWw.mono hB)) (Nat.le_trans hB hWw.size) HS.out h32 (some adL) lc ls (HL.out.below (hWw.mono hB)) n HNok.out HFit.out h lk hlk hb HHbb.out bb HBb.out).mono ?_
                    rintro e w2 ⟨rfl,hb2⟩
                    have HBq:=kp hb2;clear hb2
                    go_wp2
                    exact jE rfl rfl rfl HBq.out rfl
                  case o22 => intro W hW;rintro _ rfl;rintro _ rfl;change wpList _ _ _ _ _ _;go_wp2;exact j3 rfl rfl rfl
                  case o23 => intro W hW;rintro _ rfl;rintro _ rfl;change wpList _ _ _ _ _ _;go_wp2;exact j3 rfl rfl rfl
                case hend =>
                  intro W hW;rintro _ rfl;rintro _ rfl;rintro _ rfl;rintro _ rfl;rintro _ rfl;rintro _ rfl;rintro _ rfl;rintro _ rfl;rintro _ rfl;rintro _ rfl;rintro _ rfl;rintro _ rfl;rintro _ rfl;rintro _ rfl;rintro _ rfl;rintro _ rfl;rintro _ rfl;rintro _ rfl;rintro _ rfl;rintro _ rfl;rintro _ rfl;rintro _ rfl;rintro _ rfl;rintro _ rfl
                  simp only [given,jK,List.set]
                  have HBo:=kp (HBr.out.trans (hW.mono HBr.out.size))
                  have HWo:=kp (HWr.out.trans (hW.mono HWr.out.size))
                  clear hW
                  cases bb with
                  | false =>
                    have HE : Kept (3 = r):=kp (by
                      rw [← HR.out]
                      refine (Mu.node_bad HPast.out HTm.out ?_).symm
                      unfold Mu.badTo
                      rw [Int.toNat_natCast,HHv.out,HBqe.out,Bool.not_eq_true']
                      cases e : S.within hv bq 32 with
                      | false => rfl
                      | true =>
                        have h1:=(S.within_iff _ _).1 e lk hlk HFhb.out
                        rw [HBqb.out] at h1;cases h1)
                    go_wp2
                    go_ret
                    exact ⟨by rw [← HE.out];rfl,HWo.out⟩
                  | true =>
                    have HThis : Kept (hv.testBit lk = true → bq.testBit lk = true):=kp (fun _ => HBqb.out)
                    go_wp2
                    go_roundw
                    case rel => exact ⟨lk + 1,by omega,by go_num,(fun j hj hb1 => by
                      by_cases e : j = lk
                      · subst e;exact HThis.out hb1
                      · exact HAll2.out j (by omega) hb1),HBo.out⟩
                    case measure => simp [intOf];omega
            · have hlkb : decide ((lk : Int) < (32 : Int)) = false:=by simp;omega
              have HOk : Kept (Mu.badTo (killL p 4 4) ls s n h (t : Int) = false):=kp (by
                unfold Mu.badTo
                rw [Int.toNat_natCast,HHv.out,HBqe.out,(S.within_iff _ _).2 fun j hj => HAll2.out j (by omega)];rfl)
              clear hlk hall2 hbr
              go_wp2
              go_roundw
              case rel => exact ⟨k + 1,by omega,by go_num,(fun y hy => by
                rw [List.take_add_one,HTo.out] at hy
                simp only [Option.toList_some,List.mem_append,List.mem_singleton] at hy
                rcases hy with hy | rfl
                · exact HAll.out y hy
                · exact HOk.out),HBr.out⟩
              case measure => simp [intOf];omega
        · have HE : Kept (0 = r):=kp (by
            rw [← HR.out]
            have h1:=HAll.out
            rw [List.take_of_length_le (by rw [HNl.out];omega)] at h1
            exact (Mu.node_fine HPast.out h1).symm)
          have hge : nl ≤ k:=by omega
          clear hlt
          go_wp2
          go_ret
          exact ⟨by rw [← HE.out];rfl,HWo0.out⟩
end Go.Proofs.YtlgaefenhfmjfaaDoor
