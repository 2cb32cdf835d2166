/- MayMore, walked. -/
import Derived.Test.YtoekiejipdabmaaDoorPk2
import Derived.Test.YtoekiejipdabmaaDoorPk7
import Derived.Test.YtoekiejipdabmaaDoorMayP5
import Derived.Test.YtoekiejipdabmaaDoorPk17
import Derived.Test.YtoekiejipdabmaaDoorProgRef5
import Derived.Test.YtoekiejipdabmaaDoorPk1
import Derived.Test.YtoekiejipdabmaaDoorPk12
namespace Go.Proofs.YtoekiejipdabmaaDoor
open Go.RowKit
theorem Q9 {p : Pg} (h : Q.small p = true) : p.fns.length ≤ 40 ∧ ∀ g ∈ p.fns,g.nodes.length ≤ 100:=by
  unfold Q.small at h
  rw [Bool.and_eq_true] at h
  exact ⟨by simpa using h.1,fun g hg => by simpa using List.all_eq_true.1 h.2 g hg⟩
set_option maxRecDepth 1000000 in
set_option maxHeartbeats 8000000 in
theorem walkMayMore (pg0 : Pg) (w : World) (w0 : pg0.Ok w w.heap.size) (hL : Tab w) :
    Calls Tryd.prog 5 #[pgA pg0] w fun e w' => e = .returned (.bool true) ∧ Below w.heap.size w w':=by
  have HP:=kp w0;have HTab:=kp hL
  have hw01:=hL.size
  clear w0 hL
  obtain ⟨r,hr⟩ : ∃ r,Q.small pg0 = r:=⟨_,rfl⟩
  have HR:=kp hr
  clear hr
  rw [jM]
  cases r
  · go_enter Tryd.func5,Tryd.ntmps5
    go_wp2_with (first
      | ((with_reducible refine j4 rfl 24 (.tmp 0) rfl (pgC pg0) rfl ?_);intro g1 u1 hg1 hk1 hu1;have HK1:=kp hk1;have HG1:=kp hg1;have HU1:=kp hu1;have hz1:=hu1.size;clear hg1 hk1 hu1))
    refine (jP u1).mono ?_
    rintro e w1 ⟨rfl,hb1⟩
    have HW1 : Kept (Below w.heap.size w w1):=kp (HU1.out.trans (hb1.mono hz1))
    have hs1:=HW1.out.size
    have HP1:=kp (HP.out.below HW1.out)
    have HKa:=kp (HK1.out.below hb1 HK1.out.lt)
    obtain ⟨hc0,hc1,hc2,hc3⟩:=j8 HKa.out
    clear hb1
    go_wp2_with fail
    refine (l0 _ pg0 w1 HP1.out hs1 _ HR.out).mono ?_
    rintro e w2 ⟨rfl,hb2⟩
    have HW2 : Kept (Below w.heap.size w w2):=kp (HW1.out.trans (hb2.mono hs1))
    have hs2:=HW2.out.size
    have HP2:=kp (HP.out.below HW2.out)
    have HKb:=kp (HKa.out.below hb2 HKa.out.lt)
    clear hb2 hc0 hc1 hc2 hc3
    obtain ⟨hc0,hc1,hc2,hc3⟩:=j8 HKb.out
    go_wp2_with fail
    refine (jP w2).mono ?_
    rintro e w9 ⟨rfl,hb9⟩
    have HW9:=kp (HW2.out.trans (hb9.mono hs2))
    clear hb9
    go_wp2
    go_ret
    exact ⟨rfl,HW9.out⟩
  · go_enter Tryd.func5,Tryd.ntmps5
    go_wp2_with (first
      | ((with_reducible refine j4 rfl 24 (.tmp 0) rfl (pgC pg0) rfl ?_);intro g1 u1 hg1 hk1 hu1;have HK1:=kp hk1;have HG1:=kp hg1;have HU1:=kp hu1;have hz1:=hu1.size;clear hg1 hk1 hu1))
    refine (jP u1).mono ?_
    rintro e w1 ⟨rfl,hb1⟩
    have HW1 : Kept (Below w.heap.size w w1):=kp (HU1.out.trans (hb1.mono hz1))
    have hs1:=HW1.out.size
    have HP1:=kp (HP.out.below HW1.out)
    have HKa:=kp (HK1.out.below hb1 HK1.out.lt)
    obtain ⟨hc0,hc1,hc2,hc3⟩:=j8 HKa.out
    clear hb1
    go_wp2_with fail
    refine (l0 _ pg0 w1 HP1.out hs1 _ HR.out).mono ?_
    rintro e w2 ⟨rfl,hb2⟩
    have HW2 : Kept (Below w.heap.size w w2):=kp (HW1.out.trans (hb2.mono hs1))
    have hs2:=HW2.out.size
    have HP2:=kp (HP.out.below HW2.out)
    have HKb:=kp (HKa.out.below hb2 HKa.out.lt)
    clear hb2 hc0 hc1 hc2 hc3
    obtain ⟨hc0,hc1,hc2,hc3⟩:=j8 HKb.out
    obtain ⟨⟨ca,cb,cc⟩,hcc⟩ : ∃ x,Q.check pg0 = x:=⟨_,rfl⟩
    have HC:=kp hcc
    clear hcc
    obtain ⟨mb,hmb⟩ : ∃ mb,BeginsAre pg0 cc mb:=xR pg0 cc
    have HMb:=kp hmb
    clear hmb
    go_wp2_with fail
    refine (J3 w.heap.size pg0 w2 (HP.out.below HW2.out) hs2 ca cb cc HC.out).mono ?_
    rintro e w3 ⟨rfl,hb3⟩
    have HW3 : Kept (Below w.heap.size w w3):=kp (HW2.out.trans (hb3.mono hs2))
    have hs3:=HW3.out.size
    have HK3:=kp (HKb.out.below hb3 HKb.out.lt)
    clear hb3 hc0 hc1 hc2 hc3
    obtain ⟨hc0,hc1,hc2,hc3⟩:=j8 HK3.out
    have HSm:=kp (Q9 HR.out)
    have hl40:=HSm.out.1
    have HLen:=kp HP.out.row.len
    have hpc:=HP.out.lc;have hpm:=HP.out.cm
    unfold maxLen at hpm
    have hlk3:=HK3.out.lt
    have hz0 : (0 : Nat) < 4294967296:=by decide
    have hz5 : (511 : Nat) < 4294967296:=by decide
    have HU0 : Kept (∀ l : List Nat,(∀ y ∈ l,y < 4294967296) → ∀ y ∈ l ++ [0],y < 4294967296):=kp (fun l h y hy => by
      rcases List.mem_append.1 hy with hy | hy
      · exact h y hy
      · rw [List.mem_singleton.1 hy];decide)
    have HU511 : Kept (∀ l : List Nat,(∀ y ∈ l,y < 4294967296) → ∀ y ∈ l ++ [511],y < 4294967296):=kp (fun l h y hy => by
      rcases List.mem_append.1 hy with hy | hy
      · exact h y hy
      · rw [List.mem_singleton.1 hy];decide)
    go_wp2
    go_loopw [6,7] (fun v6 v7 wr => ∃ (f : Nat) (ls : List Sc),f ≤ pg0.len ∧ v7 = .int .i64 f ∧ SecRow wr w3.heap.size v6 ls ∧ ls.length = f ∧ (∀ (i : Nat) (x : Sc),ls[i]? = some x → Ma.SecM x (Mu.fn pg0 i).len) ∧ (cc ≠ 0 → f = 0) ∧ Below w3.heap.size w3 wr) (fun _ v7 _ => pg0.len - (intOf v7).toNat)
    case atStart => exact ⟨0,[],by omega,rfl,SecRow.nil _ _,rfl,(fun i x hx => by simp at hx),(fun _ => rfl),Below.refl _ _⟩
    case round =>
      clear hc0 hc1 hc2 hc3
      obtain ⟨f,ls,hf,rfl,hrow,hll,hall,hcf0,hbr⟩:=hrel
      have HRow:=kp hrow;have HLl:=kp hll;have HAll:=kp hall;have HBr:=kp hbr;have HF0:=kp hcf0
      have hsr:=hbr.size
      have HW:=kp (HW3.out.trans (hbr.mono hs3));have hsW:=HW.out.size
      have HKr:=kp (HK3.out.below hbr hlk3)
      obtain ⟨hc0,hc1,hc2,hc3⟩:=j8 HKr.out
      have hls40 : ls.length ≤ 40:=by rw [HLl.out];have:=HLen.out;omega
      clear hrow hll hall hbr hcf0
      by_cases hgo : cc = 0 ∧ f < pg0.len
      · obtain ⟨hz,hlt⟩:=hgo
        have hcz : ((cc : Int) == 0) = true:=by simp;omega
        have HCz:=kp hz
        obtain ⟨adP,fn,e0,hbP,hfn,hfok,hcf⟩:=HP.out.fn hlt
        have HFn:=kp hfn;have EP:=kp e0
        rw [e0] at hc3
        obtain ⟨nn,hnn⟩ : ∃ nn,fn.len = nn:=⟨_,rfl⟩
        have HNn:=kp hnn
        have hn100 : nn ≤ 100:=by rw [← hnn,← hfok.nodes.1.len];exact HSm.out.2 fn (List.mem_of_getElem? hfn)
        have hfc:=hfok.lc;have hfm:=hfok.cm
        unfold maxLen at hfm
        rw [hnn] at hcf hfc
        have HCf:=kp hcf
        have hfi : (f : Int) < (pg0.len : Int):=by omega
        clear hfn hfok hnn hz hcf e0
        go_wp2_with (first
          | ((with_reducible show Sl 8);go_must (refine j7 rfl 56 rfl (scC default) XE ?_);intro gS w8 hgS hk8 hb8;have HGS:=kp hgS;have HK8:=kp hk8;have HB8:=kp (HBr.out.trans (hb8.mono hsr));have HBn8:=kp hb8;clear hgS hk8 hb8 hc0 hc1 hc2 hc3)
          | ((with_reducible show Sn);go_must (refine j5 rfl 56 (.tmp 8) (.tmp 37) rfl gS (scC ⟨0,0,default,511,511,default⟩) rfl rfl _ _ HK8.out zC rfl (XF _) ?_);intro w9 hk9 hg9 hz9;have HK9:=kp hk9;have HBn9:=kp (HBn8.out.grown hg9 HBn8.out.size (fun k e => by cases e;exact HGS.out));clear hk9 hg9 hz9))
        have HB9:=kp (HBr.out.trans (HBn9.out.mono hsr));have hs9:=HB9.out.size
        have HRow9:=kp (HRow.out.below HBn9.out (Nat.le_refl _))
        have HGS9 : Kept (w3.heap.size ≤ gS ∧ gS < w9.heap.size ∧ wr.heap.size ≤ gS):=kp (by have:=HGS.out;have:=HK9.out.lt;omega)
        have HRowN : Kept (u6.ownBlock = none ∨ u6.ownBlock ≠ some gS):=kp (by
          cases e : u6.ownBlock with
          | none => exact .inl rfl
          | some k =>
            right
            have h1:=(HRow.out.row.block k e).2
            have h2:=HGS9.out
            intro e2;cases e2;omega)
        go_loopw [9] (fun v9 wi => ∃ (j : Nat) (hw lw : Ws),j ≤ nn ∧ v9 = .int .i64 j ∧ WsOwn wi w9.heap.size hw ∧ WsOwn wi w9.heap.size lw ∧ Apart16 hw lw ∧ hw.z = List.replicate j 0 ∧ lw.z = List.replicate j 511 ∧ Blk wi gS 56 (scC ⟨0,0,hw,511,511,lw⟩) ∧ w9.grownBy wi (some gS)) (fun v9 _ => nn - (intOf v9).toNat)
        case atStart => exact ⟨0,default,default,by omega,rfl,y9 _ _,y9 _ _,(fun k h => by cases h),rfl,rfl,HK9.out,jS _ _⟩
        case round =>
          obtain ⟨j,hw,lw,hj,rfl,hownh,hownl,hap,hzh,hzl,hks,hgr⟩:=hrel
          obtain ⟨wi,hwi⟩ : ∃ x,x = wr:=⟨_,rfl⟩
          rw [← hwi] at hownh hownl hks hgr ⊢
          clear hwi
          have HH:=kp hownh;have HL:=kp hownl;have HAp:=kp hap;have HZh:=kp hzh;have HZl:=kp hzl;have HKi:=kp hks;have HGi:=kp hgr
          have hsi:=hgr.size
          have HHl : Kept (hw.z.length = j):=kp (by rw [hzh];simp)
          have HLl2 : Kept (lw.z.length = j):=kp (by rw [hzl];simp)
          have HHn : Kept (hw.len = j):=kp (by rw [← HHl.out];exact hownh.len.symm)
          have HLn : Kept (lw.len = j):=kp (by rw [← HLl2.out];exact hownl.len.symm)
          have HBi:=kp (Below.grown HB9.out hgr hs9 (fun k e => by cases e;exact HGS9.out.1))
          have HWi:=kp (HW3.out.trans (HBi.out.mono hs3));have hsWi:=HWi.out.size
          have HKPi:=kp (HK3.out.below HBi.out hlk3)
          obtain ⟨hc0,hc1,hc2,hc3⟩:=j8 HKPi.out
          rw [EP.out] at hc3
          have hcf:=(HWi.out.cell (p:=adP.add f) (by rw [add_block];omega)).trans HCf.out
          clear hownh hownl hap hzh hzl hks hgr
          by_cases hlt : j < nn
          · obtain ⟨hs_0,hs_1,hs_2,hs_3,hs_4,hs_5⟩:=jW HKi.out
            go_wp2_with (first
              | ((with_reducible show Sl 51);go_must (refine jO rfl (.tmp 49) (.tmp 50) 54 rfl w9.heap.size 53 _ _ Tryd.underlying54 lV rfl wi hw.v (hw.z.map wordV) (wordV 0) rfl HH.out.own ⟨wi.heap.size,0,none⟩ 1 rfl rfl rfl (by rw [List.length_map,HHl.out];unfold maxLen;omega) (by rw [List.length_map,HHl.out];omega) (by omega) ?_);intro v1 u1 ho hg
                 obtain ⟨y1,rfl,hz2,hl2,ho2⟩:=yZ (l:=hw.z ++ [0]) (n:=j + 1) (by rw [List.map_append];exact ho) (HU0.out _ HH.out.u32) (by rw [List.length_append,HHl.out];rfl)
                 have HO1:=kp ho2;have HZ1:=kp (And.intro hz2 hl2)
                 have HL1:=kp (HL.out.grew16 HAp.out hg);have HK1:=kp (uX HKi.out HH.out.own (by decide) hg);have HG1:=kp (zJ HGi.out HH.out.own hg);have HAp1:=kp (HAp.out.grew HL.out hg)
                 have hs1_:=hg.size
                 rw [show y1.v = .slice y1.A y1.len y1.cap from rfl]
                 clear ho hg hz2 hl2 ho2 hs_0 hs_1 hs_2 hs_3 hs_4 hs_5)
              | ((refine jF rfl 54 (.tmp 52) (.tmp 51) rfl gS 2 (.slice y1.A y1.len y1.cap) rfl rfl rfl rfl 56 _ HK1.out (by simp [scC]) x8 ?_);intro wk hkk hgk hzk
                 have HK2 : Kept (Blk wk gS 56 (scC ⟨0,0,y1,511,511,lw⟩)):=kp (by simpa [scC] using hkk);have HG2:=kp (lH HG1.out hgk);have HH2:=kp (HO1.out.typed15 HK1.out hgk);have HL2:=kp (HL1.out.typed15 HK1.out hgk);have hs2_:=hgk.size
                 obtain ⟨hs_0,hs_1,hs_2,hs_3,hs_4,hs_5⟩:=jW HK2.out
                 clear hkk hgk hzk)
              | ((with_reducible show Sl 56);go_must (refine jO rfl (.tmp 54) (.tmp 55) 54 rfl w9.heap.size 53 _ _ Tryd.underlying54 lV rfl wk lw.v (lw.z.map wordV) (wordV 511) rfl HL2.out.own ⟨wk.heap.size,0,none⟩ 1 rfl rfl rfl (by rw [List.length_map,HLl2.out];unfold maxLen;omega) (by rw [List.length_map,HLl2.out];omega) (by omega) ?_);intro v2 u2 ho hg
                 obtain ⟨y2,rfl,hz2,hl2,ho2⟩:=yZ (l:=lw.z ++ [511]) (n:=j + 1) (by rw [List.map_append];exact ho) (HU511.out _ HL2.out.u32) (by rw [List.length_append,HLl2.out];rfl)
                 have HO3:=kp ho2;have HZ3:=kp (And.intro hz2 hl2)
                 have HH3:=kp (HH2.out.grew16 HAp1.out.symm hg);have HK3_:=kp (uX HK2.out HL2.out.own (by decide) hg);have HG3:=kp (zJ HG2.out HL2.out.own hg);have HAp3:=kp (HAp1.out.symm.grew HH2.out hg)
                 rw [show y2.v = .slice y2.A y2.len y2.cap from rfl]
                 clear ho hg hz2 hl2 ho2 hs_0 hs_1 hs_2 hs_3 hs_4 hs_5)
              | ((refine jF rfl 54 (.tmp 57) (.tmp 56) rfl gS 5 (.slice y2.A y2.len y2.cap) rfl rfl rfl rfl 56 _ HK3_.out (by simp [scC]) x8 ?_);intro wk2 hkk hgk hzk
                 have HK4 : Kept (Blk wk2 gS 56 (scC ⟨0,0,y1,511,511,y2⟩)):=kp (by simpa [scC] using hkk);have HG4:=kp (lH HG3.out hgk);have HH4:=kp (HH3.out.typed15 HK3_.out hgk);have HL4:=kp (HO3.out.typed15 HK3_.out hgk)
                 clear hkk hgk hzk))
            go_roundw
            case rel => exact ⟨j + 1,y1,y2,by omega,by go_num,HH4.out,HL4.out,HAp3.out.symm,by rw [HZ1.out.1,HZh.out,← List.replicate_succ'],by rw [HZ3.out.1,HZl.out,← List.replicate_succ'],HK4.out,HG4.out⟩
            case measure => simp [intOf];omega
          · have hje : nn ≤ j:=by omega
            obtain ⟨vL,rfl⟩ : ∃ x,x = u6:=⟨_,rfl⟩
            have HXf : Kept (SecOwn wi w3.heap.size ⟨0,0,hw,511,511,lw⟩):=kp ⟨hz0,hz0,HH.out.less hs9,hz5,hz5,HL.out.less hs9⟩
            have HRi:=kp (HRow9.out.far15 HGi.out HRowN.out HK9.out)
            have HIs : Kept (Ma.SecM ⟨0,0,hw,511,511,lw⟩ nn):=kp ⟨rfl,rfl,(by show lw.z = _;rw [HZl.out,show j = nn by omega]),(by show hw.len = _;rw [HHn.out];omega),by show lw.len = _;rw [HLn.out];omega⟩
            obtain ⟨xF,hxF⟩ : ∃ x : Sc,(⟨0,0,hw,511,511,lw⟩ : Sc) = x:=⟨_,rfl⟩
            rw [hxF] at HXf HIs HKi
            have hs3i:=HBi.out.size
            clear hxF hlt
            go_wp2_with (first
              | ((with_reducible show Sl 59);go_must (refine j6 rfl 56 (.tmp 8) rfl gS rfl _ (scC xF) _ HKi.out Tryd.underlying56 rfl zC ?_);unfold scC)
              | (at_builtin;go_must (refine qX rfl (.tmp 58) (.tmp 60) 25 rfl w3.heap.size 56 6 _ 64 Tryd.underlying25 L4 rfl (by omega) scV XG wi vL ls xF rfl HRi.out.row ⟨wi.heap.size,0,none⟩ 1 rfl rfl _ rfl (by unfold maxLen;omega) (by omega) hs3i ?_);intro vN wN hownN hgrN;have HRN:=kp (HRi.out.push HXf.out hownN hgrN);have HBN:=kp (HRi.out.grew HBi.out (Nat.le_refl _) hs3i hgrN);clear hownN hgrN))
            go_roundw
            case rel => exact ⟨f + 1,ls ++ [xF],by omega,by go_num,HRN.out,by rw [List.length_append,HLl.out];rfl,(fun i x hx => by
              by_cases hi : i < f
              · rw [List.getElem?_append_left (by rw [HLl.out];exact hi)] at hx
                exact HAll.out i x hx
              · rw [List.getElem?_append_right (by rw [HLl.out];omega)] at hx
                have h1:=(List.getElem?_eq_some_iff.1 hx).1
                simp at h1
                have h2 : i = f:=by have:=HLl.out;omega
                subst h2
                rw [HLl.out,Nat.sub_self] at hx
                simp at hx
                subst hx
                rw [JI HFn.out,HNn.out]
                exact HIs.out),(fun h => absurd HCz.out h),HBN.out⟩
            case measure => simp [intOf];omega
      · have HNo:=kp hgo
        have HAns : Kept (Ma.ans pg0 mb ls cc = (0,0,0)):=kp (by
          unfold Ma.ans
          by_cases hz : cc = 0
          · rw [if_pos hz]
            have hfe : f = pg0.len:=by
              have h1 : ¬ f < pg0.len:=fun h => HNo.out ⟨hz,h⟩
              omega
            have hall : ∀ g,g < pg0.len → Ma.SecM (Mu.sec ls g) (Mu.fn pg0 g).len:=fun g hg => by
              have hx : ls[g]? = some (Mu.sec ls g):=by unfold Mu.sec;rw [List.getD_eq_getElem?_getD,List.getElem?_eq_getElem (by rw [HLl.out];omega)];rfl
              exact HAll.out g _ hx
            refine Ma.check_more (qZ (p:=pg0) (a:=ca) (b:=cb) (by rw [HC.out,hz])) HLen.out (fun g fn hg => (HP.out.fns fn (List.mem_of_getElem? hg)).nodes.1.len) (Mu.shaped_iff.2 ⟨by rw [HLl.out];exact hfe,fun g hg => ?_⟩) hall
            have h1:=hall g hg
            unfold Mu.shapedAt
            rw [h1.hlen,h1.llen]
            simp
          · rw [if_neg hz])
        have hce : ((cc : Int) == (cc : Int)) = true:=by simp
        by_cases hlt : f < pg0.len
        · have hcz : ((cc : Int) == 0) = false:=by have h1 : ¬ cc = 0:=fun h => HNo.out ⟨h,hlt⟩;simp;omega
          clear hgo
          obtain ⟨A,cap,e3,hc3',hm3,hsecs⟩:=HRow.out.secs
          rw [HLl.out] at e3 hc3' hsecs
          subst e3
          have HSe:=kp hsecs;have HM3:=kp hm3
          have HPr:=kp ((HP.out.below HW.out).more hsW)
          unfold maxLen at hm3
          clear hsecs
          go_wp2_with fail
          refine (qA wr.heap.size pg0 wr HPr.out (Nat.le_refl _) HR.out (HTab.out.below HW.out hw01) ca cb cc HC.out mb HMb.out A f cap ls HSe.out hc3' HM3.out (0,0,0) HAns.out).mono ?_
          rintro e w4 ⟨rfl,hb4⟩
          have HW4:=kp (HW.out.trans (hb4.mono hsW));have hs4:=HW4.out.size
          have HK4:=kp (HKr.out.below hb4 HKr.out.lt)
          clear hb4 hc0 hc1 hc2 hc3
          obtain ⟨hc0,hc1,hc2,hc3⟩:=j8 HK4.out
          go_wp2_with (first
            | ((with_reducible show Sl 10);go_must (refine j7 rfl 30 rfl (ftC 0 0 0) lT ?_);intro gF w5 hg5 hk5 hb5;have HgF:=kp hg5;have HFb5:=kp hk5;have HW5:=kp (HW4.out.trans (hb5.mono hs4));have hs5:=HW5.out.size;have HK5:=kp (HK4.out.below hb5 HK4.out.lt);clear hg5 hk5 hb5 hc0 hc1 hc2 hc3)
            | ((with_reducible show Sn);go_must (refine j5 rfl 30 (.tmp 10) (.tmp 66) rfl gF (ftC 0 0 0) rfl rfl _ _ HFb5.out jT rfl (l5 _ _ _) ?_);intro w6 hk6 hg6 hz6;have HFgF6:=kp hk6;have HW6:=kp (HW5.out.grown hg6 hs5 (fun k e => by cases e;have:=HgF.out;omega));have hs6:=HW6.out.size;have HK6:=kp (HK5.out.grown hg6 (fun e => by cases e;have:=HgF.out;have:=HK4.out.lt;omega));obtain ⟨hc0,hc1,hc2,hc3⟩:=j8 HK6.out;obtain ⟨hf0,hf1,hf2⟩:=l2 HFgF6.out;clear hk6 hg6 hz6))
          go_ret
          exact ⟨rfl,HW6.out⟩
        · clear hgo
          have hge : pg0.len ≤ f:=by omega
          obtain ⟨A,cap,e3,hc3',hm3,hsecs⟩:=HRow.out.secs
          rw [HLl.out] at e3 hc3' hsecs
          subst e3
          have HSe:=kp hsecs;have HM3:=kp hm3
          have HPr:=kp ((HP.out.below HW.out).more hsW)
          unfold maxLen at hm3
          clear hsecs
          go_wp2_with fail
          refine (qA wr.heap.size pg0 wr HPr.out (Nat.le_refl _) HR.out (HTab.out.below HW.out hw01) ca cb cc HC.out mb HMb.out A f cap ls HSe.out hc3' HM3.out (0,0,0) HAns.out).mono ?_
          rintro e w4 ⟨rfl,hb4⟩
          have HW4:=kp (HW.out.trans (hb4.mono hsW));have hs4:=HW4.out.size
          have HK4:=kp (HKr.out.below hb4 HKr.out.lt)
          clear hb4 hc0 hc1 hc2 hc3
          obtain ⟨hc0,hc1,hc2,hc3⟩:=j8 HK4.out
          go_wp2_with (first
            | ((with_reducible show Sl 10);go_must (refine j7 rfl 30 rfl (ftC 0 0 0) lT ?_);intro gF w5 hg5 hk5 hb5;have HgF:=kp hg5;have HFb5:=kp hk5;have HW5:=kp (HW4.out.trans (hb5.mono hs4));have hs5:=HW5.out.size;have HK5:=kp (HK4.out.below hb5 HK4.out.lt);clear hg5 hk5 hb5 hc0 hc1 hc2 hc3)
            | ((with_reducible show Sn);go_must (refine j5 rfl 30 (.tmp 10) (.tmp 66) rfl gF (ftC 0 0 0) rfl rfl _ _ HFb5.out jT rfl (l5 _ _ _) ?_);intro w6 hk6 hg6 hz6;have HFgF6:=kp hk6;have HW6:=kp (HW5.out.grown hg6 hs5 (fun k e => by cases e;have:=HgF.out;omega));have hs6:=HW6.out.size;have HK6:=kp (HK5.out.grown hg6 (fun e => by cases e;have:=HgF.out;have:=HK4.out.lt;omega));obtain ⟨hc0,hc1,hc2,hc3⟩:=j8 HK6.out;obtain ⟨hf0,hf1,hf2⟩:=l2 HFgF6.out;clear hk6 hg6 hz6))
          go_ret
          exact ⟨rfl,HW6.out⟩
end Go.Proofs.YtoekiejipdabmaaDoor
