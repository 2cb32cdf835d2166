/- What is wrong at a node, walked. -/
import Derived.Test.YtlgaefenhfmjfaaDoorPu5
import Derived.Test.YtlgaefenhfmjfaaDoorPu3
import Derived.Test.YtlgaefenhfmjfaaDoorProgRef5
namespace Go.Proofs.YtlgaefenhfmjfaaDoor
open Go.RowKit
def SuccFit (k : Nat) (n : Nd) : Prop:=∀ to ∈ Q.succ n,∃ j : Nat,to = (j : Int) ∧ j < k
theorem xK {c : Cl} {w : World} {B : Nat} {n : Nd} {h : Nat} (hc : c.Ok w B) (_hf : CallFit c n) (hh : h < 4294967296) : Mu.behind c.us c.ls n h < 4294967296:=by
  unfold Mu.behind
  have hl : ∀ x : Nat,h &&& x < 4294967296:=fun x => Nat.lt_of_le_of_lt Nat.and_le_left hh
  split
  · exact Nat.or_lt_two_pow (n:=32) hh (S.one_lt _)
  · split
    · exact hl _
    · split
      · refine Nat.or_lt_two_pow (n:=32) (hl _) ?_
        rw [List.getD_eq_getElem?_getD]
        cases e : c.ls[n.arg.toNat]? with
        | none => exact (by decide : 0 < 4294967296)
        | some x => exact (hc.secs.2 x (List.mem_of_getElem? e)).ex
      · exact hh
set_option maxRecDepth 1000000 in
set_option maxHeartbeats 8000000 in
theorem yV (B : Nat) (c : Cl) (s : Sc) (n : Nd) (hn : n.Ok) (at_ : Nat) (w : World) (hc : c.Ok w B) (hs : s.Ok w B) (hB : B ≤ w.heap.size) (hf : CallFit c n) (hsf : SuccFit s.held.len n) (hat : at_ < s.held.len) (r : Nat) (hr : Mu.node c.us c.ls s n (s.held.z.getD at_ 0) = r) :
    Calls Tryd.prog 41 #[clA c,scA s,.int .i64 (at_ : Int),ndA n] w fun e w' => e = .returned (.int .i64 (r : Int)) ∧ Below w.heap.size w w':=by
  have HC:=kp hc;have HS:=kp hs;have HN:=kp hn;have HFit:=kp hf;have HSf:=kp hsf
  have hlc:=hc.lc;have hlm:=hc.lm
  have hhc:=hs.held.lc;have hhm:=hs.held.cm
  have hsm:=hc.same
  unfold maxLen at hlm hhm
  obtain ⟨adH,eH,hbH,_,hh,hcH⟩:=hs.held.get hat
  obtain ⟨h,hhe⟩ : ∃ h,s.held.z.getD at_ 0 = h:=⟨_,rfl⟩
  rw [hhe] at hh hcH hr
  have HCH:=kp hcH;have HR:=kp hr
  have HAe:=kp eH
  obtain ⟨nl,hnl⟩ : ∃ nl,(Q.succ n).length = nl:=⟨_,rfl⟩
  have HNl:=kp hnl
  have hnl2 : nl ≤ 2:=by rw [← hnl];unfold Q.succ;split <;> (try split) <;> simp
  have hai : (at_ : Int) < (s.held.len : Int):=by omega
  have he32 : s.ex < 4294967296:=hs.ex
  clear hc hs hn hf hsf hr hcH hnl hhe
  rw [uB,LV,show ndA n = .agg (ndC n).toArray from rfl]
  go_enter Tryd.func41,Tryd.ntmps41
  by_cases h7 : n.kind = 7
  · have hk7 : (n.kind == 7) = true:=by simpa using h7
    have hk9 : (n.kind == 9) = false:=by rw [h7];rfl
    obtain ⟨k,hka,hkl⟩:=HFit.out h7
    obtain ⟨ad,x,e0,hb0,hx,hxok,hd0,hd1,hd2,hd5⟩:=HC.out.secs.get hkl
    have HCd:=kp hd0
    have hx32:=hxok.en
    have hx2 : c.ls.getD k default = x:=by rw [List.getD_eq_getElem?_getD,hx];rfl
    obtain ⟨r5,hr5⟩ : ∃ r5,S.within x.en h 32 = r5:=⟨_,rfl⟩
    have HR5:=kp hr5
    have hki : (k : Int) < (c.ll : Int):=by omega
    have HKa2:=kp hka
    have HE0:=kp e0
    cases r5 with
    | false =>
      have HE : Kept (5 = r):=kp (by rw [← HR.out];exact (Mu.node_call h7 (by rw [hka,Int.toNat_natCast,hx2];exact hr5)).symm)
      clear h7 hka hx hxok hx2 hr5 hd0 hd1 hd2 hd5 e0
      go_wp2_with (first
          | ((with_reducible refine j4 rfl 68 (.tmp 0) rfl (clC c) rfl ?_);intro g1 w1 hg1 hk1 hw1;have HK1:=kp hk1;have HW1:=kp hw1;have hs1:=hw1.size;clear hg1 hk1 hw1)
          | ((with_reducible refine j4 rfl 54 (.tmp 1) rfl (scC s) rfl ?_);intro g2 w2 hg2 hk2 hw2;have HK2:=kp hk2;have HKa:=kp (HK1.out.below hw2 HK1.out.lt);have HW2:=kp (HW1.out.trans (hw2.mono hs1));have hs2:=HW2.out.size;clear hg2 hk2 hw2)
          | ((with_reducible refine j4 rfl 63 (.tmp 3) rfl (ndC n) rfl ?_);intro g3 w3 hg3 hk3 hw3;have HK3:=kp hk3;have HKb:=kp (HKa.out.below hw3 HKa.out.lt);have HKt:=kp (HK2.out.below hw3 HK2.out.lt);have HW3:=kp (HW2.out.trans (hw3.mono hs2));have hs3:=HW3.out.size
             obtain ⟨hc0,hc1,hc2,hc3⟩:=jB hk3;obtain ⟨hs_0,hs_1,hs_2,hs_5⟩:=lB HKt.out;obtain ⟨hu0,hu1,hu2⟩:=jP HKb.out
             rw [HAe.out] at hs_2;have hcH:=(HW3.out.cell (p:=adH.add at_) (by rw [add_block];omega)).trans HCH.out
             rw [HE0.out] at hu0;rw [HKa2.out] at hc1;have hcd:=(HW3.out.cell (p:=ad.add (k * 6)) (by rw [add_block];omega)).trans HCd.out
             clear hg3 hk3 hw3)
          | (go_at_call 40;go_must (refine (jM x.en h hx32 hh _ HR5.out _).mono ?_);rintro e w9 ⟨rfl,rfl⟩))
      go_ret
      exact ⟨by rw [← HE.out];rfl,HW3.out⟩
    | true =>
      have HPast : Kept (Mu.Past c.ls s n h):=kp ⟨fun h1 => (by have h2:=h1.2;rw [hka,Int.toNat_natCast,hx2,hr5] at h2;cases h2),fun h1 => (by have h2:=h1.1;omega)⟩
      clear h7 hka hx hxok hx2 hr5 hd0 hd1 hd2 hd5 e0
      go_wp2_with (first
          | ((with_reducible refine j4 rfl 68 (.tmp 0) rfl (clC c) rfl ?_);intro g1 w1 hg1 hk1 hw1;have HK1:=kp hk1;have HW1:=kp hw1;have hs1:=hw1.size;clear hg1 hk1 hw1)
          | ((with_reducible refine j4 rfl 54 (.tmp 1) rfl (scC s) rfl ?_);intro g2 w2 hg2 hk2 hw2;have HK2:=kp hk2;have HKa:=kp (HK1.out.below hw2 HK1.out.lt);have HW2:=kp (HW1.out.trans (hw2.mono hs1));have hs2:=HW2.out.size;clear hg2 hk2 hw2)
          | ((with_reducible refine j4 rfl 63 (.tmp 3) rfl (ndC n) rfl ?_);intro g3 w3 hg3 hk3 hw3;have HK3:=kp hk3;have HKb:=kp (HKa.out.below hw3 HKa.out.lt);have HKt:=kp (HK2.out.below hw3 HK2.out.lt);have HW3:=kp (HW2.out.trans (hw3.mono hs2));have hs3:=HW3.out.size
             obtain ⟨hc0,hc1,hc2,hc3⟩:=jB hk3;obtain ⟨hs_0,hs_1,hs_2,hs_5⟩:=lB HKt.out;obtain ⟨hu0,hu1,hu2⟩:=jP HKb.out
             rw [HAe.out] at hs_2;have hcH:=(HW3.out.cell (p:=adH.add at_) (by rw [add_block];omega)).trans HCH.out
             rw [HE0.out] at hu0;rw [HKa2.out] at hc1;have hcd:=(HW3.out.cell (p:=ad.add (k * 6)) (by rw [add_block];omega)).trans HCd.out
             clear hg3 hk3 hw3)
          | (go_at_call 40;go_must (refine (jM x.en h hx32 hh _ HR5.out _).mono ?_);rintro e w9 ⟨rfl,rfl⟩)
          | ((with_reducible show Sl 42);go_must (refine j5 rfl 63 (.tmp 7) rfl g3 rfl _ (ndC n) _ HK3.out Tryd.underlying63 rfl jE ?_))
          | (go_at_call 67;go_must (refine (x8 n HN.out _).mono ?_);rintro e w4 ⟨v4,rfl,hown4,hb4⟩
             obtain ⟨A4,c4,rfl,hcl4,hcm4,hr4⟩:=hown4.readsN HNl.out
             have HR4:=kp hr4;have HW4:=kp (HW3.out.trans (hb4.mono hs3));have hs34:=hb4.size
             have HKc4:=kp (HKb.out.below hb4 HKb.out.lt);have HKs4:=kp (HKt.out.below hb4 HKt.out.lt);have HKn4:=kp (HK3.out.below hb4 HK3.out.lt)
             unfold maxLen at hcm4
             clear hown4 hr4 hb4 hc0 hc1 hc2 hc3 hs_0 hs_1 hs_2 hs_5 hu0 hu1 hu2 hcH hcd))
      have hs4:=HW4.out.size
      go_loopw [45] (fun v45 wr => ∃ j : Nat,j ≤ nl ∧ v45 = .int .i64 j ∧ (∀ to ∈ (Q.succ n).take j,Mu.badTo c.us c.ls s n h to = false) ∧ Below w4.heap.size w4 wr) (fun v45 _ => nl - (intOf v45).toNat)
      case atStart => exact ⟨0,by omega,rfl,fun to ht => by simp at ht,Below.refl _ _⟩
      case round =>
        obtain ⟨j,hj,rfl,hall,hbr⟩:=hrel
        have HAll:=kp hall;have HBr:=kp hbr
        have hsr:=hbr.size
        have HW:=kp (HW4.out.trans (hbr.mono hs4))
        have HKc:=kp (HKc4.out.below hbr HKc4.out.lt);have HKs:=kp (HKs4.out.below hbr HKs4.out.lt);have HKn:=kp (HKn4.out.below hbr HKn4.out.lt)
        have HCr:=kp ((HC.out.below (HW.out.mono hB)).more (Nat.le_trans hB HW.out.size))
        have HSr:=kp ((HS.out.below (HW.out.mono hB)).more (Nat.le_trans hB HW.out.size))
        clear hall hbr
        by_cases hlt : j < nl
        · obtain ⟨ad4,to,e4,hb4,hto,hcto⟩:=(HR4.out.below HBr.out).get hlt
          rw [qT] at hcto
          have HTo:=kp hto
          have htm:=List.mem_of_getElem? hto
          obtain ⟨k,hk,hkl⟩:=HSf.out to htm
          obtain ⟨ad5,e5,hb5,_,hhv,hc5⟩:=HSr.out.held.get hkl
          obtain ⟨hv,hhve⟩ : ∃ hv,s.held.z.getD k 0 = hv:=⟨_,rfl⟩
          rw [hhve] at hhv hc5
          have HC5:=kp hc5
          obtain ⟨bq,hbqe⟩ : ∃ bq,Mu.behind c.us c.ls n h = bq:=⟨_,rfl⟩
          have HBq:=kp hbqe
          have hbq : bq < 4294967296:=by rw [← hbqe];exact xK HC.out HFit.out hh
          obtain ⟨wi,hwi⟩ : ∃ wi,S.within hv bq 32 = wi:=⟨_,rfl⟩
          have HWi:=kp hwi
          have hbad : Mu.badTo c.us c.ls s n h to = !wi:=by unfold Mu.badTo;rw [hk,Int.toNat_natCast,hhve,hbqe,hwi]
          have HNo : Kept (wi = false → r = 3):=kp (fun e => by rw [← HR.out];exact Mu.node_bad HPast.out htm (by rw [hbad,e];rfl))
          have HYes : Kept (wi = true → ∀ to ∈ (Q.succ n).take (j + 1),Mu.badTo c.us c.ls s n h to = false):=kp (fun e y hy => by
            rw [List.take_add_one,HTo.out] at hy
            simp only [Option.toList_some,List.mem_append,List.mem_singleton] at hy
            rcases hy with hy | rfl
            · exact HAll.out y hy
            · rw [hbad,e];rfl)
          have hki : (k : Int) < (s.held.len : Int):=by omega
          subst hk
          subst e4
          have HE5:=kp e5
          clear hto htm hhve hc5 hbqe hwi hbad e5
          go_wp2
          apply lY (.is _ :: .is (.slice (some ad5) s.held.len s.held.cap) :: .is _ :: .is _ :: .is (.int .u32 (hv : Int)) :: .is (clA c) :: .is (ndA n) :: .is _ :: .is (.int .u32 (bq : Int)) :: .is (.bool wi) :: .is _ :: [])
            [[],[(0,49)],[],[(1,50),(2,51)],[(3,52)],[],[],[],[(5,54),(6,55),(7,56)],[(4,53),(8,57)],[(9,58)]]
            [(0,49),(1,50),(2,51),(3,52),(4,53),(5,54),(6,55),(7,56),(8,57),(9,58),(10,59)] (by kernel_rfl) (by kernel_rfl)
          case hob =>
            refine ⟨?o0,?o1,?o2,?o3,?o4,?o5,?o6,?o7,?o8,?o9,?o10,trivial⟩
            case o0 => intro W hW;change wpList _ _ _ _ _ _;go_wp2;exact j3 rfl rfl rfl
            case o1 =>
              intro W hW;rintro _ rfl;change wpList _ _ _ _ _ _
              have hq:=(HKs.out.below hW HKs.out.lt).cell 2
              simp only [scC,List.getElem?_cons_zero,List.getElem?_cons_succ] at hq
              rw [HE5.out] at hq
              go_wp2;exact j3 rfl rfl rfl
            case o2 => intro W hW;change wpList _ _ _ _ _ _;go_wp2;exact j3 rfl rfl rfl
            case o3 => intro W hW;rintro _ rfl;rintro _ rfl;change wpList _ _ _ _ _ _;go_wp2;exact j3 rfl rfl rfl
            case o4 =>
              intro W hW;rintro _ rfl;change wpList _ _ _ _ _ _
              have hq:=(hW.cell (p:=ad5.add k) (by rw [add_block];exact hb5)).trans HC5.out
              go_wp2;exact j3 rfl rfl rfl
            case o5 =>
              intro W hW;change wpList _ _ _ _ _ _
              go_must (refine j5 rfl 68 (.tmp 4) rfl g1 rfl _ (clC c) _ (HKc.out.below hW HKc.out.lt) Tryd.underlying68 rfl lV ?_)
              go_wp2;exact j3 rfl rfl rfl
            case o6 =>
              intro W hW;change wpList _ _ _ _ _ _
              go_must (refine j5 rfl 63 (.tmp 7) rfl g3 rfl _ (ndC n) _ (HKn.out.below hW HKn.out.lt) Tryd.underlying63 rfl jE ?_)
              go_wp2;exact j3 rfl rfl rfl
            case o7 => intro W hW;change wpList _ _ _ _ _ _;go_wp2;exact j3 rfl rfl rfl
            case o8 =>
              intro W hW;rintro _ rfl;rintro _ rfl;rintro _ rfl;change wpList _ _ _ _ _ _
              go_wp2_with fail
              refine (q4 wr.heap.size c n HN.out h hh W (HCr.out.below hW) hW.size HFit.out bq HBq.out).mono ?_
              rintro e w2 ⟨rfl,hb2⟩
              have HB2:=kp hb2;clear hb2
              go_wp2
              exact jH rfl rfl rfl HB2.out rfl
            case o9 =>
              intro W hW;rintro _ rfl;rintro _ rfl;change wpList _ _ _ _ _ _
              go_wp2_with fail
              refine (jM hv bq hhv hbq wi HWi.out W).mono ?_
              rintro e w2 ⟨rfl,rfl⟩
              go_wp2
              exact j3 rfl rfl rfl
            case o10 => intro W hW;rintro _ rfl;change wpList _ _ _ _ _ _;go_wp2;exact j3 rfl rfl rfl
          case hend =>
            intro W hW;rintro _ rfl;rintro _ rfl;rintro _ rfl;rintro _ rfl;rintro _ rfl;rintro _ rfl;rintro _ rfl;rintro _ rfl;rintro _ rfl;rintro _ rfl;rintro _ rfl
            simp only [given,jV,List.set]
            have HBo:=kp (HBr.out.trans (hW.mono hsr))
            have HWo:=kp (HW.out.trans (hW.mono HW.out.size))
            clear hW
            cases wi with
            | false =>
              go_wp2
              go_ret
              exact ⟨by rw [HNo.out (by simp)];rfl,HWo.out⟩
            | true =>
              go_wp2
              go_roundw
              case rel => exact ⟨j + 1,by omega,by go_num,HYes.out (by simp),HBo.out⟩
              case measure => simp [intOf];omega
        · have HE : Kept (0 = r):=kp (by
            rw [← HR.out]
            have h1:=HAll.out
            rw [List.take_of_length_le (by rw [HNl.out];omega)] at h1
            exact (Mu.node_fine HPast.out h1).symm)
          have hge : nl ≤ j:=by omega
          clear hlt
          go_wp2
          go_ret
          exact ⟨by rw [← HE.out];rfl,HW.out⟩
  · have hk7 : (n.kind == 7) = false:=by simpa using h7
    by_cases h9 : n.kind = 9
    · have hk9 : (n.kind == 9) = true:=by simpa using h9
      obtain ⟨r9,hr9⟩ : ∃ r9,S.within s.ex h 32 = r9:=⟨_,rfl⟩
      have HR9:=kp hr9
      cases r9 with
      | false =>
        have HE : Kept (4 = r):=kp (by rw [← HR.out];exact (Mu.node_exit h9 hr9).symm)
        clear h7 h9 hr9
        go_wp2_with (first
            | ((with_reducible refine j4 rfl 68 (.tmp 0) rfl (clC c) rfl ?_);intro g1 w1 hg1 hk1 hw1;have HK1:=kp hk1;have HW1:=kp hw1;have hs1:=hw1.size;clear hg1 hk1 hw1)
            | ((with_reducible refine j4 rfl 54 (.tmp 1) rfl (scC s) rfl ?_);intro g2 w2 hg2 hk2 hw2;have HK2:=kp hk2;have HKa:=kp (HK1.out.below hw2 HK1.out.lt);have HW2:=kp (HW1.out.trans (hw2.mono hs1));have hs2:=HW2.out.size;clear hg2 hk2 hw2)
            | ((with_reducible refine j4 rfl 63 (.tmp 3) rfl (ndC n) rfl ?_);intro g3 w3 hg3 hk3 hw3;have HK3:=kp hk3;have HKb:=kp (HKa.out.below hw3 HKa.out.lt);have HKt:=kp (HK2.out.below hw3 HK2.out.lt);have HW3:=kp (HW2.out.trans (hw3.mono hs2));have hs3:=HW3.out.size
               obtain ⟨hc0,hc1,hc2,hc3⟩:=jB hk3;obtain ⟨hs_0,hs_1,hs_2,hs_5⟩:=lB HKt.out;obtain ⟨hu0,hu1,hu2⟩:=jP HKb.out
               rw [HAe.out] at hs_2;have hcH:=(HW3.out.cell (p:=adH.add at_) (by rw [add_block];omega)).trans HCH.out
               clear hg3 hk3 hw3)
            | (go_at_call 40;go_must (refine (jM s.ex h he32 hh _ HR9.out _).mono ?_);rintro e w9 ⟨rfl,rfl⟩))
        go_ret
        exact ⟨by rw [← HE.out];rfl,HW3.out⟩
      | true =>
        have HPast : Kept (Mu.Past c.ls s n h):=kp ⟨fun h1 => h7 h1.1,fun h1 => (by have h2:=h1.2;rw [hr9] at h2;cases h2)⟩
        clear h7 h9 hr9
        go_wp2_with (first
            | ((with_reducible refine j4 rfl 68 (.tmp 0) rfl (clC c) rfl ?_);intro g1 w1 hg1 hk1 hw1;have HK1:=kp hk1;have HW1:=kp hw1;have hs1:=hw1.size;clear hg1 hk1 hw1)
            | ((with_reducible refine j4 rfl 54 (.tmp 1) rfl (scC s) rfl ?_);intro g2 w2 hg2 hk2 hw2;have HK2:=kp hk2;have HKa:=kp (HK1.out.below hw2 HK1.out.lt);have HW2:=kp (HW1.out.trans (hw2.mono hs1));have hs2:=HW2.out.size;clear hg2 hk2 hw2)
            | ((with_reducible refine j4 rfl 63 (.tmp 3) rfl (ndC n) rfl ?_);intro g3 w3 hg3 hk3 hw3;have HK3:=kp hk3;have HKb:=kp (HKa.out.below hw3 HKa.out.lt);have HKt:=kp (HK2.out.below hw3 HK2.out.lt);have HW3:=kp (HW2.out.trans (hw3.mono hs2));have hs3:=HW3.out.size
               obtain ⟨hc0,hc1,hc2,hc3⟩:=jB hk3;obtain ⟨hs_0,hs_1,hs_2,hs_5⟩:=lB HKt.out;obtain ⟨hu0,hu1,hu2⟩:=jP HKb.out
               rw [HAe.out] at hs_2;have hcH:=(HW3.out.cell (p:=adH.add at_) (by rw [add_block];omega)).trans HCH.out
               clear hg3 hk3 hw3)
            | (go_at_call 40;go_must (refine (jM s.ex h he32 hh _ HR9.out _).mono ?_);rintro e w9 ⟨rfl,rfl⟩)
            | ((with_reducible show Sl 42);go_must (refine j5 rfl 63 (.tmp 7) rfl g3 rfl _ (ndC n) _ HK3.out Tryd.underlying63 rfl jE ?_))
            | (go_at_call 67;go_must (refine (x8 n HN.out _).mono ?_);rintro e w4 ⟨v4,rfl,hown4,hb4⟩
               obtain ⟨A4,c4,rfl,hcl4,hcm4,hr4⟩:=hown4.readsN HNl.out
               have HR4:=kp hr4;have HW4:=kp (HW3.out.trans (hb4.mono hs3));have hs34:=hb4.size
               have HKc4:=kp (HKb.out.below hb4 HKb.out.lt);have HKs4:=kp (HKt.out.below hb4 HKt.out.lt);have HKn4:=kp (HK3.out.below hb4 HK3.out.lt)
               unfold maxLen at hcm4
               clear hown4 hr4 hb4 hc0 hc1 hc2 hc3 hs_0 hs_1 hs_2 hs_5 hu0 hu1 hu2 hcH))
        have hs4:=HW4.out.size
        go_loopw [45] (fun v45 wr => ∃ j : Nat,j ≤ nl ∧ v45 = .int .i64 j ∧ (∀ to ∈ (Q.succ n).take j,Mu.badTo c.us c.ls s n h to = false) ∧ Below w4.heap.size w4 wr) (fun v45 _ => nl - (intOf v45).toNat)
        case atStart => exact ⟨0,by omega,rfl,fun to ht => by simp at ht,Below.refl _ _⟩
        case round =>
          obtain ⟨j,hj,rfl,hall,hbr⟩:=hrel
          have HAll:=kp hall;have HBr:=kp hbr
          have hsr:=hbr.size
          have HW:=kp (HW4.out.trans (hbr.mono hs4))
          have HKc:=kp (HKc4.out.below hbr HKc4.out.lt);have HKs:=kp (HKs4.out.below hbr HKs4.out.lt);have HKn:=kp (HKn4.out.below hbr HKn4.out.lt)
          have HCr:=kp ((HC.out.below (HW.out.mono hB)).more (Nat.le_trans hB HW.out.size))
          have HSr:=kp ((HS.out.below (HW.out.mono hB)).more (Nat.le_trans hB HW.out.size))
          clear hall hbr
          by_cases hlt : j < nl
          · obtain ⟨ad4,to,e4,hb4,hto,hcto⟩:=(HR4.out.below HBr.out).get hlt
            rw [qT] at hcto
            have HTo:=kp hto
            have htm:=List.mem_of_getElem? hto
            obtain ⟨k,hk,hkl⟩:=HSf.out to htm
            obtain ⟨ad5,e5,hb5,_,hhv,hc5⟩:=HSr.out.held.get hkl
            obtain ⟨hv,hhve⟩ : ∃ hv,s.held.z.getD k 0 = hv:=⟨_,rfl⟩
            rw [hhve] at hhv hc5
            have HC5:=kp hc5
            obtain ⟨bq,hbqe⟩ : ∃ bq,Mu.behind c.us c.ls n h = bq:=⟨_,rfl⟩
            have HBq:=kp hbqe
            have hbq : bq < 4294967296:=by rw [← hbqe];exact xK HC.out HFit.out hh
            obtain ⟨wi,hwi⟩ : ∃ wi,S.within hv bq 32 = wi:=⟨_,rfl⟩
            have HWi:=kp hwi
            have hbad : Mu.badTo c.us c.ls s n h to = !wi:=by unfold Mu.badTo;rw [hk,Int.toNat_natCast,hhve,hbqe,hwi]
            have HNo : Kept (wi = false → r = 3):=kp (fun e => by rw [← HR.out];exact Mu.node_bad HPast.out htm (by rw [hbad,e];rfl))
            have HYes : Kept (wi = true → ∀ to ∈ (Q.succ n).take (j + 1),Mu.badTo c.us c.ls s n h to = false):=kp (fun e y hy => by
              rw [List.take_add_one,HTo.out] at hy
              simp only [Option.toList_some,List.mem_append,List.mem_singleton] at hy
              rcases hy with hy | rfl
              · exact HAll.out y hy
              · rw [hbad,e];rfl)
            have hki : (k : Int) < (s.held.len : Int):=by omega
            subst hk
            subst e4
            have HE5:=kp e5
            clear hto htm hhve hc5 hbqe hwi hbad e5
            go_wp2
            apply lY (.is _ :: .is (.slice (some ad5) s.held.len s.held.cap) :: .is _ :: .is _ :: .is (.int .u32 (hv : Int)) :: .is (clA c) :: .is (ndA n) :: .is _ :: .is (.int .u32 (bq : Int)) :: .is (.bool wi) :: .is _ :: [])
              [[],[(0,49)],[],[(1,50),(2,51)],[(3,52)],[],[],[],[(5,54),(6,55),(7,56)],[(4,53),(8,57)],[(9,58)]]
              [(0,49),(1,50),(2,51),(3,52),(4,53),(5,54),(6,55),(7,56),(8,57),(9,58),(10,59)] (by kernel_rfl) (by kernel_rfl)
            case hob =>
              refine ⟨?o0,?o1,?o2,?o3,?o4,?o5,?o6,?o7,?o8,?o9,?o10,trivial⟩
              case o0 => intro W hW;change wpList _ _ _ _ _ _;go_wp2;exact j3 rfl rfl rfl
              case o1 =>
                intro W hW;rintro _ rfl;change wpList _ _ _ _ _ _
                have hq:=(HKs.out.below hW HKs.out.lt).cell 2
                simp only [scC,List.getElem?_cons_zero,List.getElem?_cons_succ] at hq
                rw [HE5.out] at hq
                go_wp2;exact j3 rfl rfl rfl
              case o2 => intro W hW;change wpList _ _ _ _ _ _;go_wp2;exact j3 rfl rfl rfl
              case o3 => intro W hW;rintro _ rfl;rintro _ rfl;change wpList _ _ _ _ _ _;go_wp2;exact j3 rfl rfl rfl
              case o4 =>
                intro W hW;rintro _ rfl;change wpList _ _ _ _ _ _
                have hq:=(hW.cell (p:=ad5.add k) (by rw [add_block];exact hb5)).trans HC5.out
                go_wp2;exact j3 rfl rfl rfl
              case o5 =>
                intro W hW;change wpList _ _ _ _ _ _
                go_must (refine j5 rfl 68 (.tmp 4) rfl g1 rfl _ (clC c) _ (HKc.out.below hW HKc.out.lt) Tryd.underlying68 rfl lV ?_)
                go_wp2;exact j3 rfl rfl rfl
              case o6 =>
                intro W hW;change wpList _ _ _ _ _ _
                go_must (refine j5 rfl 63 (.tmp 7) rfl g3 rfl _ (ndC n) _ (HKn.out.below hW HKn.out.lt) Tryd.underlying63 rfl jE ?_)
                go_wp2;exact j3 rfl rfl rfl
              case o7 => intro W hW;change wpList _ _ _ _ _ _;go_wp2;exact j3 rfl rfl rfl
              case o8 =>
                intro W hW;rintro _ rfl;rintro _ rfl;rintro _ rfl;change wpList _ _ _ _ _ _
                go_wp2_with fail
                refine (q4 wr.heap.size c n HN.out h hh W (HCr.out.below hW) hW.size HFit.out bq HBq.out).mono ?_
                rintro e w2 ⟨rfl,hb2⟩
                have HB2:=kp hb2;clear hb2
                go_wp2
                exact jH rfl rfl rfl HB2.out rfl
              case o9 =>
                intro W hW;rintro _ rfl;rintro _ rfl;change wpList _ _ _ _ _ _
                go_wp2_with fail
                refine (jM hv bq hhv hbq wi HWi.out W).mono ?_
                rintro e w2 ⟨rfl,rfl⟩
                go_wp2
                exact j3 rfl rfl rfl
              case o10 => intro W hW;rintro _ rfl;change wpList _ _ _ _ _ _;go_wp2;exact j3 rfl rfl rfl
            case hend =>
              intro W hW;rintro _ rfl;rintro _ rfl;rintro _ rfl;rintro _ rfl;rintro _ rfl;rintro _ rfl;rintro _ rfl;rintro _ rfl;rintro _ rfl;rintro _ rfl;rintro _ rfl
              simp only [given,jV,List.set]
              have HBo:=kp (HBr.out.trans (hW.mono hsr))
              have HWo:=kp (HW.out.trans (hW.mono HW.out.size))
              clear hW
              cases wi with
              | false =>
                go_wp2
                go_ret
                exact ⟨by rw [HNo.out (by simp)];rfl,HWo.out⟩
              | true =>
                go_wp2
                go_roundw
                case rel => exact ⟨j + 1,by omega,by go_num,HYes.out (by simp),HBo.out⟩
                case measure => simp [intOf];omega
          · have HE : Kept (0 = r):=kp (by
              rw [← HR.out]
              have h1:=HAll.out
              rw [List.take_of_length_le (by rw [HNl.out];omega)] at h1
              exact (Mu.node_fine HPast.out h1).symm)
            have hge : nl ≤ j:=by omega
            clear hlt
            go_wp2
            go_ret
            exact ⟨by rw [← HE.out];rfl,HW.out⟩
    · have hk9 : (n.kind == 9) = false:=by simpa using h9
      have HPast : Kept (Mu.Past c.ls s n h):=kp ⟨fun h1 => h7 h1.1,fun h1 => h9 h1.1⟩
      clear h7 h9
      go_wp2_with (first
          | ((with_reducible refine j4 rfl 68 (.tmp 0) rfl (clC c) rfl ?_);intro g1 w1 hg1 hk1 hw1;have HK1:=kp hk1;have HW1:=kp hw1;have hs1:=hw1.size;clear hg1 hk1 hw1)
          | ((with_reducible refine j4 rfl 54 (.tmp 1) rfl (scC s) rfl ?_);intro g2 w2 hg2 hk2 hw2;have HK2:=kp hk2;have HKa:=kp (HK1.out.below hw2 HK1.out.lt);have HW2:=kp (HW1.out.trans (hw2.mono hs1));have hs2:=HW2.out.size;clear hg2 hk2 hw2)
          | ((with_reducible refine j4 rfl 63 (.tmp 3) rfl (ndC n) rfl ?_);intro g3 w3 hg3 hk3 hw3;have HK3:=kp hk3;have HKb:=kp (HKa.out.below hw3 HKa.out.lt);have HKt:=kp (HK2.out.below hw3 HK2.out.lt);have HW3:=kp (HW2.out.trans (hw3.mono hs2));have hs3:=HW3.out.size
             obtain ⟨hc0,hc1,hc2,hc3⟩:=jB hk3;obtain ⟨hs_0,hs_1,hs_2,hs_5⟩:=lB HKt.out;obtain ⟨hu0,hu1,hu2⟩:=jP HKb.out
             rw [HAe.out] at hs_2;have hcH:=(HW3.out.cell (p:=adH.add at_) (by rw [add_block];omega)).trans HCH.out
             clear hg3 hk3 hw3)
          | ((with_reducible show Sl 42);go_must (refine j5 rfl 63 (.tmp 7) rfl g3 rfl _ (ndC n) _ HK3.out Tryd.underlying63 rfl jE ?_))
          | (go_at_call 67;go_must (refine (x8 n HN.out _).mono ?_);rintro e w4 ⟨v4,rfl,hown4,hb4⟩
             obtain ⟨A4,c4,rfl,hcl4,hcm4,hr4⟩:=hown4.readsN HNl.out
             have HR4:=kp hr4;have HW4:=kp (HW3.out.trans (hb4.mono hs3));have hs34:=hb4.size
             have HKc4:=kp (HKb.out.below hb4 HKb.out.lt);have HKs4:=kp (HKt.out.below hb4 HKt.out.lt);have HKn4:=kp (HK3.out.below hb4 HK3.out.lt)
             unfold maxLen at hcm4
             clear hown4 hr4 hb4 hc0 hc1 hc2 hc3 hs_0 hs_1 hs_2 hs_5 hu0 hu1 hu2 hcH))
      have hs4:=HW4.out.size
      go_loopw [45] (fun v45 wr => ∃ j : Nat,j ≤ nl ∧ v45 = .int .i64 j ∧ (∀ to ∈ (Q.succ n).take j,Mu.badTo c.us c.ls s n h to = false) ∧ Below w4.heap.size w4 wr) (fun v45 _ => nl - (intOf v45).toNat)
      case atStart => exact ⟨0,by omega,rfl,fun to ht => by simp at ht,Below.refl _ _⟩
      case round =>
        obtain ⟨j,hj,rfl,hall,hbr⟩:=hrel
        have HAll:=kp hall;have HBr:=kp hbr
        have hsr:=hbr.size
        have HW:=kp (HW4.out.trans (hbr.mono hs4))
        have HKc:=kp (HKc4.out.below hbr HKc4.out.lt);have HKs:=kp (HKs4.out.below hbr HKs4.out.lt);have HKn:=kp (HKn4.out.below hbr HKn4.out.lt)
        have HCr:=kp ((HC.out.below (HW.out.mono hB)).more (Nat.le_trans hB HW.out.size))
        have HSr:=kp ((HS.out.below (HW.out.mono hB)).more (Nat.le_trans hB HW.out.size))
        clear hall hbr
        by_cases hlt : j < nl
        · obtain ⟨ad4,to,e4,hb4,hto,hcto⟩:=(HR4.out.below HBr.out).get hlt
          rw [qT] at hcto
          have HTo:=kp hto
          have htm:=List.mem_of_getElem? hto
          obtain ⟨k,hk,hkl⟩:=HSf.out to htm
          obtain ⟨ad5,e5,hb5,_,hhv,hc5⟩:=HSr.out.held.get hkl
          obtain ⟨hv,hhve⟩ : ∃ hv,s.held.z.getD k 0 = hv:=⟨_,rfl⟩
          rw [hhve] at hhv hc5
          have HC5:=kp hc5
          obtain ⟨bq,hbqe⟩ : ∃ bq,Mu.behind c.us c.ls n h = bq:=⟨_,rfl⟩
          have HBq:=kp hbqe
          have hbq : bq < 4294967296:=by rw [← hbqe];exact xK HC.out HFit.out hh
          obtain ⟨wi,hwi⟩ : ∃ wi,S.within hv bq 32 = wi:=⟨_,rfl⟩
          have HWi:=kp hwi
          have hbad : Mu.badTo c.us c.ls s n h to = !wi:=by unfold Mu.badTo;rw [hk,Int.toNat_natCast,hhve,hbqe,hwi]
          have HNo : Kept (wi = false → r = 3):=kp (fun e => by rw [← HR.out];exact Mu.node_bad HPast.out htm (by rw [hbad,e];rfl))
          have HYes : Kept (wi = true → ∀ to ∈ (Q.succ n).take (j + 1),Mu.badTo c.us c.ls s n h to = false):=kp (fun e y hy => by
            rw [List.take_add_one,HTo.out] at hy
            simp only [Option.toList_some,List.mem_append,List.mem_singleton] at hy
            rcases hy with hy | rfl
            · exact HAll.out y hy
            · rw [hbad,e];rfl)
          have hki : (k : Int) < (s.held.len : Int):=by omega
          subst hk
          subst e4
          have HE5:=kp e5
          clear hto htm hhve hc5 hbqe hwi hbad e5
          go_wp2
          apply lY (.is _ :: .is (.slice (some ad5) s.held.len s.held.cap) :: .is _ :: .is _ :: .is (.int .u32 (hv : Int)) :: .is (clA c) :: .is (ndA n) :: .is _ :: .is (.int .u32 (bq : Int)) :: .is (.bool wi) :: .is _ :: [])
            [[],[(0,49)],[],[(1,50),(2,51)],[(3,52)],[],[],[],[(5,54),(6,55),(7,56)],[(4,53),(8,57)],[(9,58)]]
            [(0,49),(1,50),(2,51),(3,52),(4,53),(5,54),(6,55),(7,56),(8,57),(9,58),(10,59)] (by kernel_rfl) (by kernel_rfl)
          case hob =>
            refine ⟨?o0,?o1,?o2,?o3,?o4,?o5,?o6,?o7,?o8,?o9,?o10,trivial⟩
            case o0 => intro W hW;change wpList _ _ _ _ _ _;go_wp2;exact j3 rfl rfl rfl
            case o1 =>
              intro W hW;rintro _ rfl;change wpList _ _ _ _ _ _
              have hq:=(HKs.out.below hW HKs.out.lt).cell 2
              simp only [scC,List.getElem?_cons_zero,List.getElem?_cons_succ] at hq
              rw [HE5.out] at hq
              go_wp2;exact j3 rfl rfl rfl
            case o2 => intro W hW;change wpList _ _ _ _ _ _;go_wp2;exact j3 rfl rfl rfl
            case o3 => intro W hW;rintro _ rfl;rintro _ rfl;change wpList _ _ _ _ _ _;go_wp2;exact j3 rfl rfl rfl
            case o4 =>
              intro W hW;rintro _ rfl;change wpList _ _ _ _ _ _
              have hq:=(hW.cell (p:=ad5.add k) (by rw [add_block];exact hb5)).trans HC5.out
              go_wp2;exact j3 rfl rfl rfl
            case o5 =>
              intro W hW;change wpList _ _ _ _ _ _
              go_must (refine j5 rfl 68 (.tmp 4) rfl g1 rfl _ (clC c) _ (HKc.out.below hW HKc.out.lt) Tryd.underlying68 rfl lV ?_)
              go_wp2;exact j3 rfl rfl rfl
            case o6 =>
              intro W hW;change wpList _ _ _ _ _ _
              go_must (refine j5 rfl 63 (.tmp 7) rfl g3 rfl _ (ndC n) _ (HKn.out.below hW HKn.out.lt) Tryd.underlying63 rfl jE ?_)
              go_wp2;exact j3 rfl rfl rfl
            case o7 => intro W hW;change wpList _ _ _ _ _ _;go_wp2;exact j3 rfl rfl rfl
            case o8 =>
              intro W hW;rintro _ rfl;rintro _ rfl;rintro _ rfl;change wpList _ _ _ _ _ _
              go_wp2_with fail
              refine (q4 wr.heap.size c n HN.out h hh W (HCr.out.below hW) hW.size HFit.out bq HBq.out).mono ?_
              rintro e w2 ⟨rfl,hb2⟩
              have HB2:=kp hb2;clear hb2
              go_wp2
              exact jH rfl rfl rfl HB2.out rfl
            case o9 =>
              intro W hW;rintro _ rfl;rintro _ rfl;change wpList _ _ _ _ _ _
              go_wp2_with fail
              refine (jM hv bq hhv hbq wi HWi.out W).mono ?_
              rintro e w2 ⟨rfl,rfl⟩
              go_wp2
              exact j3 rfl rfl rfl
            case o10 => intro W hW;rintro _ rfl;change wpList _ _ _ _ _ _;go_wp2;exact j3 rfl rfl rfl
          case hend =>
            intro W hW;rintro _ rfl;rintro _ rfl;rintro _ rfl;rintro _ rfl;rintro _ rfl;rintro _ rfl;rintro _ rfl;rintro _ rfl;rintro _ rfl;rintro _ rfl;rintro _ rfl
            simp only [given,jV,List.set]
            have HBo:=kp (HBr.out.trans (hW.mono hsr))
            have HWo:=kp (HW.out.trans (hW.mono HW.out.size))
            clear hW
            cases wi with
            | false =>
              go_wp2
              go_ret
              exact ⟨by rw [HNo.out (by simp)];rfl,HWo.out⟩
            | true =>
              go_wp2
              go_roundw
              case rel => exact ⟨j + 1,by omega,by go_num,HYes.out (by simp),HBo.out⟩
              case measure => simp [intOf];omega
        · have HE : Kept (0 = r):=kp (by
            rw [← HR.out]
            have h1:=HAll.out
            rw [List.take_of_length_le (by rw [HNl.out];omega)] at h1
            exact (Mu.node_fine HPast.out h1).symm)
          have hge : nl ≤ j:=by omega
          clear hlt
          go_wp2
          go_ret
          exact ⟨by rw [← HE.out];rfl,HW.out⟩
end Go.Proofs.YtlgaefenhfmjfaaDoor
