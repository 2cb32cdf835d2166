/- What is wrong at a node, walked. -/
import Derived.Test.YtoekiejipdabmaaDoorPk7
import Derived.Test.YtoekiejipdabmaaDoorPk3
import Derived.Test.YtoekiejipdabmaaDoorProgRef5
namespace Go.Proofs.YtoekiejipdabmaaDoor
open Go.RowKit
theorem jW {w : World} {g : Nat} {t : TypeId} {x : Sc} (h : Blk w g t (scC x)) :
    w.cell? ⟨g,0,none⟩ = some (.int .u32 (x.en : Int)) ∧ w.cell? ⟨g,1,none⟩ = some (.int .u32 (x.ex : Int)) ∧ w.cell? ⟨g,2,none⟩ = some (.slice x.held.A x.held.len x.held.cap) ∧
      w.cell? ⟨g,3,none⟩ = some (.int .u32 (x.le : Int)) ∧ w.cell? ⟨g,4,none⟩ = some (.int .u32 (x.lx : Int)) ∧ w.cell? ⟨g,5,none⟩ = some (.slice x.live.A x.live.len x.live.cap) :=
  ⟨h.cell 0,h.cell 1,h.cell 2,h.cell 3,h.cell 4,h.cell 5⟩
set_option maxRecDepth 1000000 in
set_option maxHeartbeats 8000000 in
theorem may_node (B : Nat) (c : Clm) (s : Sc) (n : Nd) (hn : n.Ok) (h : Nat) (hh : h < 4294967296) (w : World) (hc : c.Ok w B) (hs : s.Ok w B) (hB : B ≤ w.heap.size) (hf : CallFit16 c.ll n) (hsf : SuccFit s.live.len n) (r : Nat) (hr : Ma.node c.m c.lost c.ls s n h = r) :
    Calls Tryd.prog 39 #[clmA c,scA s,.int .u32 (h : Int),ndA n] w fun e w' => e = .returned (.int .i64 (r : Int)) ∧ Below w.heap.size w w':=by
  have HC:=kp hc;have HS:=kp hs;have HN:=kp hn;have HFit:=kp hf;have HSf:=kp hsf;have HLo:=kp hc.lost
  have hlc:=hc.lc;have hlm:=hc.lm
  have hvc:=hs.live.lc;have hvm:=hs.live.cm
  unfold maxLen at hlm hvm
  have HR:=kp hr
  obtain ⟨nl,hnl⟩ : ∃ nl,(Q.succ n).length = nl:=⟨_,rfl⟩
  have HNl:=kp hnl
  have hnl2 : nl ≤ 2:=by rw [← hnl];unfold Q.succ;split <;> (try split) <;> simp
  have hlx : s.lx < 4294967296:=hs.lx
  obtain ⟨bq,hbqe⟩ : ∃ bq,Ma.beh c.m c.lost c.ls n h = bq:=⟨_,rfl⟩
  have HBq:=kp hbqe
  have hbq : bq < 4294967296:=by rw [← hbqe];exact Ma.behind_lt hh (XO hc.secs)
  clear hc hs hn hf hsf hr hnl hbqe
  rw [JP,scA_is,show ndA n = .agg (ndC n).toArray from rfl]
  go_enter Tryd.func39,Tryd.ntmps39
  by_cases h7 : n.kind = 7
  · have hk7 : (n.kind == 7) = true:=by simpa using h7
    obtain ⟨k,hka,hkl⟩:=HFit.out (.inl h7)
    obtain ⟨ad,x,e0,hb0,hx,hxok,hd3,hd4,hd5⟩:=HC.out.secs.get16 hkl
    have HCd:=kp hd3
    have hx32:=hxok.le
    have hx2 : c.ls.getD k default = x:=by rw [List.getD_eq_getElem?_getD,hx];rfl
    obtain ⟨r5,hr5⟩ : ∃ r5,S.within h x.le 32 = r5:=⟨_,rfl⟩
    have HR5:=kp hr5
    have hki : (k : Int) < (c.ll : Int):=by omega
    have HKa2:=kp hka
    have HE0:=kp e0
    have hk9 : (n.kind == 9) = false:=by rw [h7];rfl
    have hk5 : (n.kind == 5) = false:=by rw [h7];rfl
    cases r5 with
    | false =>
      have HE : Kept (6 = r):=kp (by rw [← HR.out];exact (Ma.node_call h7 (by rw [hka,Int.toNat_natCast,hx2];exact hr5)).symm)
      clear h7 hka hx hxok hx2 hr5 hd3 hd4 hd5 e0
      go_wp2_with (first
        | ((with_reducible refine j4 rfl 70 (.tmp 0) rfl (clmC c) rfl ?_);intro g1 w1 hg1 hk1 hw1;have HK1:=kp hk1;have HW1:=kp hw1;have hs1:=hw1.size;clear hg1 hk1 hw1)
        | ((with_reducible refine j4 rfl 56 (.tmp 1) rfl (scC s) rfl ?_);intro g2 w2 hg2 hk2 hw2;have HK2:=kp hk2;have HKa:=kp (HK1.out.below hw2 HK1.out.lt);have HW2:=kp (HW1.out.trans (hw2.mono hs1));have hs2:=HW2.out.size;clear hg2 hk2 hw2)
        | ((with_reducible refine j4 rfl 66 (.tmp 3) rfl (ndC n) rfl ?_);intro g3 w3 hg3 hk3 hw3;have HK3:=kp hk3;have HKb:=kp (HKa.out.below hw3 HKa.out.lt);have HKt:=kp (HK2.out.below hw3 HK2.out.lt);have HW3:=kp (HW2.out.trans (hw3.mono hs2));have hs3:=HW3.out.size
           obtain ⟨hc0,hc1,hc2,hc3⟩:=jB hk3;obtain ⟨hs_0,hs_1,hs_2,hs_3,hs_4,hs_5⟩:=jW HKt.out;obtain ⟨hu0,hu1,hu2⟩:=lL HKb.out;rw [HE0.out] at hu0;rw [HKa2.out] at hc1;have hcd:=(HW3.out.cell (p:=⟨(ad.add (k * 6)).block,(ad.add (k * 6)).off + 3,none⟩) (by show (ad.add (k * 6)).block < _;rw [add_block];omega)).trans HCd.out
           clear hg3 hk3 hw3)
        | (go_at_call 38;go_must (refine (jV h x.le hh hx32 _ HR5.out _).mono ?_);rintro e w9 ⟨rfl,rfl⟩))
      go_ret
      exact ⟨by rw [← HE.out];rfl,HW3.out⟩
    | true =>
      have HPast : Kept (Ma.Past c.lost c.ls s n h):=kp ⟨fun h1 => (by have h2:=h1.2;rw [hka,Int.toNat_natCast,hx2,hr5] at h2;cases h2),fun h1 => (by have h2:=h1.1;omega),fun h1 => (by have h2:=h1.1;omega)⟩
      clear h7 hka hx hxok hx2 hr5 hd3 hd4 hd5 e0
      go_wp2_with (first
        | ((with_reducible refine j4 rfl 70 (.tmp 0) rfl (clmC c) rfl ?_);intro g1 w1 hg1 hk1 hw1;have HK1:=kp hk1;have HW1:=kp hw1;have hs1:=hw1.size;clear hg1 hk1 hw1)
        | ((with_reducible refine j4 rfl 56 (.tmp 1) rfl (scC s) rfl ?_);intro g2 w2 hg2 hk2 hw2;have HK2:=kp hk2;have HKa:=kp (HK1.out.below hw2 HK1.out.lt);have HW2:=kp (HW1.out.trans (hw2.mono hs1));have hs2:=HW2.out.size;clear hg2 hk2 hw2)
        | ((with_reducible refine j4 rfl 66 (.tmp 3) rfl (ndC n) rfl ?_);intro g3 w3 hg3 hk3 hw3;have HK3:=kp hk3;have HKb:=kp (HKa.out.below hw3 HKa.out.lt);have HKt:=kp (HK2.out.below hw3 HK2.out.lt);have HW3:=kp (HW2.out.trans (hw3.mono hs2));have hs3:=HW3.out.size
           obtain ⟨hc0,hc1,hc2,hc3⟩:=jB hk3;obtain ⟨hs_0,hs_1,hs_2,hs_3,hs_4,hs_5⟩:=jW HKt.out;obtain ⟨hu0,hu1,hu2⟩:=lL HKb.out;rw [HE0.out] at hu0;rw [HKa2.out] at hc1;have hcd:=(HW3.out.cell (p:=⟨(ad.add (k * 6)).block,(ad.add (k * 6)).off + 3,none⟩) (by show (ad.add (k * 6)).block < _;rw [add_block];omega)).trans HCd.out
           clear hg3 hk3 hw3)
        | (go_at_call 38;go_must (refine (jV h x.le hh hx32 _ HR5.out _).mono ?_);rintro e w9 ⟨rfl,rfl⟩)
        | ((with_reducible show Sl 46);go_must (refine j6 rfl 70 (.tmp 4) rfl g1 rfl _ (clmC c) _ HKb.out Tryd.underlying70 rfl qU ?_))
        | ((with_reducible show Sl 47);go_must (refine j6 rfl 66 (.tmp 7) rfl g3 rfl _ (ndC n) _ HK3.out Tryd.underlying66 rfl jD ?_))
        | (go_at_call 63;fail))
      clear hc0 hc1 hc2 hc3 hs_0 hs_1 hs_2 hs_3 hs_4 hs_5 hu0 hu1 hu2 hcd
      have HQ:=kp (Below.refl w3.heap.size w3)
      have HWq:=kp (HW3.out.trans (HQ.out.mono hs3));have hsq:=HWq.out.size
      refine (vT B c n HN.out h hh w3 (HC.out.below (HWq.out.mono hB)) (Nat.le_trans hB hsq) HFit.out bq HBq.out).mono ?_
      rintro e w4 ⟨rfl,hb4⟩
      have HW4:=kp (HWq.out.trans (hb4.mono hsq));have hs4:=HW4.out.size
      have HKt4:=kp ((HKt.out.below HQ.out HKt.out.lt).below hb4 (HKt.out.below HQ.out HKt.out.lt).lt);have HK34:=kp ((HK3.out.below HQ.out HK3.out.lt).below hb4 (HK3.out.below HQ.out HK3.out.lt).lt)
      clear hb4
      go_wp2_with (first
        | ((with_reducible show Sl 50);go_must (refine j6 rfl 66 (.tmp 7) rfl g3 rfl _ (ndC n) _ HK34.out Tryd.underlying66 rfl jD ?_))
        | (go_at_call 64;go_must (refine (yD n HN.out _).mono ?_);rintro e w5 ⟨v5,rfl,hown5,hb5⟩
           obtain ⟨A5,c5,rfl,hcl5,hcm5,hr5⟩:=hown5.readsN HNl.out
           have HR5:=kp hr5;have HW5:=kp (HW4.out.trans (hb5.mono hs4))
           have HKs5:=kp (HKt4.out.below hb5 HKt4.out.lt)
           unfold maxLen at hcm5
           clear hown5 hr5 hb5))
      have hs5:=HW5.out.size
      go_loopw [53] (fun v53 wr => ∃ j : Nat,j ≤ nl ∧ v53 = .int .i64 j ∧ (∀ to ∈ (Q.succ n).take j,Ma.badTo c.m c.lost c.ls s n h to = false) ∧ Below w5.heap.size w5 wr) (fun v53 _ => nl - (intOf v53).toNat)
      case atStart => exact ⟨0,by omega,rfl,fun to ht => by simp at ht,Below.refl _ _⟩
      case round =>
        obtain ⟨j,hj,rfl,hall,hbr⟩:=hrel
        have HAll:=kp hall;have HBr:=kp hbr
        have hsr:=hbr.size
        have HW:=kp (HW5.out.trans (hbr.mono hs5))
        have HKs:=kp (HKs5.out.below hbr HKs5.out.lt)
        have HSr:=kp ((HS.out.below (HW.out.mono hB)).more (Nat.le_trans hB HW.out.size))
        clear hall hbr
        by_cases hlt : j < nl
        · obtain ⟨ad4,to,e4,hb4,hto,hcto⟩:=(HR5.out.below HBr.out).get hlt
          rw [y4] at hcto
          have htm:=List.mem_of_getElem? hto
          have HTo:=kp hto
          obtain ⟨k,hk,hkl⟩:=HSf.out to htm
          obtain ⟨ad5,e5,hb5,_,hhv,hc5⟩:=HSr.out.live.get hkl
          obtain ⟨hv,hhve⟩ : ∃ hv,s.live.z.getD k 0 = hv:=⟨_,rfl⟩
          rw [hhve] at hhv hc5
          have HC5:=kp hc5
          obtain ⟨wi,hwi⟩ : ∃ wi,S.within bq hv 32 = wi:=⟨_,rfl⟩
          have HWi:=kp hwi
          have hbad : Ma.badTo c.m c.lost c.ls s n h to = !wi:=by unfold Ma.badTo;rw [hk,Int.toNat_natCast,hhve,HBq.out,hwi]
          have HNo : Kept (wi = false → r = 6):=kp (fun e => by rw [← HR.out];exact Ma.node_bad HPast.out htm (by rw [hbad,e];rfl))
          have HYes : Kept (wi = true → ∀ to ∈ (Q.succ n).take (j + 1),Ma.badTo c.m c.lost c.ls s n h to = false):=kp (fun e y hy => by
            rw [List.take_add_one,HTo.out] at hy
            simp only [Option.toList_some,List.mem_append,List.mem_singleton] at hy
            rcases hy with hy | rfl
            · exact HAll.out y hy
            · rw [hbad,e];rfl)
          have hki : (k : Int) < (s.live.len : Int):=by omega
          subst hk
          subst e4
          obtain ⟨hs_0,hs_1,hs_2,hs_3,hs_4,hs_5⟩:=jW HKs.out
          rw [e5] at hs_5
          clear hto htm hhve hwi hbad e5
          cases wi with
          | false =>
            go_wp2_with (first
              | (go_at_call 38;go_must (refine (jV bq hv hbq hhv _ HWi.out _).mono ?_);rintro e w9 ⟨rfl,rfl⟩))
            go_ret
            exact ⟨by rw [HNo.out (by simp)];rfl,HW.out⟩
          | true =>
            go_wp2_with (first
              | (go_at_call 38;go_must (refine (jV bq hv hbq hhv _ HWi.out _).mono ?_);rintro e w9 ⟨rfl,rfl⟩))
            go_roundw
            case rel => exact ⟨j + 1,by omega,by go_num,HYes.out (by simp),HBr.out⟩
            case measure => simp [intOf];omega
        · have HE : Kept (0 = r):=kp (by
            rw [← HR.out]
            have h1:=HAll.out
            rw [List.take_of_length_le (by rw [HNl.out];omega)] at h1
            exact (Ma.node_fine HPast.out h1).symm)
          have hge : nl ≤ j:=by omega
          clear hlt
          go_wp2
          go_ret
          exact ⟨by rw [← HE.out];rfl,HW.out⟩
  have hk7 : (n.kind == 7) = false:=by simpa using h7
  by_cases h9 : n.kind = 9
  · have hk9 : (n.kind == 9) = true:=by simpa using h9
    have hk5 : (n.kind == 5) = false:=by rw [h9];rfl
    obtain ⟨r9,hr9⟩ : ∃ r9,S.within h s.lx 32 = r9:=⟨_,rfl⟩
    have HR9:=kp hr9
    cases r9 with
    | false =>
      have HE : Kept (6 = r):=kp (by rw [← HR.out];exact (Ma.node_exit h9 hr9).symm)
      clear h7 h9 hr9
      go_wp2_with (first
        | ((with_reducible refine j4 rfl 70 (.tmp 0) rfl (clmC c) rfl ?_);intro g1 w1 hg1 hk1 hw1;have HK1:=kp hk1;have HW1:=kp hw1;have hs1:=hw1.size;clear hg1 hk1 hw1)
        | ((with_reducible refine j4 rfl 56 (.tmp 1) rfl (scC s) rfl ?_);intro g2 w2 hg2 hk2 hw2;have HK2:=kp hk2;have HKa:=kp (HK1.out.below hw2 HK1.out.lt);have HW2:=kp (HW1.out.trans (hw2.mono hs1));have hs2:=HW2.out.size;clear hg2 hk2 hw2)
        | ((with_reducible refine j4 rfl 66 (.tmp 3) rfl (ndC n) rfl ?_);intro g3 w3 hg3 hk3 hw3;have HK3:=kp hk3;have HKb:=kp (HKa.out.below hw3 HKa.out.lt);have HKt:=kp (HK2.out.below hw3 HK2.out.lt);have HW3:=kp (HW2.out.trans (hw3.mono hs2));have hs3:=HW3.out.size
           obtain ⟨hc0,hc1,hc2,hc3⟩:=jB hk3;obtain ⟨hs_0,hs_1,hs_2,hs_3,hs_4,hs_5⟩:=jW HKt.out;obtain ⟨hu0,hu1,hu2⟩:=lL HKb.out
           clear hg3 hk3 hw3)
        | (go_at_call 38;go_must (refine (jV h s.lx hh hlx _ HR9.out _).mono ?_);rintro e w9 ⟨rfl,rfl⟩))
      go_ret
      exact ⟨by rw [← HE.out];rfl,HW3.out⟩
    | true =>
      have HPast : Kept (Ma.Past c.lost c.ls s n h):=kp ⟨fun h1 => h7 h1.1,fun h1 => (by have h2:=h1.2;rw [hr9] at h2;cases h2),fun h1 => (by have h2:=h1.1;omega)⟩
      clear h7 h9 hr9
      go_wp2_with (first
        | ((with_reducible refine j4 rfl 70 (.tmp 0) rfl (clmC c) rfl ?_);intro g1 w1 hg1 hk1 hw1;have HK1:=kp hk1;have HW1:=kp hw1;have hs1:=hw1.size;clear hg1 hk1 hw1)
        | ((with_reducible refine j4 rfl 56 (.tmp 1) rfl (scC s) rfl ?_);intro g2 w2 hg2 hk2 hw2;have HK2:=kp hk2;have HKa:=kp (HK1.out.below hw2 HK1.out.lt);have HW2:=kp (HW1.out.trans (hw2.mono hs1));have hs2:=HW2.out.size;clear hg2 hk2 hw2)
        | ((with_reducible refine j4 rfl 66 (.tmp 3) rfl (ndC n) rfl ?_);intro g3 w3 hg3 hk3 hw3;have HK3:=kp hk3;have HKb:=kp (HKa.out.below hw3 HKa.out.lt);have HKt:=kp (HK2.out.below hw3 HK2.out.lt);have HW3:=kp (HW2.out.trans (hw3.mono hs2));have hs3:=HW3.out.size
           obtain ⟨hc0,hc1,hc2,hc3⟩:=jB hk3;obtain ⟨hs_0,hs_1,hs_2,hs_3,hs_4,hs_5⟩:=jW HKt.out;obtain ⟨hu0,hu1,hu2⟩:=lL HKb.out
           clear hg3 hk3 hw3)
        | (go_at_call 38;go_must (refine (jV h s.lx hh hlx _ HR9.out _).mono ?_);rintro e w9 ⟨rfl,rfl⟩)
        | ((with_reducible show Sl 46);go_must (refine j6 rfl 70 (.tmp 4) rfl g1 rfl _ (clmC c) _ HKb.out Tryd.underlying70 rfl qU ?_))
        | ((with_reducible show Sl 47);go_must (refine j6 rfl 66 (.tmp 7) rfl g3 rfl _ (ndC n) _ HK3.out Tryd.underlying66 rfl jD ?_))
        | (go_at_call 63;fail))
      clear hc0 hc1 hc2 hc3 hs_0 hs_1 hs_2 hs_3 hs_4 hs_5 hu0 hu1 hu2
      have HQ:=kp (Below.refl w3.heap.size w3)
      have HWq:=kp (HW3.out.trans (HQ.out.mono hs3));have hsq:=HWq.out.size
      refine (vT B c n HN.out h hh w3 (HC.out.below (HWq.out.mono hB)) (Nat.le_trans hB hsq) HFit.out bq HBq.out).mono ?_
      rintro e w4 ⟨rfl,hb4⟩
      have HW4:=kp (HWq.out.trans (hb4.mono hsq));have hs4:=HW4.out.size
      have HKt4:=kp ((HKt.out.below HQ.out HKt.out.lt).below hb4 (HKt.out.below HQ.out HKt.out.lt).lt);have HK34:=kp ((HK3.out.below HQ.out HK3.out.lt).below hb4 (HK3.out.below HQ.out HK3.out.lt).lt)
      clear hb4
      go_wp2_with (first
        | ((with_reducible show Sl 50);go_must (refine j6 rfl 66 (.tmp 7) rfl g3 rfl _ (ndC n) _ HK34.out Tryd.underlying66 rfl jD ?_))
        | (go_at_call 64;go_must (refine (yD n HN.out _).mono ?_);rintro e w5 ⟨v5,rfl,hown5,hb5⟩
           obtain ⟨A5,c5,rfl,hcl5,hcm5,hr5⟩:=hown5.readsN HNl.out
           have HR5:=kp hr5;have HW5:=kp (HW4.out.trans (hb5.mono hs4))
           have HKs5:=kp (HKt4.out.below hb5 HKt4.out.lt)
           unfold maxLen at hcm5
           clear hown5 hr5 hb5))
      have hs5:=HW5.out.size
      go_loopw [53] (fun v53 wr => ∃ j : Nat,j ≤ nl ∧ v53 = .int .i64 j ∧ (∀ to ∈ (Q.succ n).take j,Ma.badTo c.m c.lost c.ls s n h to = false) ∧ Below w5.heap.size w5 wr) (fun v53 _ => nl - (intOf v53).toNat)
      case atStart => exact ⟨0,by omega,rfl,fun to ht => by simp at ht,Below.refl _ _⟩
      case round =>
        obtain ⟨j,hj,rfl,hall,hbr⟩:=hrel
        have HAll:=kp hall;have HBr:=kp hbr
        have hsr:=hbr.size
        have HW:=kp (HW5.out.trans (hbr.mono hs5))
        have HKs:=kp (HKs5.out.below hbr HKs5.out.lt)
        have HSr:=kp ((HS.out.below (HW.out.mono hB)).more (Nat.le_trans hB HW.out.size))
        clear hall hbr
        by_cases hlt : j < nl
        · obtain ⟨ad4,to,e4,hb4,hto,hcto⟩:=(HR5.out.below HBr.out).get hlt
          rw [y4] at hcto
          have htm:=List.mem_of_getElem? hto
          have HTo:=kp hto
          obtain ⟨k,hk,hkl⟩:=HSf.out to htm
          obtain ⟨ad5,e5,hb5,_,hhv,hc5⟩:=HSr.out.live.get hkl
          obtain ⟨hv,hhve⟩ : ∃ hv,s.live.z.getD k 0 = hv:=⟨_,rfl⟩
          rw [hhve] at hhv hc5
          have HC5:=kp hc5
          obtain ⟨wi,hwi⟩ : ∃ wi,S.within bq hv 32 = wi:=⟨_,rfl⟩
          have HWi:=kp hwi
          have hbad : Ma.badTo c.m c.lost c.ls s n h to = !wi:=by unfold Ma.badTo;rw [hk,Int.toNat_natCast,hhve,HBq.out,hwi]
          have HNo : Kept (wi = false → r = 6):=kp (fun e => by rw [← HR.out];exact Ma.node_bad HPast.out htm (by rw [hbad,e];rfl))
          have HYes : Kept (wi = true → ∀ to ∈ (Q.succ n).take (j + 1),Ma.badTo c.m c.lost c.ls s n h to = false):=kp (fun e y hy => by
            rw [List.take_add_one,HTo.out] at hy
            simp only [Option.toList_some,List.mem_append,List.mem_singleton] at hy
            rcases hy with hy | rfl
            · exact HAll.out y hy
            · rw [hbad,e];rfl)
          have hki : (k : Int) < (s.live.len : Int):=by omega
          subst hk
          subst e4
          obtain ⟨hs_0,hs_1,hs_2,hs_3,hs_4,hs_5⟩:=jW HKs.out
          rw [e5] at hs_5
          clear hto htm hhve hwi hbad e5
          cases wi with
          | false =>
            go_wp2_with (first
              | (go_at_call 38;go_must (refine (jV bq hv hbq hhv _ HWi.out _).mono ?_);rintro e w9 ⟨rfl,rfl⟩))
            go_ret
            exact ⟨by rw [HNo.out (by simp)];rfl,HW.out⟩
          | true =>
            go_wp2_with (first
              | (go_at_call 38;go_must (refine (jV bq hv hbq hhv _ HWi.out _).mono ?_);rintro e w9 ⟨rfl,rfl⟩))
            go_roundw
            case rel => exact ⟨j + 1,by omega,by go_num,HYes.out (by simp),HBr.out⟩
            case measure => simp [intOf];omega
        · have HE : Kept (0 = r):=kp (by
            rw [← HR.out]
            have h1:=HAll.out
            rw [List.take_of_length_le (by rw [HNl.out];omega)] at h1
            exact (Ma.node_fine HPast.out h1).symm)
          have hge : nl ≤ j:=by omega
          clear hlt
          go_wp2
          go_ret
          exact ⟨by rw [← HE.out];rfl,HW.out⟩
  have hk9 : (n.kind == 9) = false:=by simpa using h9
  by_cases h5 : n.kind = 5
  · have hk5 : (n.kind == 5) = true:=by simpa using h5
    obtain ⟨k,hka,hkl⟩:=HFit.out (.inr h5)
    obtain ⟨ad,x,e0,hb0,hx,hxok,hd3,hd4,hd5⟩:=HC.out.secs.get16 hkl
    have HCd:=kp hd3
    have hx32:=hxok.le
    have hx2 : c.ls.getD k default = x:=by rw [List.getD_eq_getElem?_getD,hx];rfl
    obtain ⟨r5,hr5⟩ : ∃ r5,S.has x.le c.lost = r5:=⟨_,rfl⟩
    have HR5:=kp hr5
    have hki : (k : Int) < (c.ll : Int):=by omega
    have HKa2:=kp hka
    have HE0:=kp e0
    cases r5 with
    | false =>
      have HE : Kept (7 = r):=kp (by rw [← HR.out];exact (Ma.node_spawn h5 (by rw [hka,Int.toNat_natCast,hx2];exact hr5)).symm)
      clear h5 h7 h9 hka hx hxok hx2 hr5 hd3 hd4 hd5 e0
      go_wp2_with (first
        | ((with_reducible refine j4 rfl 70 (.tmp 0) rfl (clmC c) rfl ?_);intro g1 w1 hg1 hk1 hw1;have HK1:=kp hk1;have HW1:=kp hw1;have hs1:=hw1.size;clear hg1 hk1 hw1)
        | ((with_reducible refine j4 rfl 56 (.tmp 1) rfl (scC s) rfl ?_);intro g2 w2 hg2 hk2 hw2;have HK2:=kp hk2;have HKa:=kp (HK1.out.below hw2 HK1.out.lt);have HW2:=kp (HW1.out.trans (hw2.mono hs1));have hs2:=HW2.out.size;clear hg2 hk2 hw2)
        | ((with_reducible refine j4 rfl 66 (.tmp 3) rfl (ndC n) rfl ?_);intro g3 w3 hg3 hk3 hw3;have HK3:=kp hk3;have HKb:=kp (HKa.out.below hw3 HKa.out.lt);have HKt:=kp (HK2.out.below hw3 HK2.out.lt);have HW3:=kp (HW2.out.trans (hw3.mono hs2));have hs3:=HW3.out.size
           obtain ⟨hc0,hc1,hc2,hc3⟩:=jB hk3;obtain ⟨hs_0,hs_1,hs_2,hs_3,hs_4,hs_5⟩:=jW HKt.out;obtain ⟨hu0,hu1,hu2⟩:=lL HKb.out;rw [HE0.out] at hu0;rw [HKa2.out] at hc1;have hcd:=(HW3.out.cell (p:=⟨(ad.add (k * 6)).block,(ad.add (k * 6)).off + 3,none⟩) (by show (ad.add (k * 6)).block < _;rw [add_block];omega)).trans HCd.out
           clear hg3 hk3 hw3))
      refine wp_region_quiet_lit (by kernel_rfl) (by kernel_rfl) ?_
      iterate 10 (go_big_quiet_step (exact lO (yJ x.le hx32 c.lost HLo.out _ HR5.out _)))
      iterate 1 (go_big_quiet_step (fail))
      refine wpQuiet_nil ?_
      intro _ hw'
      obtain ⟨nq,hw''⟩:=hw'
      subst hw''
      obtain ⟨wq,hwq⟩ : ∃ q,w3.drewN nq = q:=⟨_,rfl⟩
      have HQ : Kept (Below w3.heap.size w3 wq):=kp (by rw [← hwq];exact below_drewN (Below.refl _ _) _)
      rw [hwq]
      clear hwq hcd hc0 hc1 hc2 hc3 hs_0 hs_1 hs_2 hs_3 hs_4 hs_5 hu0 hu1 hu2
      go_wp2
      go_ret
      exact ⟨by rw [← HE.out];rfl,HW3.out.trans (HQ.out.mono hs3)⟩
    | true =>
      have HPast : Kept (Ma.Past c.lost c.ls s n h):=kp ⟨fun h1 => h7 h1.1,fun h1 => h9 h1.1,fun h1 => (by have h2:=h1.2;rw [hka,Int.toNat_natCast,hx2,hr5] at h2;cases h2)⟩
      clear h5 h7 h9 hka hx hxok hx2 hr5 hd3 hd4 hd5 e0
      go_wp2_with (first
        | ((with_reducible refine j4 rfl 70 (.tmp 0) rfl (clmC c) rfl ?_);intro g1 w1 hg1 hk1 hw1;have HK1:=kp hk1;have HW1:=kp hw1;have hs1:=hw1.size;clear hg1 hk1 hw1)
        | ((with_reducible refine j4 rfl 56 (.tmp 1) rfl (scC s) rfl ?_);intro g2 w2 hg2 hk2 hw2;have HK2:=kp hk2;have HKa:=kp (HK1.out.below hw2 HK1.out.lt);have HW2:=kp (HW1.out.trans (hw2.mono hs1));have hs2:=HW2.out.size;clear hg2 hk2 hw2)
        | ((with_reducible refine j4 rfl 66 (.tmp 3) rfl (ndC n) rfl ?_);intro g3 w3 hg3 hk3 hw3;have HK3:=kp hk3;have HKb:=kp (HKa.out.below hw3 HKa.out.lt);have HKt:=kp (HK2.out.below hw3 HK2.out.lt);have HW3:=kp (HW2.out.trans (hw3.mono hs2));have hs3:=HW3.out.size
           obtain ⟨hc0,hc1,hc2,hc3⟩:=jB hk3;obtain ⟨hs_0,hs_1,hs_2,hs_3,hs_4,hs_5⟩:=jW HKt.out;obtain ⟨hu0,hu1,hu2⟩:=lL HKb.out;rw [HE0.out] at hu0;rw [HKa2.out] at hc1;have hcd:=(HW3.out.cell (p:=⟨(ad.add (k * 6)).block,(ad.add (k * 6)).off + 3,none⟩) (by show (ad.add (k * 6)).block < _;rw [add_block];omega)).trans HCd.out
           clear hg3 hk3 hw3))
      refine wp_region_quiet_lit (by kernel_rfl) (by kernel_rfl) ?_
      iterate 10 (go_big_quiet_step (exact lO (yJ x.le hx32 c.lost HLo.out _ HR5.out _)))
      iterate 1 (go_big_quiet_step (fail))
      refine wpQuiet_nil ?_
      intro _ hw'
      obtain ⟨nq,hw''⟩:=hw'
      subst hw''
      obtain ⟨wq,hwq⟩ : ∃ q,w3.drewN nq = q:=⟨_,rfl⟩
      have HQ : Kept (Below w3.heap.size w3 wq):=kp (by rw [← hwq];exact below_drewN (Below.refl _ _) _)
      rw [hwq]
      clear hwq hcd hc0 hc1 hc2 hc3 hs_0 hs_1 hs_2 hs_3 hs_4 hs_5 hu0 hu1 hu2
      go_wp2_with (first
        | ((with_reducible show Sl 46);go_must (refine j6 rfl 70 (.tmp 4) rfl g1 rfl _ (clmC c) _ (HKb.out.below HQ.out HKb.out.lt) Tryd.underlying70 rfl qU ?_))
        | ((with_reducible show Sl 47);go_must (refine j6 rfl 66 (.tmp 7) rfl g3 rfl _ (ndC n) _ (HK3.out.below HQ.out HK3.out.lt) Tryd.underlying66 rfl jD ?_))
        | (go_at_call 63;fail))
      have HWq:=kp (HW3.out.trans (HQ.out.mono hs3));have hsq:=HWq.out.size
      refine (vT B c n HN.out h hh wq (HC.out.below (HWq.out.mono hB)) (Nat.le_trans hB hsq) HFit.out bq HBq.out).mono ?_
      rintro e w4 ⟨rfl,hb4⟩
      have HW4:=kp (HWq.out.trans (hb4.mono hsq));have hs4:=HW4.out.size
      have HKt4:=kp ((HKt.out.below HQ.out HKt.out.lt).below hb4 (HKt.out.below HQ.out HKt.out.lt).lt);have HK34:=kp ((HK3.out.below HQ.out HK3.out.lt).below hb4 (HK3.out.below HQ.out HK3.out.lt).lt)
      clear hb4
      go_wp2_with (first
        | ((with_reducible show Sl 50);go_must (refine j6 rfl 66 (.tmp 7) rfl g3 rfl _ (ndC n) _ HK34.out Tryd.underlying66 rfl jD ?_))
        | (go_at_call 64;go_must (refine (yD n HN.out _).mono ?_);rintro e w5 ⟨v5,rfl,hown5,hb5⟩
           obtain ⟨A5,c5,rfl,hcl5,hcm5,hr5⟩:=hown5.readsN HNl.out
           have HR5:=kp hr5;have HW5:=kp (HW4.out.trans (hb5.mono hs4))
           have HKs5:=kp (HKt4.out.below hb5 HKt4.out.lt)
           unfold maxLen at hcm5
           clear hown5 hr5 hb5))
      have hs5:=HW5.out.size
      go_loopw [53] (fun v53 wr => ∃ j : Nat,j ≤ nl ∧ v53 = .int .i64 j ∧ (∀ to ∈ (Q.succ n).take j,Ma.badTo c.m c.lost c.ls s n h to = false) ∧ Below w5.heap.size w5 wr) (fun v53 _ => nl - (intOf v53).toNat)
      case atStart => exact ⟨0,by omega,rfl,fun to ht => by simp at ht,Below.refl _ _⟩
      case round =>
        obtain ⟨j,hj,rfl,hall,hbr⟩:=hrel
        have HAll:=kp hall;have HBr:=kp hbr
        have hsr:=hbr.size
        have HW:=kp (HW5.out.trans (hbr.mono hs5))
        have HKs:=kp (HKs5.out.below hbr HKs5.out.lt)
        have HSr:=kp ((HS.out.below (HW.out.mono hB)).more (Nat.le_trans hB HW.out.size))
        clear hall hbr
        by_cases hlt : j < nl
        · obtain ⟨ad4,to,e4,hb4,hto,hcto⟩:=(HR5.out.below HBr.out).get hlt
          rw [y4] at hcto
          have htm:=List.mem_of_getElem? hto
          have HTo:=kp hto
          obtain ⟨k,hk,hkl⟩:=HSf.out to htm
          obtain ⟨ad5,e5,hb5,_,hhv,hc5⟩:=HSr.out.live.get hkl
          obtain ⟨hv,hhve⟩ : ∃ hv,s.live.z.getD k 0 = hv:=⟨_,rfl⟩
          rw [hhve] at hhv hc5
          have HC5:=kp hc5
          obtain ⟨wi,hwi⟩ : ∃ wi,S.within bq hv 32 = wi:=⟨_,rfl⟩
          have HWi:=kp hwi
          have hbad : Ma.badTo c.m c.lost c.ls s n h to = !wi:=by unfold Ma.badTo;rw [hk,Int.toNat_natCast,hhve,HBq.out,hwi]
          have HNo : Kept (wi = false → r = 6):=kp (fun e => by rw [← HR.out];exact Ma.node_bad HPast.out htm (by rw [hbad,e];rfl))
          have HYes : Kept (wi = true → ∀ to ∈ (Q.succ n).take (j + 1),Ma.badTo c.m c.lost c.ls s n h to = false):=kp (fun e y hy => by
            rw [List.take_add_one,HTo.out] at hy
            simp only [Option.toList_some,List.mem_append,List.mem_singleton] at hy
            rcases hy with hy | rfl
            · exact HAll.out y hy
            · rw [hbad,e];rfl)
          have hki : (k : Int) < (s.live.len : Int):=by omega
          subst hk
          subst e4
          obtain ⟨hs_0,hs_1,hs_2,hs_3,hs_4,hs_5⟩:=jW HKs.out
          rw [e5] at hs_5
          clear hto htm hhve hwi hbad e5
          cases wi with
          | false =>
            go_wp2_with (first
              | (go_at_call 38;go_must (refine (jV bq hv hbq hhv _ HWi.out _).mono ?_);rintro e w9 ⟨rfl,rfl⟩))
            go_ret
            exact ⟨by rw [HNo.out (by simp)];rfl,HW.out⟩
          | true =>
            go_wp2_with (first
              | (go_at_call 38;go_must (refine (jV bq hv hbq hhv _ HWi.out _).mono ?_);rintro e w9 ⟨rfl,rfl⟩))
            go_roundw
            case rel => exact ⟨j + 1,by omega,by go_num,HYes.out (by simp),HBr.out⟩
            case measure => simp [intOf];omega
        · have HE : Kept (0 = r):=kp (by
            rw [← HR.out]
            have h1:=HAll.out
            rw [List.take_of_length_le (by rw [HNl.out];omega)] at h1
            exact (Ma.node_fine HPast.out h1).symm)
          have hge : nl ≤ j:=by omega
          clear hlt
          go_wp2
          go_ret
          exact ⟨by rw [← HE.out];rfl,HW.out⟩
  · have hk5 : (n.kind == 5) = false:=by simpa using h5
    have HPast : Kept (Ma.Past c.lost c.ls s n h):=kp ⟨fun h1 => h7 h1.1,fun h1 => h9 h1.1,fun h1 => h5 h1.1⟩
    clear h5 h7 h9
    go_wp2_with (first
      | ((with_reducible refine j4 rfl 70 (.tmp 0) rfl (clmC c) rfl ?_);intro g1 w1 hg1 hk1 hw1;have HK1:=kp hk1;have HW1:=kp hw1;have hs1:=hw1.size;clear hg1 hk1 hw1)
      | ((with_reducible refine j4 rfl 56 (.tmp 1) rfl (scC s) rfl ?_);intro g2 w2 hg2 hk2 hw2;have HK2:=kp hk2;have HKa:=kp (HK1.out.below hw2 HK1.out.lt);have HW2:=kp (HW1.out.trans (hw2.mono hs1));have hs2:=HW2.out.size;clear hg2 hk2 hw2)
      | ((with_reducible refine j4 rfl 66 (.tmp 3) rfl (ndC n) rfl ?_);intro g3 w3 hg3 hk3 hw3;have HK3:=kp hk3;have HKb:=kp (HKa.out.below hw3 HKa.out.lt);have HKt:=kp (HK2.out.below hw3 HK2.out.lt);have HW3:=kp (HW2.out.trans (hw3.mono hs2));have hs3:=HW3.out.size
         obtain ⟨hc0,hc1,hc2,hc3⟩:=jB hk3;obtain ⟨hs_0,hs_1,hs_2,hs_3,hs_4,hs_5⟩:=jW HKt.out;obtain ⟨hu0,hu1,hu2⟩:=lL HKb.out
         clear hg3 hk3 hw3)
      | ((with_reducible show Sl 46);go_must (refine j6 rfl 70 (.tmp 4) rfl g1 rfl _ (clmC c) _ HKb.out Tryd.underlying70 rfl qU ?_))
      | ((with_reducible show Sl 47);go_must (refine j6 rfl 66 (.tmp 7) rfl g3 rfl _ (ndC n) _ HK3.out Tryd.underlying66 rfl jD ?_))
      | (go_at_call 63;fail))
    clear hc0 hc1 hc2 hc3 hs_0 hs_1 hs_2 hs_3 hs_4 hs_5 hu0 hu1 hu2
    have HQ:=kp (Below.refl w3.heap.size w3)
    have HWq:=kp (HW3.out.trans (HQ.out.mono hs3));have hsq:=HWq.out.size
    refine (vT B c n HN.out h hh w3 (HC.out.below (HWq.out.mono hB)) (Nat.le_trans hB hsq) HFit.out bq HBq.out).mono ?_
    rintro e w4 ⟨rfl,hb4⟩
    have HW4:=kp (HWq.out.trans (hb4.mono hsq));have hs4:=HW4.out.size
    have HKt4:=kp ((HKt.out.below HQ.out HKt.out.lt).below hb4 (HKt.out.below HQ.out HKt.out.lt).lt);have HK34:=kp ((HK3.out.below HQ.out HK3.out.lt).below hb4 (HK3.out.below HQ.out HK3.out.lt).lt)
    clear hb4
    go_wp2_with (first
      | ((with_reducible show Sl 50);go_must (refine j6 rfl 66 (.tmp 7) rfl g3 rfl _ (ndC n) _ HK34.out Tryd.underlying66 rfl jD ?_))
      | (go_at_call 64;go_must (refine (yD n HN.out _).mono ?_);rintro e w5 ⟨v5,rfl,hown5,hb5⟩
         obtain ⟨A5,c5,rfl,hcl5,hcm5,hr5⟩:=hown5.readsN HNl.out
         have HR5:=kp hr5;have HW5:=kp (HW4.out.trans (hb5.mono hs4))
         have HKs5:=kp (HKt4.out.below hb5 HKt4.out.lt)
         unfold maxLen at hcm5
         clear hown5 hr5 hb5))
    have hs5:=HW5.out.size
    go_loopw [53] (fun v53 wr => ∃ j : Nat,j ≤ nl ∧ v53 = .int .i64 j ∧ (∀ to ∈ (Q.succ n).take j,Ma.badTo c.m c.lost c.ls s n h to = false) ∧ Below w5.heap.size w5 wr) (fun v53 _ => nl - (intOf v53).toNat)
    case atStart => exact ⟨0,by omega,rfl,fun to ht => by simp at ht,Below.refl _ _⟩
    case round =>
      obtain ⟨j,hj,rfl,hall,hbr⟩:=hrel
      have HAll:=kp hall;have HBr:=kp hbr
      have hsr:=hbr.size
      have HW:=kp (HW5.out.trans (hbr.mono hs5))
      have HKs:=kp (HKs5.out.below hbr HKs5.out.lt)
      have HSr:=kp ((HS.out.below (HW.out.mono hB)).more (Nat.le_trans hB HW.out.size))
      clear hall hbr
      by_cases hlt : j < nl
      · obtain ⟨ad4,to,e4,hb4,hto,hcto⟩:=(HR5.out.below HBr.out).get hlt
        rw [y4] at hcto
        have htm:=List.mem_of_getElem? hto
        have HTo:=kp hto
        obtain ⟨k,hk,hkl⟩:=HSf.out to htm
        obtain ⟨ad5,e5,hb5,_,hhv,hc5⟩:=HSr.out.live.get hkl
        obtain ⟨hv,hhve⟩ : ∃ hv,s.live.z.getD k 0 = hv:=⟨_,rfl⟩
        rw [hhve] at hhv hc5
        have HC5:=kp hc5
        obtain ⟨wi,hwi⟩ : ∃ wi,S.within bq hv 32 = wi:=⟨_,rfl⟩
        have HWi:=kp hwi
        have hbad : Ma.badTo c.m c.lost c.ls s n h to = !wi:=by unfold Ma.badTo;rw [hk,Int.toNat_natCast,hhve,HBq.out,hwi]
        have HNo : Kept (wi = false → r = 6):=kp (fun e => by rw [← HR.out];exact Ma.node_bad HPast.out htm (by rw [hbad,e];rfl))
        have HYes : Kept (wi = true → ∀ to ∈ (Q.succ n).take (j + 1),Ma.badTo c.m c.lost c.ls s n h to = false):=kp (fun e y hy => by
          rw [List.take_add_one,HTo.out] at hy
          simp only [Option.toList_some,List.mem_append,List.mem_singleton] at hy
          rcases hy with hy | rfl
          · exact HAll.out y hy
          · rw [hbad,e];rfl)
        have hki : (k : Int) < (s.live.len : Int):=by omega
        subst hk
        subst e4
        obtain ⟨hs_0,hs_1,hs_2,hs_3,hs_4,hs_5⟩:=jW HKs.out
        rw [e5] at hs_5
        clear hto htm hhve hwi hbad e5
        cases wi with
        | false =>
          go_wp2_with (first
            | (go_at_call 38;go_must (refine (jV bq hv hbq hhv _ HWi.out _).mono ?_);rintro e w9 ⟨rfl,rfl⟩))
          go_ret
          exact ⟨by rw [HNo.out (by simp)];rfl,HW.out⟩
        | true =>
          go_wp2_with (first
            | (go_at_call 38;go_must (refine (jV bq hv hbq hhv _ HWi.out _).mono ?_);rintro e w9 ⟨rfl,rfl⟩))
          go_roundw
          case rel => exact ⟨j + 1,by omega,by go_num,HYes.out (by simp),HBr.out⟩
          case measure => simp [intOf];omega
      · have HE : Kept (0 = r):=kp (by
          rw [← HR.out]
          have h1:=HAll.out
          rw [List.take_of_length_le (by rw [HNl.out];omega)] at h1
          exact (Ma.node_fine HPast.out h1).symm)
        have hge : nl ≤ j:=by omega
        clear hlt
        go_wp2
        go_ret
        exact ⟨by rw [← HE.out];rfl,HW.out⟩
end Go.Proofs.YtoekiejipdabmaaDoor
