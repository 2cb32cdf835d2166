/- Check, walked. -/
import Derived.Test.YtoekiejipdabmaaDoorPk9
import Derived.Test.YtoekiejipdabmaaDoorPk7
import Derived.Test.YtoekiejipdabmaaDoorPk6
namespace Go.Proofs.YtoekiejipdabmaaDoor
open Go.RowKit
theorem clm_zero : (Tryd.prog.info? 70).map (·.zero) = some (some (.agg (clmC ⟨none,0,0,[],0,0⟩).toArray)):=by kernel_rfl
def Ma.ans (p : Pg) (bg : Nat) (ls : List Sc) (c : Nat) : Int × Int × Nat:=if c = 0 then Ma.check p bg ls else (0,0,0)
theorem zZ {p : Pg} (hf : Fine p) {f : Nat} {fn : Fn} (hfn : p.fns[f]? = some fn) {ll : Nat} (hc : ll = p.len) {k : Nat} (hk : k = fn.nodes.length) : FnFit16 ll k fn.nodes:=by
  intro i y hy
  have hfit:=M.fit_of hf.counts (M.fine_node hf hfn hy) (M.fine_len hf hfn)
  refine ⟨fun h75 => ?_,fun to ht => ?_⟩
  · have h1:=hfit.arg
    rcases h75 with h7 | h5
    · exact ⟨y.arg.toNat,by omega,by have:=hfit.call h7;omega⟩
    · exact ⟨y.arg.toNat,by omega,by have:=(hfit.spawn h5).1;omega⟩
  unfold Q.succ at ht
  by_cases h9 : y.kind = 9
  · rw [if_pos h9] at ht;cases ht
  rw [if_neg h9] at ht
  have h1:=hfit.next
  have h2:=hfit.nextLt h9
  have h3:=hfit.alt
  by_cases h8 : y.kind = 8
  · rw [if_pos h8] at ht
    have h4:=hfit.branch h8
    simp only [List.mem_cons,List.not_mem_nil,or_false] at ht
    rcases ht with rfl | rfl
    · exact ⟨y.next.toNat,by omega,by omega⟩
    · exact ⟨y.alt.toNat,by omega,by omega⟩
  · rw [if_neg h8] at ht
    simp only [List.mem_cons,List.not_mem_nil,or_false] at ht
    subst ht
    exact ⟨y.next.toNat,by omega,by omega⟩
set_option maxRecDepth 1000000 in
set_option maxHeartbeats 8000000 in
theorem qA (B : Nat) (p : Pg) (w : World) (hp : p.Ok w B) (hB : B ≤ w.heap.size) (hs : Q.small p = true) (ht : Tab w) (c0 c1 : Int) (c : Nat) (hc : Q.check p = (c0,c1,c)) (mb : Nat) (hmb : BeginsAre p c mb)
    (lA : Option Addr) (ll lc : Nat) (ls : List Sc) (hl : Secs w B lA ll ls) (hlc : ll ≤ lc) (hlm : lc ≤ maxLen) (r : Int × Int × Nat) (hr : Ma.ans p mb ls c = r) :
    Calls Tryd.prog 10 #[pgA p,.slice lA ll lc] w fun e w' => e = .returned (.tuple #[ftA r,.int .i64 (c : Int)]) ∧ Below w.heap.size w w':=by
  obtain ⟨ra,rb,rc⟩:=r
  have HP:=kp hp;have HS:=kp hs;have HT:=kp ht;have HC:=kp hc;have HMb:=kp hmb;have HL:=kp hl;have HR:=kp hr
  have HLl:=kp hl.len_
  have HLen:=kp hp.row.len
  have HLs:=kp hp.s
  have hpc:=hp.lc;have hpm:=hp.cm
  have hw1:=ht.size
  have HLm:=kp hlm
  unfold maxLen at hpm hlm
  clear hp hs ht hc hmb hl hr
  rw [jM]
  go_enter Tryd.func10,Tryd.ntmps10
  go_wp2_with (first
    | ((with_reducible refine j4 rfl 24 (.tmp 0) rfl (pgC p) rfl ?_);intro g1 w1 hg1 hk1 hw1;have HK1:=kp hk1;have HW1:=kp hw1;have hs1:=hw1.size;obtain ⟨hc0,hc1,hc2,hc3⟩:=j8 hk1;clear hg1 hk1 hw1)
    | ((with_reducible show Sl 4);go_must (refine j7 rfl 30 rfl (ftC 0 0 0) lT ?_);intro gF w2 hgF hk2 hb2;have HGF:=kp hgF;have HF2:=kp hk2;have HW2:=kp (HW1.out.trans (hb2.mono hs1));have hs2:=HW2.out.size;have HK2:=kp (HK1.out.below hb2 HK1.out.lt);have HGG : Kept (g1 < gF ∧ w.heap.size ≤ gF):=kp (by have h1:=HK1.out.lt;omega)
       clear hgF hk2 hb2 hc0 hc1 hc2 hc3
       obtain ⟨hc0,hc1,hc2,hc3⟩:=j8 HK2.out)
    | ((with_reducible show Sl 14);go_must (refine j6 rfl 24 (.tmp 2) rfl g1 rfl _ (pgC p) _ HK2.out Tryd.underlying24 rfl jL ?_))
    | (go_at_call 19;fail))
  refine (LL B p w2 (HP.out.below (HW2.out.mono hB)) (Nat.le_trans hB hs2) HS.out (HT.out.below HW2.out hw1) c0 c1 c HC.out mb HMb.out).mono ?_
  rintro e w3 ⟨rfl,hb3⟩
  have HW3:=kp (HW2.out.trans (hb3.mono hs2));have hs3:=HW3.out.size
  have HK3:=kp (HK2.out.below hb3 HK2.out.lt);have HF3:=kp (HF2.out.below hb3 HF2.out.lt)
  clear hb3 hc0 hc1 hc2 hc3
  obtain ⟨hc0,hc1,hc2,hc3⟩:=j8 HK3.out
  by_cases hz : c = 0
  rotate_left
  · have hzb : ((c : Int) != 0) = true:=by simp;omega
    have HE : Kept (((0 : Int),(0 : Int),0) = (ra,rb,rc)):=kp (by rw [← HR.out];unfold Ma.ans;rw [if_neg hz])
    clear hz
    go_wp2_with (first
      | ((with_reducible show Sn);go_must (refine j5 rfl 30 (.tmp 4) (.tmp 20) rfl gF (ftC 0 0 0) rfl rfl _ _ HF3.out jT rfl (l5 _ _ _) ?_);intro wz hkz hgz hzz;have HKz:=kp hkz;have HBz:=kp (HW3.out.grown hgz HW3.out.size (fun k e => by cases e;exact HGG.out.2));clear hkz hgz hzz)
      | (((with_reducible show bodyPost _ _ _ _ _ _);exact bodyPost_ret (qD (P:=Tryd.prog) (fn:=Tryd.f10) rfl _ _ gF 30 _ _ _ rfl rfl HKz.out Tryd.underlying30 rfl jT) rfl ⟨by have h1:=HE.out;simp only [Prod.mk.injEq] at h1;rw [← h1.1,← h1.2.1,← h1.2.2];rfl,HBz.out⟩)))
  have hzb : ((c : Int) != 0) = false:=by rw [hz];rfl
  have HFine:=kp (qZ (p:=p) (a:=c0) (b:=c1) (by rw [HC.out,hz]))
  have HRc : Kept (Ma.check p mb ls = (ra,rb,rc)):=kp (by rw [← HR.out];unfold Ma.ans;rw [if_pos hz])
  have HC0:=kp hz
  have HM32 : Kept (mb < 4294967296):=kp (HMb.out.2 hz).1
  have hl16 : p.len ≤ 16:=by have h1:=HFine.out.counts.f;have h2:=HLen.out;omega
  clear hz
  obtain ⟨sh,hsh⟩ : ∃ sh,Mu.shaped p ls = sh:=⟨_,rfl⟩
  have HSh:=kp hsh
  clear hsh
  go_wp2_with (first
    | ((with_reducible show Sl 22);go_must (refine j6 rfl 24 (.tmp 2) rfl g1 rfl _ (pgC p) _ HK3.out Tryd.underlying24 rfl jL ?_))
    | (go_at_call 20;fail))
  refine (LF B p w3 (HP.out.below (HW3.out.mono hB)) (Nat.le_trans hB hs3) lA ll lc ls (HL.out.below (HW3.out.mono hB)) hlc HLm.out sh HSh.out).mono ?_
  rintro e w4 ⟨rfl,hb4⟩
  have HW4:=kp (HW3.out.trans (hb4.mono hs3));have hs4:=HW4.out.size
  have HK4:=kp (HK3.out.below hb4 HK3.out.lt);have HF4:=kp (HF3.out.below hb4 HF3.out.lt)
  clear hb4 hc0 hc1 hc2 hc3
  obtain ⟨hc0,hc1,hc2,hc3⟩:=j8 HK4.out
  cases sh with
  | false =>
    have HE : Kept (((-1 : Int),(-1 : Int),1) = (ra,rb,rc)):=kp (by rw [← HRc.out];exact (Ma.check_shape HSh.out).symm)
    go_wp2_with (first
      | ((with_reducible show Sn);go_must (refine j5 rfl 30 (.tmp 4) (.tmp 26) rfl gF (ftC (-1) (-1) 1) rfl rfl _ _ HF4.out jT rfl (l5 _ _ _) ?_);intro wz hkz hgz hzz;have HKz:=kp hkz;have HBz:=kp (HW4.out.grown hgz HW4.out.size (fun k e => by cases e;exact HGG.out.2));clear hkz hgz hzz)
      | (((with_reducible show bodyPost _ _ _ _ _ _);exact bodyPost_ret (qD (P:=Tryd.prog) (fn:=Tryd.f10) rfl _ _ gF 30 _ _ _ rfl rfl HKz.out Tryd.underlying30 rfl jT) rfl ⟨by have h1:=HE.out;simp only [Prod.mk.injEq] at h1;rw [← h1.1,← h1.2.1,← h1.2.2,HC0.out];rfl,HBz.out⟩)))
  | true =>
    have hll : ll = p.len:=by rw [← HLl.out];exact (Mu.shaped_iff.1 HSh.out).1
    subst hll
    have hl0 : 0 < p.len:=by have h1:=HFine.out.counts.f;have h2:=HLen.out;omega
    obtain ⟨adL,_,eL,hbL,_⟩:=HL.out.get hl0
    subst eL
    go_wp2_with (first
      | ((with_reducible show Sl 29);go_must (refine j6 rfl 24 (.tmp 2) rfl g1 rfl _ (pgC p) _ HK4.out Tryd.underlying24 rfl jL ?_))
      | (go_at_call 11;fail))
    refine (uJ p w4).mono ?_
    rintro e w5 ⟨rfl,hb5⟩
    have HW5:=kp (HW4.out.trans (hb5.mono hs4));have hs5:=HW5.out.size
    have HK5:=kp (HK4.out.below hb5 HK4.out.lt);have HF5:=kp (HF4.out.below hb5 HF4.out.lt)
    obtain ⟨cl,hcl⟩ : ∃ cl : Clm,(⟨some adL,p.len,lc,ls,mb,p.s⟩ : Clm) = cl:=⟨_,rfl⟩
    have HClC : Kept (clmC cl = [.slice (some adL) p.len lc,.int .u32 (mb : Int),.int .i64 p.s]):=kp (by rw [← hcl];rfl)
    have HClO : Kept (cl.Ok w5 w5.heap.size):=kp (by
      rw [← hcl]
      exact ⟨(HL.out.below (HW5.out.mono hB)).more (Nat.le_trans hB hs5),hlc,HLm.out,HM32.out,HLs.out⟩)
    have HClp : Kept (cl.ll = p.len ∧ cl.ls = ls ∧ cl.m = mb ∧ cl.lost = p.s):=kp (by rw [← hcl];exact ⟨rfl,rfl,rfl,rfl⟩)
    clear hb5 hcl hc0 hc1 hc2 hc3
    obtain ⟨hc0,hc1,hc2,hc3⟩:=j8 HK5.out
    go_wp2_with (first
      | ((with_reducible show Sl 8);go_must (refine j7 rfl 70 rfl (clmC ⟨none,0,0,[],0,0⟩) clm_zero ?_);intro gC w6 hgC hk6 hb6;have HGC:=kp hgC;have HK6c:=kp hk6;have HW6:=kp (HW5.out.trans (hb6.mono hs5));have hs6:=HW6.out.size;have HK6:=kp (HK5.out.below hb6 HK5.out.lt);have HF6:=kp (HF5.out.below hb6 HF5.out.lt);have HB6:=kp hb6;clear hgC hk6 hb6 hc0 hc1 hc2 hc3)
      | ((with_reducible show Sn);go_must (refine j5 rfl 70 (.tmp 8) (.tmp 31) rfl gC (clmC cl) rfl (by rw [HClC.out];rfl) _ _ HK6c.out (by rw [HClC.out];exact qU) (by rw [HClC.out];rfl) (clm_ones cl) ?_);intro w7 hk7 hg7 hz7
         have HKc7:=kp hk7;have HB7:=kp (HB6.out.grown hg7 HB6.out.size (fun k e => by cases e;have:=HGC.out;omega));have hs57:=HB7.out.size
         have HK7:=kp (HK6.out.grown hg7 (fun e => by cases e;have:=HGC.out;have:=HK5.out.lt;omega));have HF7:=kp (HF6.out.grown hg7 (fun e => by cases e;have:=HGC.out;have:=HF5.out.lt;omega))
         obtain ⟨hc0,hc1,hc2,hc3⟩:=j8 HK7.out
         clear hk7 hg7 hz7))
    clear hc0 hc1 hc2 hc3
    go_loopw [35] (fun v35 wr => ∃ i : Nat,i ≤ p.len ∧ v35 = .int .i64 i ∧ (∀ f,f < i → (Ma.fun_ p mb ls f).2 = 0) ∧ Below w7.heap.size w7 wr) (fun v35 _ => p.len - (intOf v35).toNat)
    case atStart => exact ⟨0,by omega,rfl,fun f hf => by omega,Below.refl _ _⟩
    case round =>
      obtain ⟨i,hi,rfl,hall,hbr⟩:=hrel
      have HAll:=kp hall;have HBr:=kp hbr
      have hsr:=hbr.size
      have HW:=kp (HW5.out.trans ((HB7.out.trans (hbr.mono hs57)).mono hs5))
      have hsW:=HW.out.size
      have HBrr:=kp (HB7.out.trans (hbr.mono hs57))
      have HKc:=kp (HKc7.out.below hbr HKc7.out.lt);have HF:=kp (HF7.out.below hbr HF7.out.lt)
      clear hall hbr
      by_cases hlt : i < p.len
      · obtain ⟨ad,fn,e0,_,hfn,hfok,hcf⟩:=(HP.out.below (HW.out.mono hB)).fn hlt
        obtain ⟨_,fn',_,_,hfn',hfok',_⟩:=HP.out.fn hlt
        obtain rfl : fn = fn':=by rw [hfn] at hfn';exact Option.some.inj hfn'
        obtain ⟨adL',x,eL',_,hx,hxok,hx0,hx1,hx2,hx3,hx4,hx5⟩:=HL.out.getA hlt
        obtain rfl : adL = adL':=Option.some.inj eL'
        have HX:=kp hx;have HFn:=kp hfn;have HFok0:=kp hfok';have HX0:=kp hx0;have HX1:=kp hx1;have HX2:=kp hx2;have HX3:=kp hx3;have HX4:=kp hx4;have HX5:=kp hx5
        have HFok:=kp (hfok'.keep fun _ hp => HW5.out.cell (by omega));have HXok:=kp (hxok.below (HW5.out.mono hB))
        obtain ⟨⟨a,cc⟩,hac⟩ : ∃ q,Ma.func cl.m cl.lost cl.ls x fn.nodes = q:=⟨_,rfl⟩
        have HAc:=kp hac
        have HFu : Kept (Ma.fun_ p mb ls i = (a,cc)):=kp (by
          unfold Ma.fun_
          rw [zU HX.out,JI HFn.out,← HAc.out,HClp.out.2.1,HClp.out.2.2.1,HClp.out.2.2.2])
        have hsa : x.live.len = fn.len:=by
          have h1:=(Mu.shaped_iff.1 HSh.out).2 i hlt
          rw [q9 HX.out HFn.out,Bool.and_eq_true,decide_eq_true_eq,decide_eq_true_eq] at h1
          exact h1.2
        have HSa:=kp hsa
        have hfn0 : 0 < fn.len:=by rw [← hfok.nodes.1.len];exact M.fine_len HFine.out hfn
        have HFn0:=kp hfn0
        have HFits:=kp (zZ HFine.out HFn.out HClp.out.1 (k:=x.live.len) (by rw [HSa.out,HFok.out.nodes.1.len]))
        have hfc:=hfok.lc;have hfm:=hfok.cm
        unfold maxLen at hfm
        have hlt2 : (i : Int) < (p.len : Int):=by omega
        rw [e0]
        clear hx hfn hfok hac hsa e0 hfn0 hxok hx0 hx1 hx2 hx3 hx4 hx5 hfn' hfok' eL'
        go_wp2
        clear hcf
        apply jR (.is (clmA cl) :: .is _ :: .is _ :: .is _ :: .is (scA x) :: .is _ :: .is (.tuple #[.int .i64 a,.int .i64 (cc : Int)]) :: .is _ :: .is (.int .i64 a) :: .is (.int .i64 (cc : Int)) :: .is _ :: .is _ :: [])
          [[],[],[],[(1,42),(2,43)],[(3,44)],[],[(0,41),(4,45),(5,46)],[(6,47)],[(7,40)],[(7,40)],[(8,48)],[(9,49)]]
          [(0,41),(1,42),(2,43),(3,44),(4,45),(5,46),(6,47),(7,40),(8,48),(9,49),(10,11),(11,12)] (by kernel_rfl) (by kernel_rfl)
        case hob =>
          refine ⟨?o0,?o1,?o2,?o3,?o4,?o5,?o6,?o7,?o8,?o9,?o10,?o11,trivial⟩
          case o0 =>
            intro W hW;change wpList _ _ _ _ _ _
            go_must (refine j6 rfl 70 (.tmp 8) rfl gC rfl _ (clmC cl) _ (HKc.out.below hW HKc.out.lt) Tryd.underlying70 rfl (by rw [HClC.out];exact qU) ?_)
            go_wp2;exact j3 rfl rfl rfl
          case o1 => intro W hW;change wpList _ _ _ _ _ _;go_wp2;exact j3 rfl rfl rfl
          case o2 => intro W hW;change wpList _ _ _ _ _ _;go_wp2;exact j3 rfl rfl rfl
          case o3 => intro W hW;rintro _ rfl;rintro _ rfl;change wpList _ _ _ _ _ _;go_wp2;exact j3 rfl rfl rfl
          case o4 =>
            intro W hW;rintro _ rfl;change wpList _ _ _ _ _ _
            have hWw : Below w.heap.size w W:=HW.out.trans (hW.mono HW.out.size)
            have hx0:=(hWw.cell (p:=adL.add (i * 6)) (by rw [add_block];omega)).trans HX0.out
            have hx1:=(hWw.cell (p:=⟨(adL.add (i * 6)).block,(adL.add (i * 6)).off + 1,none⟩) (by show (adL.add (i * 6)).block < _;rw [add_block];omega)).trans HX1.out
            have hx2:=(hWw.cell (p:=⟨(adL.add (i * 6)).block,(adL.add (i * 6)).off + 2,none⟩) (by show (adL.add (i * 6)).block < _;rw [add_block];omega)).trans HX2.out
            have hx3:=(hWw.cell (p:=⟨(adL.add (i * 6)).block,(adL.add (i * 6)).off + 3,none⟩) (by show (adL.add (i * 6)).block < _;rw [add_block];omega)).trans HX3.out
            have hx4:=(hWw.cell (p:=⟨(adL.add (i * 6)).block,(adL.add (i * 6)).off + 4,none⟩) (by show (adL.add (i * 6)).block < _;rw [add_block];omega)).trans HX4.out
            have hx5:=(hWw.cell (p:=⟨(adL.add (i * 6)).block,(adL.add (i * 6)).off + 5,none⟩) (by show (adL.add (i * 6)).block < _;rw [add_block];omega)).trans HX5.out
            go_wp2;exact j3 rfl rfl rfl
          case o5 => intro W hW;change wpList _ _ _ _ _ _;go_wp2;exact j3 rfl rfl rfl
          case o6 =>
            intro W hW;rintro _ rfl;rintro _ rfl;rintro _ rfl;change wpList _ _ _ _ _ _
            have hW5 : Below w5.heap.size w5 W:=HBrr.out.trans (hW.mono HBrr.out.size)
            go_wp2_with fail
            refine (may_func w5.heap.size cl x fn W (HClO.out.below hW5) ((HXok.out.more (Nat.le_trans hB hs5)).below hW5) ((HFok.out.more15 (Nat.le_trans hB hs5)).keep fun _ hp => hW5.cell hp) hW5.size HSa.out HFn0.out HFits.out a cc HAc.out).mono ?_
            rintro e w9 ⟨rfl,hb9⟩
            have HB9:=kp hb9;clear hb9
            go_wp2
            exact jE rfl rfl rfl HB9.out rfl
          case o7 => intro W hW;rintro _ rfl;change wpList _ _ _ _ _ _;go_wp2;exact j3 rfl rfl rfl
          case o8 => intro W hW;rintro _ rfl;change wpList _ _ _ _ _ _;go_wp2;exact j3 rfl rfl rfl
          case o9 => intro W hW;rintro _ rfl;change wpList _ _ _ _ _ _;go_wp2;exact j3 rfl rfl rfl
          case o10 => intro W hW;rintro _ rfl;change wpList _ _ _ _ _ _;go_wp2;exact j3 rfl rfl rfl
          case o11 => intro W hW;rintro _ rfl;change wpList _ _ _ _ _ _;go_wp2;exact j3 rfl rfl rfl
        case hend =>
          intro W hW;rintro _ rfl;rintro _ rfl;rintro _ rfl;rintro _ rfl;rintro _ rfl;rintro _ rfl;rintro _ rfl;rintro _ rfl;rintro _ rfl;rintro _ rfl;rintro _ rfl;rintro _ rfl
          simp only [given,jI,List.set]
          have HB8:=kp (HBr.out.trans (hW.mono hsr));have HW8:=kp (HW.out.trans (hW.mono hsW));have HF8:=kp (HF.out.below hW HF.out.lt)
          have hs8:=HW8.out.size
          clear hW
          by_cases h0 : cc = 0
          · have h0b : ((cc : Int) != 0) = false:=by rw [h0];rfl
            have HCc:=kp h0
            clear h0
            go_wp2
            go_roundw
            case rel => exact ⟨i + 1,by omega,by go_num,(fun f hf => by
              by_cases e : f = i
              · subst e;rw [HFu.out];exact HCc.out
              · exact HAll.out f (by omega)),HB8.out⟩
            case measure => simp [intOf];omega
          · have h0b : ((cc : Int) != 0) = true:=by simp;omega
            have HE : Kept (((i : Int),a,cc) = (ra,rb,rc)):=kp (by
              rw [← HRc.out];exact (Ma.check_hit HSh.out hlt HAll.out HFu.out h0).symm)
            clear h0
            go_wp2_with (first
              | ((with_reducible show Sn);go_must (refine j5 rfl 30 (.tmp 4) (.tmp 55) rfl gF (ftC (i : Int) a (cc : Int)) rfl rfl _ _ HF8.out jT rfl (l5 _ _ _) ?_);intro wz hkz hgz hzz;have HKz:=kp hkz;have HBz:=kp (HW8.out.grown hgz HW8.out.size (fun k e => by cases e;exact HGG.out.2));clear hkz hgz hzz)
              | (((with_reducible show bodyPost _ _ _ _ _ _);exact bodyPost_ret (qD (P:=Tryd.prog) (fn:=Tryd.f10) rfl _ _ gF 30 _ _ _ rfl rfl HKz.out Tryd.underlying30 rfl jT) rfl ⟨by have h1:=HE.out;simp only [Prod.mk.injEq] at h1;rw [← h1.1,← h1.2.1,← h1.2.2,HC0.out];rfl,HBz.out⟩)))
      · have HE : Kept (((0 : Int),(0 : Int),0) = (ra,rb,rc)):=kp (by
          rw [← HRc.out];exact (Ma.check_none HSh.out fun f hf => HAll.out f (by omega)).symm)
        have hge : p.len ≤ i:=by omega
        clear hlt
        go_wp2_with (first
          | ((with_reducible show Sn);go_must (refine j5 rfl 30 (.tmp 4) (.tmp 57) rfl gF (ftC 0 0 0) rfl rfl _ _ HF.out jT rfl (l5 _ _ _) ?_);intro wz hkz hgz hzz;have HKz:=kp hkz;have HBz:=kp (HW.out.grown hgz HW.out.size (fun k e => by cases e;exact HGG.out.2));clear hkz hgz hzz)
          | (((with_reducible show bodyPost _ _ _ _ _ _);exact bodyPost_ret (qD (P:=Tryd.prog) (fn:=Tryd.f10) rfl _ _ gF 30 _ _ _ rfl rfl HKz.out Tryd.underlying30 rfl jT) rfl ⟨by have h1:=HE.out;simp only [Prod.mk.injEq] at h1;rw [← h1.1,← h1.2.1,← h1.2.2,HC0.out];rfl,HBz.out⟩)))
end Go.Proofs.YtoekiejipdabmaaDoor
