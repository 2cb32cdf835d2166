/- Check, walked. -/
import Derived.Test.YtlgaefenhfmjfaaDoorMustP4
import Derived.Test.YtlgaefenhfmjfaaDoorPu8
import Derived.Test.YtlgaefenhfmjfaaDoorPu7
namespace Go.Proofs.YtlgaefenhfmjfaaDoor
open Go.RowKit
def ftC (a b d : Int) : List Value:=[.int .i64 a,.int .i64 b,.int .i64 d]
def ftA (x : Int × Int × Nat) : Value:=.agg #[.int .i64 x.1,.int .i64 x.2.1,.int .i64 (x.2.2 : Int)]
theorem jO : (Tryd.prog.info? 30).map (·.size) = some 3:=by kernel_rfl
theorem lL : (Tryd.prog.info? 30).map (·.zero) = some (some (.agg (ftC 0 0 0).toArray)):=by kernel_rfl
theorem LP : (Tryd.prog.info? 68).map (·.zero) = some (some (.agg (clC ⟨none,0,0,[],none,0,0,[],0⟩).toArray)):=by kernel_rfl
theorem l6 (a b d : Int) : ∀ u ∈ ftC a b d,u.oneCell' = true:=by
  intro u hu
  simp only [ftC,List.mem_cons,List.not_mem_nil,or_false] at hu
  rcases hu with h | h | h <;> subst h <;> rfl
theorem jW {w : World} {g : Nat} {t : TypeId} {a b d : Int} (h : Blk w g t (ftC a b d)) : w.cell? ⟨g,0,none⟩ = some (.int .i64 a) ∧ w.cell? ⟨g,1,none⟩ = some (.int .i64 b) ∧ w.cell? ⟨g,2,none⟩ = some (.int .i64 d):=⟨h.cell 0,h.cell 1,h.cell 2⟩
theorem l8 {P : Program} {fn : Func} {p : Tmp} {a : Nat} {ty : TypeId} (h : fn.results = #[.cell p ty,.tmp a]) (tmps : Array Value) (w : World) (g : Nat) (t : TypeId) (cs : List Value) (d : TypeDesc) (va : Value)
    (hp : tmps.getD p undef = .pointer (some ⟨g,0,none⟩)) (ha : tmps.getD a undef = va) (hg : Blk w g t cs)
    (hu : P.underlying ty = some d) (hd : (match d with | .struct _ | .array _ _ => true | _ => false) = true) (hi : (P.info? ty).map (·.size) = some cs.length) :
    (results fn tmps).run P w = .ok (.tuple #[.agg cs.toArray,va]) w:=by
  subst ha
  have hp' : tmps[p]?.getD undef = .pointer (some ⟨g,0,none⟩):=by simpa using hp
  simp [results,h,hp',asAddr,run_loadVar_row w g t ty cs.toArray (0,0) d hg hu hd (by simpa using hi)]
def Mu.ans (p : Pg) (us : List Nat) (ls : List Sc) (c : Nat) : Int × Int × Nat:=if c = 0 then Mu.check p us ls else (0,0,0)
theorem LN {p : Pg} (hf : Fine p) (_hl : p.fns.length = p.len) {f : Nat} {fn : Fn} (hfn : p.fns[f]? = some fn) {c : Cl} (hc : c.ll = p.len) {k : Nat} (hk : k = fn.nodes.length) : FnFit c k fn.nodes:=by
  intro i y hy
  have hfit:=M.fit_of hf.counts (M.fine_node hf hfn hy) (M.fine_len hf hfn)
  refine ⟨fun h7 => ⟨y.arg.toNat,by have:=hfit.arg;omega,by have:=hfit.call h7;have:=hfit.arg;omega⟩,fun to ht => ?_⟩
  unfold Q.succ at ht
  by_cases h9 : y.kind = 9
  · rw [if_pos h9] at ht;cases ht
  rw [if_neg h9] at ht
  have h1:=hfit.next
  have h2:=hfit.nextLt h9
  have h3:=hfit.alt
  by_cases h8 : y.kind = 8
  · rw [if_pos h8] at ht
    have h4:=hfit.branch h8
    simp only [List.mem_cons,List.not_mem_nil,or_false] at ht
    rcases ht with rfl | rfl
    · exact ⟨y.next.toNat,by omega,by omega⟩
    · exact ⟨y.alt.toNat,by omega,by omega⟩
  · rw [if_neg h8] at ht
    simp only [List.mem_cons,List.not_mem_nil,or_false] at ht
    subst ht
    exact ⟨y.next.toNat,by omega,by omega⟩
theorem Fn.Ok.more15 {f : Fn} {w : World} {B B2 : Nat} (h : f.Ok w B) (hB : B ≤ B2) : f.Ok w B2:=⟨⟨h.nodes.1.more hB,h.nodes.2⟩,h.lc,h.cm,h.nil⟩
theorem JA {p : Pg} {m : Nat} (hm : BitsAre m (fun id => ∃ fn ∈ p.fns,Names fn.nodes 5 id)) {f : Nat} (hf : f < 32) : S.has (m ||| 1) (f : Int) = Mu.bare p f:=by
  rw [S.has_in _ _ (by omega),Nat.testBit_or,Bool.eq_iff_iff,Mu.bare_iff,Bool.or_eq_true,hm.2 f hf]
  have h1 : (1 : Nat).testBit f = true ↔ f = 0:=by
    rw [show (1 : Nat) = 2 ^ 0 from rfl,Nat.testBit_two_pow,decide_eq_true_eq]
    exact ⟨fun h => h.symm,fun h => h.symm⟩
  rw [h1]
  exact Or.comm
set_option maxRecDepth 1000000 in
set_option maxHeartbeats 8000000 in
theorem lS (B : Nat) (p : Pg) (w : World) (hp : p.Ok w B) (hB : B ≤ w.heap.size) (hs : Q.small p = true) (ht : Tab w) (c0 c1 : Int) (c : Nat) (hc : Q.check p = (c0,c1,c)) (us : List Nat) (hus : killA p 4 4 c = us)
    (lA : Option Addr) (ll lc : Nat) (ls : List Sc) (hl : Secs w B lA ll ls) (hlc : ll ≤ lc) (hlm : lc ≤ maxLen) (r : Int × Int × Nat) (hr : Mu.ans p us ls c = r) :
    Calls Tryd.prog 10 #[pgA p,.slice lA ll lc] w fun e w' => e = .returned (.tuple #[ftA r,.int .i64 (c : Int)]) ∧ Below w.heap.size w w':=by
  obtain ⟨ra,rb,rc⟩:=r
  have HP:=kp hp;have HS:=kp hs;have HT:=kp ht;have HC:=kp hc;have HU:=kp hus;have HL:=kp hl;have HR:=kp hr
  have HLl:=kp hl.len_
  have HLen:=kp hp.row.len
  have hpc:=hp.lc;have hpm:=hp.cm
  have hw1:=ht.size
  have HLm:=kp hlm
  unfold maxLen at hpm hlm
  obtain ⟨nu,hnu⟩ : ∃ nu,us.length = nu:=⟨_,rfl⟩
  have HNu:=kp hnu
  clear hp hs ht hc hus hl hr hnu
  rw [jT]
  go_enter Tryd.func10,Tryd.ntmps10
  go_wp2_with (first
    | ((with_reducible refine j4 rfl 24 (.tmp 0) rfl (pgC p) rfl ?_);intro g1 w1 hg1 hk1 hw1;have HK1:=kp hk1;have HW1:=kp hw1;have hs1:=hw1.size;obtain ⟨hc0,hc1,hc2,hc3⟩:=j8 hk1;clear hg1 hk1 hw1)
    | ((with_reducible show Sl 4);go_must (refine j6 rfl 30 rfl (ftC 0 0 0) lL ?_);intro gF w2 hgF hk2 hb2;have HGF:=kp hgF;have HF2:=kp hk2;have HW2:=kp (HW1.out.trans (hb2.mono hs1));have hs2:=HW2.out.size;have HK2:=kp (HK1.out.below hb2 HK1.out.lt);have HGG : Kept (g1 < gF ∧ w.heap.size ≤ gF):=kp (by have h1:=HK1.out.lt;omega)
       clear hgF hk2 hb2 hc0 hc1 hc2 hc3
       obtain ⟨hc0,hc1,hc2,hc3⟩:=j8 HK2.out)
    | ((with_reducible show Sl 14);go_must (refine j5 rfl 24 (.tmp 2) rfl g1 rfl _ (pgC p) _ HK2.out Tryd.underlying24 rfl jI ?_))
    | (go_at_call 18;fail))
  refine (zH B p w2 (HP.out.below (HW2.out.mono hB)) (Nat.le_trans hB hs2) HS.out (HT.out.below HW2.out hw1) c0 c1 c HC.out us HU.out).mono ?_
  rintro e w3 ⟨v3,rfl,hown3,hb3⟩
  obtain ⟨uA,uc,rfl,huc,hum,hru⟩:=hown3.readsN HNu.out
  have HRu:=kp hru;have HUm:=kp hum
  have HW3:=kp (HW2.out.trans (hb3.mono hs2));have hs3:=HW3.out.size
  have HK3:=kp (HK2.out.below hb3 HK2.out.lt);have HF3:=kp (HF2.out.below hb3 HF2.out.lt)
  unfold maxLen at hum
  clear hown3 hru hb3 hc0 hc1 hc2 hc3
  obtain ⟨hc0,hc1,hc2,hc3⟩:=j8 HK3.out
  by_cases hz : c = 0
  rotate_left
  · have hzb : ((c : Int) != 0) = true:=by simp;omega
    have HE : Kept (((0 : Int),(0 : Int),0) = (ra,rb,rc)):=kp (by rw [← HR.out];unfold Mu.ans;rw [if_neg hz])
    clear hz
    go_wp2_with (first
      | ((with_reducible show Sn);go_must (refine j7 rfl 30 (.tmp 4) (.tmp 20) rfl gF (ftC 0 0 0) rfl rfl _ _ HF3.out jO rfl (l6 _ _ _) ?_);intro wz hkz hgz hzz;have HKz:=kp hkz;have HBz:=kp (HW3.out.grown hgz HW3.out.size (fun k e => by cases e;exact HGG.out.2));clear hkz hgz hzz)
      | (((with_reducible show bodyPost _ _ _ _ _ _);exact bodyPost_ret (l8 (P:=Tryd.prog) (fn:=Tryd.f10) rfl _ _ gF 30 _ _ _ rfl rfl HKz.out Tryd.underlying30 rfl jO) rfl ⟨by have h1:=HE.out;simp only [Prod.mk.injEq] at h1;rw [← h1.1,← h1.2.1,← h1.2.2];rfl,HBz.out⟩)))
  have hzb : ((c : Int) != 0) = false:=by rw [hz];rfl
  have HFine:=kp (xZ (p:=p) (a:=c0) (b:=c1) (by rw [HC.out,hz]))
  have HRc : Kept (Mu.check p us ls = (ra,rb,rc)):=kp (by rw [← HR.out];unfold Mu.ans;rw [if_pos hz])
  have HC0:=kp hz
  have hl16 : p.len ≤ 16:=by have h1:=HFine.out.counts.f;have h2:=HLen.out;omega
  have HUk : Kept (us = killL p 4 4):=kp (by rw [← HU.out,hz,yC])
  have hnup : nu = p.len:=by rw [← HNu.out,HUk.out,xD]
  subst hnup
  clear hz
  obtain ⟨sh,hsh⟩ : ∃ sh,Mu.shaped p ls = sh:=⟨_,rfl⟩
  have HSh:=kp hsh
  clear hsh
  go_wp2_with (first
    | ((with_reducible show Sl 22);go_must (refine j5 rfl 24 (.tmp 2) rfl g1 rfl _ (pgC p) _ HK3.out Tryd.underlying24 rfl jI ?_))
    | (go_at_call 11;fail))
  refine (zY B p w3 (HP.out.below (HW3.out.mono hB)) (Nat.le_trans hB hs3) lA ll lc ls (HL.out.below (HW3.out.mono hB)) hlc HLm.out sh HSh.out).mono ?_
  rintro e w4 ⟨rfl,hb4⟩
  have HW4:=kp (HW3.out.trans (hb4.mono hs3));have hs4:=HW4.out.size
  have HK4:=kp (HK3.out.below hb4 HK3.out.lt);have HF4:=kp (HF3.out.below hb4 HF3.out.lt)
  have HRu4:=kp ((HRu.out.below hb4).more hb4.size)
  clear hb4 hc0 hc1 hc2 hc3 HRu
  obtain ⟨hc0,hc1,hc2,hc3⟩:=j8 HK4.out
  cases sh with
  | false =>
    have HE : Kept (((-1 : Int),(-1 : Int),1) = (ra,rb,rc)):=kp (by rw [← HRc.out];exact (Mu.check_shape HSh.out).symm)
    go_wp2_with (first
      | ((with_reducible show Sn);go_must (refine j7 rfl 30 (.tmp 4) (.tmp 26) rfl gF (ftC (-1) (-1) 1) rfl rfl _ _ HF4.out jO rfl (l6 _ _ _) ?_);intro wz hkz hgz hzz;have HKz:=kp hkz;have HBz:=kp (HW4.out.grown hgz HW4.out.size (fun k e => by cases e;exact HGG.out.2));clear hkz hgz hzz)
      | (((with_reducible show bodyPost _ _ _ _ _ _);exact bodyPost_ret (l8 (P:=Tryd.prog) (fn:=Tryd.f10) rfl _ _ gF 30 _ _ _ rfl rfl HKz.out Tryd.underlying30 rfl jO) rfl ⟨by have h1:=HE.out;simp only [Prod.mk.injEq] at h1;rw [← h1.1,← h1.2.1,← h1.2.2,HC0.out];rfl,HBz.out⟩)))
  | true =>
    have hll : ll = p.len:=by rw [← HLl.out];exact (Mu.shaped_iff.1 HSh.out).1
    subst hll
    go_wp2_with (first
      | ((with_reducible show Sl 29);go_must (refine j5 rfl 24 (.tmp 2) rfl g1 rfl _ (pgC p) _ HK4.out Tryd.underlying24 rfl jI ?_))
      | (go_at_call 19;fail))
    refine (vG B p w4 (HP.out.below (HW4.out.mono hB)) (Nat.le_trans hB hs4) HS.out (by omega)).mono ?_
    rintro e w5 ⟨m,rfl,hm,hb5⟩
    have HM:=kp hm
    have hm32:=hm.1
    have HW5:=kp (HW4.out.trans (hb5.mono hs4));have hs5:=HW5.out.size
    have HK5:=kp (HK4.out.below hb5 HK4.out.lt);have HF5:=kp (HF4.out.below hb5 HF4.out.lt)
    have HRu5:=kp ((HRu4.out.below hb5).more hb5.size)
    have HOr : Kept (bits .or .u32 (m : Int) (1 : Int) = ((m ||| 1 : Nat) : Int)):=kp (u32_or_nat m 1 hm32 (by omega))
    have HM1 : Kept (m ||| 1 < 4294967296):=kp (Nat.or_lt_two_pow (n:=32) hm32 (by omega))
    have HOne : Kept (S.one 0 = 1):=kp (by simpa using S.one_nat 0 (by omega))
    obtain ⟨m1,hm1⟩ : ∃ m1,m ||| 1 = m1:=⟨_,rfl⟩
    rw [hm1] at HOr HM1
    have HBare : Kept (∀ f : Nat,f < 32 → S.has m1 (f : Int) = Mu.bare p f):=kp (fun f hf => by rw [← hm1];exact JA HM.out hf)
    have hor:=HOr.out
    obtain ⟨cl,hcl⟩ : ∃ cl : Cl,(⟨lA,p.len,lc,ls,uA,p.len,uc,us,m1⟩ : Cl) = cl:=⟨_,rfl⟩
    have HClC : Kept (clC cl = [.slice lA p.len lc,.slice uA p.len uc,.int .u32 (m1 : Int)]):=kp (by rw [← hcl];rfl)
    have HClO : Kept (cl.Ok w5 w5.heap.size):=kp (by
      rw [← hcl]
      exact ⟨(HL.out.below (HW5.out.mono hB)).more (Nat.le_trans hB hs5),hlc,HLm.out,HRu5.out,(fun x hx => by
        rw [HUk.out] at hx
        obtain ⟨i,hi⟩:=List.mem_iff_getElem?.1 hx
        exact (u9 hi).1),huc,HUm.out,HM1.out,rfl⟩)
    have HClp : Kept (cl.ll = p.len ∧ cl.ls = ls ∧ cl.us = us ∧ cl.m = m1):=kp (by rw [← hcl];exact ⟨rfl,rfl,rfl,rfl⟩)
    clear hm hb5 hm1 hcl hc0 hc1 hc2 hc3 HOr HRu4
    obtain ⟨hc0,hc1,hc2,hc3⟩:=j8 HK5.out
    go_wp2_with (first
      | (go_at_call 20;go_must (refine (lK 0 (by omega) 1 HOne.out _).mono ?_);rintro e w9 ⟨rfl,rfl⟩)
      | ((with_reducible show Sl 8);go_must (refine j6 rfl 68 rfl (clC ⟨none,0,0,[],none,0,0,[],0⟩) LP ?_);intro gC w6 hgC hk6 hb6;have HGC:=kp hgC;have HK6c:=kp hk6;have HW6:=kp (HW5.out.trans (hb6.mono hs5));have hs6:=HW6.out.size;have HK6:=kp (HK5.out.below hb6 HK5.out.lt);have HF6:=kp (HF5.out.below hb6 HF5.out.lt);have HB6:=kp hb6;clear hgC hk6 hb6 hc0 hc1 hc2 hc3)
      | ((with_reducible show Sn);go_must (refine j7 rfl 68 (.tmp 8) (.tmp 33) rfl gC (clC cl) rfl (by rw [HClC.out];rfl) _ _ HK6c.out (by rw [HClC.out];exact lV) (by rw [HClC.out];rfl) (LQ cl) ?_);intro w7 hk7 hg7 hz7
         have HKc7:=kp hk7;have HB7:=kp (HB6.out.grown hg7 HB6.out.size (fun k e => by cases e;have:=HGC.out;omega));have hs57:=HB7.out.size
         have HK7:=kp (HK6.out.grown hg7 (fun e => by cases e;have:=HGC.out;have:=HK5.out.lt;omega));have HF7:=kp (HF6.out.grown hg7 (fun e => by cases e;have:=HGC.out;have:=HF5.out.lt;omega))
         have HGC2 : Kept (gF ≠ gC ∧ w5.heap.size ≤ gC):=kp (by have:=HGC.out;have:=HF5.out.lt;omega)
         obtain ⟨hc0,hc1,hc2,hc3⟩:=j8 HK7.out
         clear hk7 hg7 hz7))
    clear hc0 hc1 hc2 hc3
    go_loopw [37] (fun v37 wr => ∃ i : Nat,i ≤ p.len ∧ v37 = .int .i64 i ∧ (∀ f,f < i → (Mu.fun_ p us ls f).2 = 0) ∧ Below w7.heap.size w7 wr) (fun v37 _ => p.len - (intOf v37).toNat)
    case atStart => exact ⟨0,by omega,rfl,fun f hf => by omega,Below.refl _ _⟩
    case round =>
      obtain ⟨i,hi,rfl,hall,hbr⟩:=hrel
      have HAll:=kp hall;have HBr:=kp hbr
      have hsr:=hbr.size
      have HW:=kp (HW5.out.trans ((HB7.out.trans (hbr.mono hs57)).mono hs5))
      have hsW:=HW.out.size
      have HBrr:=kp (HB7.out.trans (hbr.mono hs57))
      have HKc:=kp (HKc7.out.below hbr HKc7.out.lt);have HF:=kp (HF7.out.below hbr HF7.out.lt)
      clear hall hbr
      by_cases hlt : i < p.len
      · obtain ⟨ad,fn,e0,_,hfn,hfok,hcf⟩:=(HP.out.below (HW.out.mono hB)).fn hlt
        obtain ⟨x,hx⟩ : ∃ x,ls[i]? = some x:=⟨_,List.getElem?_eq_getElem (by rw [HLl.out];exact hlt)⟩
        have HX:=kp hx;have HFn:=kp hfn;have HFok:=kp hfok
        obtain ⟨⟨a,cc⟩,hac⟩ : ∃ q,Mu.func cl.us cl.ls (Mu.bare p i) x fn.nodes = q:=⟨_,rfl⟩
        have HAc:=kp hac
        have HFu : Kept (Mu.fun_ p us ls i = (a,cc)):=kp (by
          unfold Mu.fun_
          rw [zD HX.out,JR HFn.out,← HAc.out,HClp.out.2.1,HClp.out.2.2.1])
        have hsa : x.held.len = fn.len:=by
          have h1:=(Mu.shaped_iff.1 HSh.out).2 i hlt
          rw [qA HX.out HFn.out,Bool.and_eq_true,decide_eq_true_eq] at h1
          exact h1.1
        have HSa:=kp hsa
        have hfn0 : 0 < fn.len:=by rw [← hfok.nodes.1.len];exact M.fine_len HFine.out hfn
        have HFn0:=kp hfn0
        have hfc:=hfok.lc;have hfm:=hfok.cm
        unfold maxLen at hfm
        rw [e0]
        clear hx hfn hfok hac hsa e0 hfn0
        go_wp2_with (first
          | ((with_reducible show Sl 43);go_must (refine j5 rfl 68 (.tmp 8) rfl gC rfl _ (clC cl) _ HKc.out Tryd.underlying68 rfl (by rw [HClC.out];exact lV) ?_))
          | (go_at_call 21;fail))
        refine (uW w5.heap.size cl i x fn wr (HClO.out.below HBrr.out) (by rw [HClp.out.1];exact hlt) (by rw [HClp.out.2.1];exact HX.out) (HFok.out.more15 (Nat.le_trans hB hs5)) HBrr.out.size HSa.out HFn0.out (LN HFine.out HLen.out HFn.out HClp.out.1 (by rw [HSa.out,HFok.out.nodes.1.len])) (Mu.bare p i) (by rw [HClp.out.2.2.2];exact HBare.out i (by omega)) a cc HAc.out).mono ?_
        rintro e w8 ⟨rfl,hb8⟩
        have HB8:=kp (HBr.out.trans (hb8.mono hsr));have HW8:=kp (HW.out.trans (hb8.mono hsW));have HF8:=kp (HF.out.below hb8 HF.out.lt)
        have hs8:=HW8.out.size
        clear hb8 hcf
        by_cases h0 : cc = 0
        · have h0b : ((cc : Int) != 0) = false:=by rw [h0];rfl
          have HCc:=kp h0
          clear h0
          go_wp2
          go_roundw
          case rel => exact ⟨i + 1,by omega,by go_num,(fun f hf => by
            by_cases e : f = i
            · subst e;rw [HFu.out];exact HCc.out
            · exact HAll.out f (by omega)),HB8.out⟩
          case measure => simp [intOf];omega
        · have h0b : ((cc : Int) != 0) = true:=by simp;omega
          have HE : Kept (((i : Int),a,cc) = (ra,rb,rc)):=kp (by
            rw [← HRc.out];exact (Mu.check_hit HSh.out hlt HAll.out HFu.out h0).symm)
          clear h0
          go_wp2_with (first
            | ((with_reducible show Sn);go_must (refine j7 rfl 30 (.tmp 4) (.tmp 54) rfl gF (ftC (i : Int) a (cc : Int)) rfl rfl _ _ HF8.out jO rfl (l6 _ _ _) ?_);intro wz hkz hgz hzz;have HKz:=kp hkz;have HBz:=kp (HW8.out.grown hgz HW8.out.size (fun k e => by cases e;exact HGG.out.2));clear hkz hgz hzz)
            | (((with_reducible show bodyPost _ _ _ _ _ _);exact bodyPost_ret (l8 (P:=Tryd.prog) (fn:=Tryd.f10) rfl _ _ gF 30 _ _ _ rfl rfl HKz.out Tryd.underlying30 rfl jO) rfl ⟨by have h1:=HE.out;simp only [Prod.mk.injEq] at h1;rw [← h1.1,← h1.2.1,← h1.2.2,HC0.out];rfl,HBz.out⟩)))
      · have HE : Kept (((0 : Int),(0 : Int),0) = (ra,rb,rc)):=kp (by
          rw [← HRc.out];exact (Mu.check_none HSh.out fun f hf => HAll.out f (by omega)).symm)
        have hge : p.len ≤ i:=by omega
        clear hlt
        go_wp2_with (first
          | ((with_reducible show Sn);go_must (refine j7 rfl 30 (.tmp 4) (.tmp 56) rfl gF (ftC 0 0 0) rfl rfl _ _ HF.out jO rfl (l6 _ _ _) ?_);intro wz hkz hgz hzz;have HKz:=kp hkz;have HBz:=kp (HW.out.grown hgz HW.out.size (fun k e => by cases e;exact HGG.out.2));clear hkz hgz hzz)
          | (((with_reducible show bodyPost _ _ _ _ _ _);exact bodyPost_ret (l8 (P:=Tryd.prog) (fn:=Tryd.f10) rfl _ _ gF 30 _ _ _ rfl rfl HKz.out Tryd.underlying30 rfl jO) rfl ⟨by have h1:=HE.out;simp only [Prod.mk.injEq] at h1;rw [← h1.1,← h1.2.1,← h1.2.2,HC0.out];rfl,HBz.out⟩)))
end Go.Proofs.YtlgaefenhfmjfaaDoor
