/- SemR7, SemR8, RaceR1, RaceR2, SeekR1. -/
import Derived.Test.YtnaomfmmkhgbhaaPk19
import Derived.Test.YtnaomfmmkhgbhaaSemRk3
import Derived.Test.YtnaomfmmkhgbhaaSemRk4y
import Derived.Test.YtnaomfmmkhgbhaaSemRk4n
import Derived.Test.YtnaomfmmkhgbhaaSemRk5
import Derived.Test.YtnaomfmmkhgbhaaSemRk7
import Derived.Test.YtnaomfmmkhgbhaaSemRk8t
import Derived.Test.YtnaomfmmkhgbhaaSemRk9
import Derived.Test.YtnaomfmmkhgbhaaPk14
import Derived.Test.YtnaomfmmkhgbhaaPk18
import Derived.Test.YtnaomfmmkhgbhaaSemR3
import Derived.BigQuiet
import Derived.Test.YtnaomfmmkhgbhaaPk11
import Derived.Test.YtnaomfmmkhgbhaaPk8
import Derived.Test.YtnaomfmmkhgbhaaPk10
import Derived.Test.YtnaomfmmkhgbhaaSemRS
namespace Go.Proofs.Ytnaomfmmkhgbhaa
open Go.RowKit
theorem rs_step (B : Nat) (p : Pg) (hf : Fine p) (q : Rc) (w : World) (hp : p.Ok w B) (hq : q.Ok w B) (hg : M.Good p q.cf) (hB : B ≤ w.heap.size) (t : Int) (ht : I64 t) (way : Bool) :
    Calls Try.prog 30 #[rcA q,pgA p,.agg #[.int .i64 t,.bool way]] w (StepR w (M.step p q.cf t way)):=by
  cases hen : M.enabled p q.cf t with
  | false => rw [M.step_same hen];exact YX B p hf q w hp hq hg hB t ht way hen
  | true =>
    have h0:=(M.enabled_split hen).1
    obtain ⟨k,rfl⟩ : ∃ k : Nat,t = (k : Int):=⟨t.toNat,by omega⟩
    have henN : M.enabledN p q.cf k = true:=by have h:=(M.enabled_split hen).2;rwa [Int.toNat_natCast] at h
    have hlN:=M.enabled_lives henN
    obtain ⟨fn,hfn,_,_⟩:=M.node_is hg hlN
    have hfit:=(M.node_fit hf hg hlN hfn).kind
    have hst : M.step p q.cf (k : Int) way = M.act q.cf k (M.node p q.cf k) way:=by unfold M.step;rw [if_pos hen,Int.toNat_natCast]
    rw [hst]
    obtain ⟨x,hx⟩ : ∃ x,M.node p q.cf k = x:=⟨_,rfl⟩
    rw [hx] at hfit ⊢
    by_cases h9 : x.kind = 9
    · exact rs_step_9 B p hf q w hp hq hg hB k way hlN hen x hx h9
    by_cases h3 : x.kind = 3
    · exact rs_step_3 B p hf q w hp hq hg hB k way hlN hen x hx h3
    by_cases h4 : x.kind = 4
    · by_cases ho : q.ow.getD x.arg.toNat 0 = k + 1
      · exact rs_step_4y B p hf q w hp hq hg hB k way hlN hen x hx h4 ho
      · exact rs_step_4n B p hf q w hp hq hg hB k way hlN hen x hx h4 ho
    by_cases h5 : x.kind = 5
    · exact rs_step_5 B p hf q w hp hq hg hB k way hlN hen x hx h5
    by_cases h7 : x.kind = 7
    · exact rs_step_7 B p hf q w hp hq hg hB k way hlN hen x hx h7
    by_cases h8 : x.kind = 8
    · cases way with
      | false => exact rs_step_8f B p hf q w hp hq hg hB k false hlN hen x hx h8 rfl
      | true => exact rs_step_8t B p hf q w hp hq hg hB k true hlN hen x hx h8 rfl
    exact YY B p hf q w hp hq hg hB k way hlN hen x hx ⟨h3,h4,h5,h7,h8,h9⟩
theorem Y6 (A : Option Addr) (n c : Nat) (A2 : Option Addr) (n2 c2 : Nat) : Try.prog.built 79 [(0,.slice A n c),(1,.slice A2 n2 c2)] = some (Value.slice A n c :: .slice A2 n2 c2 :: zeros 16).toArray:=by kernel_rfl
theorem YG (A : Option Addr) (n c : Nat) (A2 : Option Addr) (n2 c2 : Nat) : ∀ u ∈ Value.slice A n c :: .slice A2 n2 c2 :: zeros 16,u.oneCell' = true:=by
  intro u hu
  rcases List.mem_cons.1 hu with rfl | hu
  · rfl
  rcases List.mem_cons.1 hu with rfl | hu
  · rfl
  · rw [List.eq_of_mem_replicate hu];rfl
theorem zeros16 : zeros 16 = (List.replicate 16 0 : List Nat).map natV:=by rfl
theorem zeros8c : zeros 8 = cellsR 8 slV [List.replicate 8 0]:=by rfl
def rcOne (gF gM gZ : Nat) : Rc:=⟨some ⟨gM,0,none⟩,1,[⟨some ⟨gF,0,none⟩,1,1,[(0,0)]⟩],some ⟨gZ,0,none⟩,1,[List.replicate 8 0],1,List.replicate 16 0⟩
theorem XM (gF gM gZ : Nat) : rcC (rcOne gF gM gZ) = Value.slice (some ⟨gM,0,none⟩) 1 1 :: .slice (some ⟨gZ,0,none⟩) 1 1 :: zeros 16:=by unfold rcC rcOne;rw [zeros16]
theorem rcOne_mine {w : World} {B gF gM gZ : Nat} (hF : Blk w gF 122 [.int .i64 ((0 : Nat) : Int),.int .i64 0]) (hM : Blk w gM 123 [.slice (some ⟨gF,0,none⟩) 1 1]) (hZ : Blk w gZ 92 (zeros 8)) (h1 : B ≤ gF) (h2 : B ≤ gM) (h3 : B ≤ gZ) : RMine w B (rcOne gF gM gZ):=by
  have e1 : gF ≠ gM:=fun e => by subst e;exact jP hF hM (by decide)
  have e2 : gF ≠ gZ:=fun e => by subst e;exact jP hF hZ (by decide)
  have e3 : gM ≠ gZ:=fun e => by subst e;exact jP hM hZ (by decide)
  refine ⟨OwnR.of_blk hM h2 rfl (Nat.le_refl _) (show 1 ≤ maxLen by unfold maxLen;omega) rfl rfl,OwnR.of_blk hZ h3 rfl (Nat.le_refl _) (show 1 ≤ maxLen by unfold maxLen;omega) rfl (by rw [zeros8c];rfl),⟨fun k x hx => ?_,fun k x b hx hb hs => ?_,fun j k x y b hx hy hj hk => ?_⟩,fun b hb hb2 => ?_⟩
  · have hk : k = 0:=by have:=(List.getElem?_eq_some_iff.1 hx).1;simp [rcOne] at this;omega
    subst hk
    have e : x = ⟨some ⟨gF,0,none⟩,1,1,[(0,0)]⟩:=(Option.some.inj hx).symm
    subst e
    exact own_new hF h1
  · have hk : k = 0:=by have:=(List.getElem?_eq_some_iff.1 hx).1;simp [rcOne] at this;omega
    subst hk
    have e : x = ⟨some ⟨gF,0,none⟩,1,1,[(0,0)]⟩:=(Option.some.inj hx).symm
    subst e
    have eb : gF = b:=by injection hb
    rcases hs with hs | hs
    · have : gM = b:=by injection hs
      exact e1 (by omega)
    · have : gZ = b:=by injection hs
      exact e2 (by omega)
  · have hk1 : j = 0:=by have:=(List.getElem?_eq_some_iff.1 hx).1;simp [rcOne] at this;omega
    have hk2 : k = 0:=by have:=(List.getElem?_eq_some_iff.1 hy).1;simp [rcOne] at this;omega
    omega
  · have h4 : gM = b:=(by injection hb)
    have h5 : gZ = b:=(by injection hb2)
    exact e3 (by omega)
set_option maxRecDepth 100000 in
set_option maxHeartbeats 3200000 in
theorem rs_start (w : World) : Calls Try.prog 26 #[] w (StepR w M.start):=by
  unfold StepR
  go_enter Try.func26,Try.ntmps26
  go_wp2_with (first
    | ((with_reducible show Sl 0);go_must (refine j3 rfl 79 rfl _ jU ?_);intro gR w1 hgR hk1 hw1;have HKR1:=kp hk1;have HGR:=kp hgR;have HW1:=kp hw1;have hs1:=hw1.size;have hlR1:=hk1.lt;clear hk1 hw1 hgR)
    | ((with_reducible show Sl 2);go_must (refine j8 rfl 123 122 (.tmp 1) rfl 2 Try.underlying123 yN (by omega) (by omega) _ [.int .i64 0,.int .i64 0] rfl rfl rfl ?_);intro gF w2 hgF hk2 hw2;have HF2:=kp hk2;have HgF:=kp (show w.heap.size ≤ gF by omega);have HW2:=kp (HW1.out.trans (hw2.mono hs1));have HKR2:=kp (HKR1.out.below hw2 hlR1);have hs2:=HW2.out.size;have hlF2:=hk2.lt;have hlR2:=HKR2.out.lt;clear hk2 hw2 hgF)
    | ((with_reducible show Sl 3);go_must (refine j8 rfl 76 123 (.tmp 2) rfl 1 Try.underlying76 uU (by omega) (by omega) _ [.slice (some ⟨gF,0,none⟩) 1 1] rfl rfl rfl ?_);intro gM w3 hgM hk3 hw3;have HM3:=kp hk3;have HgM:=kp (show w.heap.size ≤ gM by omega);have HW3:=kp (HW2.out.trans (hw3.mono hs2));have HKR3:=kp (HKR2.out.below hw3 hlR2);have HF3:=kp (HF2.out.below hw3 hlF2);have hs3:=HW3.out.size;have hlF3:=HF3.out.lt;have hlM3:=hk3.lt;have hlR3:=HKR3.out.lt;clear hk3 hw3 hgM)
    | ((with_reducible show Sl 4);go_must (refine xX rfl 92 rfl (zeros 8) 8 3 Try.underlying92 Q1 uS ?_))
    | ((with_reducible show Sl 5);go_must (refine j8 rfl 77 92 (.tmp 4) rfl 8 Try.underlying77 xG (by omega) (by omega) _ (zeros 8) rfl rfl rfl ?_);intro gZ w4 hgZ hk4 hw4;have HZ4:=kp hk4;have HgZ:=kp (show w.heap.size ≤ gZ by omega);have HW4:=kp (HW3.out.trans (hw4.mono hs3));have HKR4:=kp (HKR3.out.below hw4 hlR3);have HF4:=kp (HF3.out.below hw4 hlF3);have HM4:=kp (HM3.out.below hw4 hlM3);have hs4:=HW4.out.size;have HNR : Kept (gR ≠ gF ∧ gR ≠ gM ∧ gR ≠ gZ):=kp ⟨fun e => by rw [e] at HKR4;exact jP HKR4.out HF4.out (by decide),fun e => by rw [e] at HKR4;exact jP HKR4.out HM4.out (by decide),fun e => by rw [e] at HKR4;exact jP HKR4.out HZ4.out (by decide)⟩;clear hk4 hw4 hgZ)
    | ((with_reducible show Sl 6);go_must (refine JA rfl 79 0 1 (.tmp 3) (.tmp 5) rfl (.slice (some ⟨gM,0,none⟩) 1 1) (.slice (some ⟨gZ,0,none⟩) 1 1) rfl rfl (Value.slice (some ⟨gM,0,none⟩) 1 1 :: .slice (some ⟨gZ,0,none⟩) 1 1 :: zeros 16) (Y6 _ _ _ _ _ _) ?_))
    | ((with_reducible show Sn);go_must (refine j4 rfl 79 (.tmp 0) (.tmp 6) rfl gR (Value.slice (some ⟨gM,0,none⟩) 1 1 :: .slice (some ⟨gZ,0,none⟩) 1 1 :: zeros 16) rfl rfl _ _ HKR4.out j5 rfl (YG _ _ _ _ _ _) ?_);intro w5 hk5 hg5 hs5
       have HK5:=kp (show Blk w5 gR 79 (rcC (rcOne gF gM gZ)) from by rw [XM];exact hk5)
       have HMi:=kp (rcOne_mine (HF4.out.grown hg5 (fun e => by cases e;exact HNR.out.1 rfl)) (HM4.out.grown hg5 (fun e => by cases e;exact HNR.out.2.1 rfl)) (HZ4.out.grown hg5 (fun e => by cases e;exact HNR.out.2.2 rfl)) HgF.out HgM.out HgZ.out)
       have HW5:=kp (HW4.out.grown hg5 hs4 (fun k e => by cases e;exact HGR.out));clear hk5 hg5 hs5)
    | ((with_reducible show bodyPost _ _ _ _ _ _);exact bodyPost_ret (jK (P:=Try.prog) (fn:=Try.f26) rfl _ _ gR 79 _ _ rfl HK5.out Try.underlying79 rfl (by rw [jJ (q:=rcOne gF gM gZ) rfl];exact j5)) rfl ⟨rcOne gF gM gZ,rfl,HMi.out,rfl,HW5.out⟩))
set_option maxRecDepth 100000 in
set_option maxHeartbeats 1600000 in
theorem ra_at (B : Nat) (p : Pg) (hf : Fine p) (q : Rc) (w : World) (hp : p.Ok w B) (hq : q.Ok w B) (hg : M.Good p q.cf) (hB : B ≤ w.heap.size) (t : Int) (ht : I64 t) (gl how : Int) (ha : M.acc p q.cf t = (gl,how)) :
    Calls Try.prog 48 #[pgA p,rcA q,.int .i64 t] w fun e w' => e = .returned (.tuple #[.int .i64 gl,.int .i64 how]) ∧ Below w.heap.size w w':=by
  have h8 : q.len ≤ 8:=by rw [← hq.len];exact hg.most
  have HQ18:=kp (jJ hg.owns)
  have HP:=kp hp;have HQ:=kp hq;have HT:=kp ht;have HG:=kp hg;have HF:=kp hf
  cases hlv : M.lives q.cf t
  · have HLv:=kp hlv
    rw [acc_out hlv] at ha
    have e1 : (0 : Int) = gl:=congrArg Prod.fst ha
    have e2 : (0 : Int) = how:=congrArg Prod.snd ha
    subst e1 e2
    clear hp hq ht hg hf ha hlv
    rw [lC,jI]
    go_enter Try.func48,Try.ntmps48
    go_wp2_with (first
      | ((with_reducible refine j2 rfl 24 (.tmp 0) rfl (pgC p) rfl ?_);intro g1 w1 hg1 hk1 hw1;have HK1:=kp hk1;have HW1:=kp hw1;have hs1:=hw1.size;have hl1:=hk1.lt;clear hk1 hw1)
      | ((with_reducible refine j2 rfl 79 (.tmp 1) rfl (rcC q) rfl ?_);intro g2 w2 hg2 hk2 hw2;have HK2:=kp hk2;have HK12:=kp (HK1.out.below hw2 hl1);have HW2:=kp (HW1.out.trans (hw2.mono hs1));have hs2:=HW2.out.size;have hl12:=HK12.out.lt;have hl2:=hk2.lt;clear hk2 hw2)
      | ((with_reducible show Sl 9);go_must (refine j1 rfl 79 (.tmp 4) rfl g2 rfl _ (rcC q) _ HK2.out Try.underlying79 rfl (by rw [HQ18.out];exact j5) ?_))
      | (go_at_call 50;go_must (refine (qB B q w2 (HQ.out.below (HW2.out.mono hB)) (by omega) (by omega) t HT.out false HLv.out).mono ?_);rintro e w4 ⟨rfl,hb4⟩
         have HW4:=kp (HW2.out.trans (hb4.mono hs2));clear hb4))
    go_ret2
    exact ⟨rfl,HW4.out⟩
  · obtain ⟨k,rfl⟩ : ∃ k : Nat,t = (k : Int):=⟨t.toNat,by
      unfold M.lives at hlv
      rw [Bool.and_eq_true,decide_eq_true_eq] at hlv
      omega⟩
    obtain ⟨x,hx⟩ : ∃ x,M.node p q.cf k = x:=⟨_,rfl⟩
    have hlv2:=hlv
    rw [M.lives_nat] at hlv2
    have HLv:=kp hlv;have HLv2:=kp hlv2;have HX:=kp hx
    have ha2 : (if x.kind = 1 ∨ x.kind = 2 then (x.arg,x.kind) else (0,0)) = (gl,how):=by
      rw [← ha]
      unfold M.acc
      rw [Int.toNat_natCast,hx,hlv]
      simp
    have HEx : Kept (ndC x = [.int .i64 x.kind,.int .i64 x.arg,.int .i64 x.next,.int .i64 x.alt]):=kp rfl
    clear hp hq ht hg hf ha hlv hlv2 hx
    by_cases hk : x.kind = 1 ∨ x.kind = 2
    · rw [if_pos hk] at ha2
      have e1 : x.arg = gl:=congrArg Prod.fst ha2
      have e2 : x.kind = how:=congrArg Prod.snd ha2
      have HE1:=kp e1;have HE2:=kp e2
      clear ha2 e1 e2
      have e12 : (x.kind != 1) = false ∨ (x.kind != 1) = true ∧ (x.kind != 2) = false:=by
        rcases hk with h | h
        · exact .inl (by rw [h];rfl)
        · exact .inr ⟨by rw [h];rfl,by rw [h];rfl⟩
      clear hk
      obtain ⟨kd,hkd⟩ : ∃ kd,x.kind = kd:=⟨_,rfl⟩
      obtain ⟨ar,har⟩ : ∃ ar,x.arg = ar:=⟨_,rfl⟩
      rw [hkd,har] at HEx
      rw [har] at HE1
      rw [hkd] at HE2 e12
      clear hkd har
      rcases e12 with e1 | ⟨e1,e2⟩
      all_goals
        rw [lC,jI]
        go_enter Try.func48,Try.ntmps48
        go_wp2_with (first
          | ((with_reducible refine j2 rfl 24 (.tmp 0) rfl (pgC p) rfl ?_);intro g1 w1 hg1 hk1 hw1;have HK1:=kp hk1;have HW1:=kp hw1;have hs1:=hw1.size;have hl1:=hk1.lt;clear hk1 hw1)
          | ((with_reducible refine j2 rfl 79 (.tmp 1) rfl (rcC q) rfl ?_);intro g2 w2 hg2 hk2 hw2;have HK2:=kp hk2;have HK12:=kp (HK1.out.below hw2 hl1);have HW2:=kp (HW1.out.trans (hw2.mono hs1));have hs2:=HW2.out.size;have hl12:=HK12.out.lt;have hl2:=hk2.lt;clear hk2 hw2)
          | ((with_reducible show Sl 9);go_must (refine j1 rfl 79 (.tmp 4) rfl g2 rfl _ (rcC q) _ HK2.out Try.underlying79 rfl (by rw [HQ18.out];exact j5) ?_))
          | (go_at_call 50;go_must (refine (qB B q w2 (HQ.out.below (HW2.out.mono hB)) (by omega) (by omega) (k : Int) HT.out true HLv.out).mono ?_);rintro e w4 ⟨rfl,hb4⟩
             have HW4:=kp (HW2.out.trans (hb4.mono hs2));have HK24:=kp (HK2.out.below hb4 hl2);have HK14:=kp (HK12.out.below hb4 hl12);have hs4:=HW4.out.size;clear hb4)
          | ((with_reducible show Sl 13);go_must (refine j1 rfl 79 (.tmp 4) rfl g2 rfl _ (rcC q) _ HK24.out Try.underlying79 rfl (by rw [HQ18.out];exact j5) ?_))
          | ((with_reducible show Sl 14);go_must (refine j1 rfl 24 (.tmp 3) rfl g1 rfl _ (pgC p) _ HK14.out Try.underlying24 rfl jD ?_))
          | (go_at_call 29;go_must (refine (qS B p HF.out q w4 (HP.out.below (HW4.out.mono hB)) (HQ.out.below (HW4.out.mono hB)) HG.out (by omega) k HLv2.out x HX.out).mono ?_);rintro e w5 ⟨rfl,hb5⟩
             have HW5:=kp (HW4.out.trans (hb5.mono hs4));have hs5:=HW5.out.size;clear hb5)
          | ((with_reducible show Sl 8);go_must (refine j3 rfl 55 rfl (ndC ⟨0,0,0,0⟩) jQ ?_);intro g3 w7 hg3 hk7 hw7;have HK37:=kp hk7;have HG3:=kp hg3;have HW7:=kp (HW5.out.trans (hw7.mono hs5));clear hk7 hw7 hg3)
          | ((with_reducible show Sn);go_must (refine j4 rfl 55 (.tmp 8) (.tmp 16) rfl g3 (ndC x) rfl rfl _ _ HK37.out jH rfl (jR _) ?_);intro w6 hk6 hg6 hs6
             have HW6:=kp (HW7.out.grown hg6 HW7.out.size (fun k e => by cases e;have:=HG3.out;omega));clear hg6 hs6
             rw [HEx.out] at hk6;have hx0:=hk6.cell 0;have hx1:=hk6.cell 1;simp only [List.getElem?_cons_zero,List.getElem?_cons_succ] at hx0 hx1;clear hk6))
        go_quiet (fail)
        go_wp2
        go_ret2
        exact ⟨by rw [HE1.out,HE2.out];rfl,below_drewN HW6.out _⟩
    · rw [if_neg hk] at ha2
      have e1 : (0 : Int) = gl:=congrArg Prod.fst ha2
      have e2 : (0 : Int) = how:=congrArg Prod.snd ha2
      subst e1 e2
      have n1 : (x.kind != 1) = true:=by rw [bne_iff_ne];omega
      have n2 : (x.kind != 2) = true:=by rw [bne_iff_ne];omega
      clear ha2 hk
      rw [lC,jI]
      go_enter Try.func48,Try.ntmps48
      go_wp2_with (first
        | ((with_reducible refine j2 rfl 24 (.tmp 0) rfl (pgC p) rfl ?_);intro g1 w1 hg1 hk1 hw1;have HK1:=kp hk1;have HW1:=kp hw1;have hs1:=hw1.size;have hl1:=hk1.lt;clear hk1 hw1)
        | ((with_reducible refine j2 rfl 79 (.tmp 1) rfl (rcC q) rfl ?_);intro g2 w2 hg2 hk2 hw2;have HK2:=kp hk2;have HK12:=kp (HK1.out.below hw2 hl1);have HW2:=kp (HW1.out.trans (hw2.mono hs1));have hs2:=HW2.out.size;have hl12:=HK12.out.lt;have hl2:=hk2.lt;clear hk2 hw2)
        | ((with_reducible show Sl 9);go_must (refine j1 rfl 79 (.tmp 4) rfl g2 rfl _ (rcC q) _ HK2.out Try.underlying79 rfl (by rw [HQ18.out];exact j5) ?_))
        | (go_at_call 50;go_must (refine (qB B q w2 (HQ.out.below (HW2.out.mono hB)) (by omega) (by omega) (k : Int) HT.out true HLv.out).mono ?_);rintro e w4 ⟨rfl,hb4⟩
           have HW4:=kp (HW2.out.trans (hb4.mono hs2));have HK24:=kp (HK2.out.below hb4 hl2);have HK14:=kp (HK12.out.below hb4 hl12);have hs4:=HW4.out.size;clear hb4)
        | ((with_reducible show Sl 13);go_must (refine j1 rfl 79 (.tmp 4) rfl g2 rfl _ (rcC q) _ HK24.out Try.underlying79 rfl (by rw [HQ18.out];exact j5) ?_))
        | ((with_reducible show Sl 14);go_must (refine j1 rfl 24 (.tmp 3) rfl g1 rfl _ (pgC p) _ HK14.out Try.underlying24 rfl jD ?_))
        | (go_at_call 29;go_must (refine (qS B p HF.out q w4 (HP.out.below (HW4.out.mono hB)) (HQ.out.below (HW4.out.mono hB)) HG.out (by omega) k HLv2.out x HX.out).mono ?_);rintro e w5 ⟨rfl,hb5⟩
           have HW5:=kp (HW4.out.trans (hb5.mono hs4));have hs5:=HW5.out.size;clear hb5)
        | ((with_reducible show Sl 8);go_must (refine j3 rfl 55 rfl (ndC ⟨0,0,0,0⟩) jQ ?_);intro g3 w7 hg3 hk7 hw7;have HK37:=kp hk7;have HG3:=kp hg3;have HW7:=kp (HW5.out.trans (hw7.mono hs5));clear hk7 hw7 hg3)
        | ((with_reducible show Sn);go_must (refine j4 rfl 55 (.tmp 8) (.tmp 16) rfl g3 (ndC x) rfl rfl _ _ HK37.out jH rfl (jR _) ?_);intro w6 hk6 hg6 hs6
           have HW6:=kp (HW7.out.grown hg6 HW7.out.size (fun k e => by cases e;have:=HG3.out;omega));clear hg6 hs6
           rw [HEx.out] at hk6;have hx0:=hk6.cell 0;simp only [List.getElem?_cons_zero] at hx0;clear hk6))
      go_ret2
      exact ⟨rfl,HW6.out⟩
set_option maxRecDepth 100000 in
set_option maxHeartbeats 3200000 in
theorem ra_pair (B : Nat) (p : Pg) (hf : Fine p) (q : Rc) (w : World) (hp : p.Ok w B) (hq : q.Ok w B) (hg : M.Good p q.cf) (hB : B ≤ w.heap.size) (a b g : Int) (ha : I64 a) (hb : I64 b) (r : Bool) (hr : M.pair p q.cf a b g = r) :
    Calls Try.prog 49 #[pgA p,rcA q,.int .i64 a,.int .i64 b,.int .i64 g] w fun e w' => e = .returned (.bool r) ∧ Below w.heap.size w w':=by
  have HQ18:=kp (jJ hg.owns)
  have HP:=kp hp;have HQ:=kp hq;have HG:=kp hg;have HF:=kp hf;have HA:=kp ha;have HB:=kp hb
  obtain ⟨x,hx⟩ : ∃ x,(M.acc p q.cf a).1 = x:=⟨_,rfl⟩
  obtain ⟨h1,hh1⟩ : ∃ h1,(M.acc p q.cf a).2 = h1:=⟨_,rfl⟩
  obtain ⟨y,hy⟩ : ∃ y,(M.acc p q.cf b).1 = y:=⟨_,rfl⟩
  obtain ⟨h2,hh2⟩ : ∃ h2,(M.acc p q.cf b).2 = h2:=⟨_,rfl⟩
  have HAa : Kept (M.acc p q.cf a = (x,h1)):=kp (by rw [← hx,← hh1])
  have HAb : Kept (M.acc p q.cf b = (y,h2)):=kp (by rw [← hy,← hh2])
  have t1:=M.acc_two p q.cf a
  have t2:=M.acc_two p q.cf b
  rw [hh1] at t1
  rw [hh2] at t2
  have hr2 : decide (a ≠ b ∧ 0 < h1 ∧ 0 < h2 ∧ x = y ∧ x = g ∧ 2 < h1 + h2) = r:=by
    rw [← hr];unfold M.pair;rw [hx,hh1,hy,hh2]
  clear hp hq hg hf ha hb hx hh1 hy hh2 hr
  rw [lC,jI]
  go_enter Try.func49,Try.ntmps49
  have HR2:=kp hr2;have HT1:=kp t1;have HT2:=kp t2
  clear hr2 t1 t2
  go_wp2_with (first
    | ((with_reducible refine j2 rfl 24 (.tmp 0) rfl (pgC p) rfl ?_);intro g1 w1 hg1 hk1 hw1;have HK1:=kp hk1;have HW1:=kp hw1;have hs1:=hw1.size;have hl1:=hk1.lt;clear hk1 hw1)
    | ((with_reducible refine j2 rfl 79 (.tmp 1) rfl (rcC q) rfl ?_);intro g2 w2 hg2 hk2 hw2;have HK2:=kp hk2;have HK12:=kp (HK1.out.below hw2 hl1);have HW2:=kp (HW1.out.trans (hw2.mono hs1));have hs2:=HW2.out.size;have hl12:=HK12.out.lt;have hl2:=hk2.lt;clear hk2 hw2)
    | ((with_reducible show Sl 16);go_must (refine j1 rfl 24 (.tmp 5) rfl g1 rfl _ (pgC p) _ HK12.out Try.underlying24 rfl jD ?_))
    | ((with_reducible show Sl 17);go_must (refine j1 rfl 79 (.tmp 6) rfl g2 rfl _ (rcC q) _ HK2.out Try.underlying79 rfl (by rw [HQ18.out];exact j5) ?_))
    | (go_at_call 48;fail))
  refine (ra_at B p HF.out q w2 (HP.out.below (HW2.out.mono hB)) (HQ.out.below (HW2.out.mono hB)) HG.out (by omega) a HA.out x h1 HAa.out).mono ?_
  rintro e w3 ⟨rfl,hb3⟩
  have HW3:=kp (HW2.out.trans (hb3.mono hs2));have HK13:=kp (HK12.out.below hb3 hl12);have HK23:=kp (HK2.out.below hb3 hl2);have hs3:=HW3.out.size
  clear hb3
  go_wp2_with (first
    | ((with_reducible show Sl 23);go_must (refine j1 rfl 24 (.tmp 5) rfl g1 rfl _ (pgC p) _ HK13.out Try.underlying24 rfl jD ?_))
    | ((with_reducible show Sl 24);go_must (refine j1 rfl 79 (.tmp 6) rfl g2 rfl _ (rcC q) _ HK23.out Try.underlying79 rfl (by rw [HQ18.out];exact j5) ?_))
    | (go_at_call 48;fail))
  refine (ra_at B p HF.out q w3 (HP.out.below (HW3.out.mono hB)) (HQ.out.below (HW3.out.mono hB)) HG.out (by omega) b HB.out y h2 HAb.out).mono ?_
  rintro e w4 ⟨rfl,hb4⟩
  have HW4:=kp (HW3.out.trans (hb4.mono hs3))
  clear hb4
  by_cases hab : a = b
  · have b1 : (a != b) = false:=by rw [bne_eq_false_iff_eq];exact hab
    have HE : Kept (false = r):=kp (by rw [← HR2.out,decide_eq_false];intro h;exact h.1 hab)
    clear hab
    go_wp2
    go_ret
    exact ⟨jG HE.out,HW4.out⟩
  have b1 : (a != b) = true:=by rw [bne_iff_ne];exact hab
  have HAB:=kp hab
  clear hab
  by_cases hz : h1 = 0 ∨ h2 = 0
  · have HE : Kept (false = r):=kp (by rw [← HR2.out,decide_eq_false];rintro ⟨_,i1,i2,_⟩;omega)
    by_cases z1 : h1 = 0
    · subst z1
      go_wp2
      go_ret
      exact ⟨jG HE.out,HW4.out⟩
    · have z2 : h2 = 0:=by omega
      subst z2
      have p1 : 0 < h1:=by have:=HT1.out;omega
      clear hz z1
      go_wp2
      go_ret
      exact ⟨jG HE.out,HW4.out⟩
  have p1 : 0 < h1:=by have:=HT1.out;omega
  have p2 : 0 < h2:=by have:=HT2.out;omega
  have hh1 : h1 ≤ 2:=by have:=HT1.out;omega
  have hh2 : h2 ≤ 2:=by have:=HT2.out;omega
  clear hz
  by_cases hxy : x = y
  · have b2 : (x == y) = true:=by rw [beq_iff_eq];exact hxy
    by_cases hxg : x = g
    · have b3 : (x == g) = true:=by rw [beq_iff_eq];exact hxg
      have HE : Kept (decide (2 < h1 + h2) = r):=kp (by
        rw [← HR2.out]
        by_cases h : 2 < h1 + h2
        · rw [decide_eq_true h,decide_eq_true ⟨HAB.out,p1,p2,hxy,hxg,h⟩]
        · rw [decide_eq_false h,decide_eq_false (fun h2 => h h2.2.2.2.2.2)])
      clear hxy hxg
      go_wp2
      go_ret
      exact ⟨jG HE.out,HW4.out⟩
    · have b3 : (x == g) = false:=by rw [beq_eq_false_iff_ne];exact hxg
      have HE : Kept (false = r):=kp (by rw [← HR2.out,decide_eq_false];rintro ⟨_,_,_,_,h,_⟩;exact hxg h)
      clear hxg hxy
      go_wp2
      go_ret
      exact ⟨jG HE.out,HW4.out⟩
  · have b2 : (x == y) = false:=by rw [beq_eq_false_iff_ne];exact hxy
    have HE : Kept (false = r):=kp (by rw [← HR2.out,decide_eq_false];rintro ⟨_,_,_,h,_⟩;exact hxy h)
    clear hxy
    go_wp2
    go_ret
    exact ⟨jG HE.out,HW4.out⟩
theorem zU {fn : Func} {t u v z : Tmp} (h : fn.results = #[.tmp t,.tmp u,.tmp v,.tmp z]) (tmps : Array Value) (P : Program) (w : World) :
    (results fn tmps).run P w = .ok (.tuple #[tmps.getD t undef,tmps.getD u undef,tmps.getD v undef,tmps.getD z undef]) w:=by
  simp [results,h]
theorem first_yes {p : Pg} {c : M.Cf} {n a b : Nat} (hn : c.ths.length = n) (hab : a < b) (hbn : b < n) (hp : M.pair p c (a : Int) (b : Int) (M.acc p c (a : Int)).1 = true) (h1 : ∀ a' b',a' < b' → b' < n → a' < a → M.NoPair p c a' b') (h2 : ∀ b',a < b' → b' < b → M.NoPair p c a b') :
    M.FirstIs p c (a : Int) (b : Int) (M.acc p c (a : Int)).1 1:=by
  refine .inl ⟨rfl,a,b,rfl,rfl,rfl,hab,by omega,fun h => ?_,fun a' b' hab' hbn' hl => ?_⟩
  · unfold M.NoPair at h
    rw [hp] at h
    exact absurd h (by decide)
  · rcases hl with hl | ⟨rfl,hl⟩
    · exact h1 a' b' hab' (by omega) hl
    · exact h2 b' hab' hl
theorem first_no {p : Pg} {c : M.Cf} {n : Nat} (hn : c.ths.length = n) (h1 : ∀ a' b',a' < b' → b' < n → a' < n → M.NoPair p c a' b') : M.FirstIs p c 0 0 0 0 :=
  .inr ⟨rfl,rfl,rfl,rfl,fun a' b' hab hbn => h1 a' b' hab (by omega) (by omega)⟩
def FirstR (p : Pg) (cf : M.Cf) (w : World) : Ending → World → Prop:=fun e w' => ∃ (x y z h : Int),e = .returned (.tuple #[.int .i64 x,.int .i64 y,.int .i64 z,.int .i64 h]) ∧ M.FirstIs p cf x y z h ∧ Below w.heap.size w w'
set_option maxRecDepth 100000 in
set_option maxHeartbeats 3200000 in
theorem ra_first (B : Nat) (p : Pg) (hf : Fine p) (q : Rc) (w : World) (hp : p.Ok w B) (hq : q.Ok w B) (hg : M.Good p q.cf) (hB : B ≤ w.heap.size) :
    Calls Try.prog 27 #[pgA p,rcA q] w (FirstR p q.cf w):=by
  unfold FirstR
  have h8 : q.len ≤ 8:=by rw [← hq.len];exact hg.most
  have HQ18:=kp (jJ hg.owns)
  have HP:=kp hp;have HQ:=kp hq;have HG:=kp hg;have HF:=kp hf
  have HLen:=kp hq.len
  obtain ⟨n,hn⟩ : ∃ n,q.len = n:=⟨_,rfl⟩
  rw [hn] at HLen h8
  have hqc:=hq.lc.1;have hqm:=hq.lc.2
  unfold maxLen at hqm
  rw [hn] at hqc
  obtain ⟨cp,hcp⟩ : ∃ cp,q.cap = cp:=⟨_,rfl⟩
  rw [hcp] at hqc hqm
  have HE0 : Kept (rcC q = .slice q.A n cp :: .slice q.A2 q.len q.cap2 :: q.ow.map natV):=kp (by rw [← hn,← hcp];rfl)
  clear hp hq hg hf hn hcp
  rw [lC,jI]
  go_enter Try.func27,Try.ntmps27
  go_wp2_with (first
    | ((with_reducible refine j2 rfl 24 (.tmp 0) rfl (pgC p) rfl ?_);intro g1 w1 hg1 hk1 hw1;have HK1:=kp hk1;have HW1:=kp hw1;have hs1:=hw1.size;have hl1:=hk1.lt;clear hk1 hw1)
    | ((with_reducible refine j2 rfl 79 (.tmp 1) rfl (rcC q) rfl ?_);intro g2 w2 hg2 hk2 hw2;have HK2:=kp hk2;have HK12:=kp (HK1.out.below hw2 hl1);have HW2:=kp (HW1.out.trans (hw2.mono hs1));have hs2:=HW2.out.size;have hl12:=HK12.out.lt;have hl2:=hk2.lt;clear hk2 hw2))
  go_loopw [8] (fun v8 wr => ∃ a : Nat,a ≤ n ∧ v8 = .int .i64 a ∧ (∀ a' b',a' < b' → b' < n → a' < a → M.NoPair p q.cf a' b') ∧ Below w2.heap.size w2 wr) (fun v8 _ => n - (intOf v8).toNat)
  case atStart => exact ⟨0,by omega,rfl,(fun _ _ _ _ h => by omega),Below.refl _ _⟩
  case round =>
    obtain ⟨wA,rfl⟩ : ∃ x,x = wr:=⟨_,rfl⟩
    obtain ⟨a,ha,rfl,hbef,hbw⟩:=hrel
    have HBef:=kp hbef;have HBw:=kp hbw
    have hsz:=hbw.size
    have HKa:=kp (HK2.out.below hbw hl2)
    have hla:=HKa.out.lt
    have hca:=HKa.out.cell 0
    rw [HE0.out,List.getElem?_cons_zero] at hca
    clear hbef hbw
    by_cases hlt : a < n
    · have HIa : Kept (I64 (a : Int)):=kp (by unfold I64;omega)
      obtain ⟨gl,hgl⟩ : ∃ gl,(M.acc p q.cf (a : Int)).1 = gl:=⟨_,rfl⟩
      obtain ⟨how,hhow⟩ : ∃ how,(M.acc p q.cf (a : Int)).2 = how:=⟨_,rfl⟩
      have HAc : Kept (M.acc p q.cf (a : Int) = (gl,how)):=kp (by rw [← hgl,← hhow])
      clear hgl hhow
      go_wp2
      clear hca
      go_loopw [9] (fun v9 W => ∃ b : Nat,a < b ∧ b ≤ n ∧ v9 = .int .i64 b ∧ (∀ b',a < b' → b' < b → M.NoPair p q.cf a b') ∧ Below w2.heap.size w2 W) (fun v9 _ => n - (intOf v9).toNat)
      case atStart => exact ⟨a + 1,by omega,by omega,by go_num,(fun _ _ h => by omega),HBw.out⟩
      case round =>
        obtain ⟨b,hab,hb,rfl,hbf,hbj⟩:=hrel
        have HBf:=kp hbf
        have hsj:=hbj.size
        have HBW:=kp (HW2.out.trans (hbj.mono hs2))
        have HBj:=kp hbj
        have hsw:=HBW.out.size
        have HKr:=kp (HK2.out.below hbj hl2);have HK1r:=kp (HK12.out.below hbj hl12)
        have hlr:=HKr.out.lt;have hl1r:=HK1r.out.lt
        have hcr:=HKr.out.cell 0
        rw [HE0.out,List.getElem?_cons_zero] at hcr
        have HPr:=kp (HP.out.below (HBW.out.mono hB));have HQr:=kp (HQ.out.below (HBW.out.mono hB))
        have hBr : B ≤ wr.heap.size:=by omega
        clear hbf hbj
        by_cases hbl : b < n
        · have HIb : Kept (I64 (b : Int)):=kp (by unfold I64;omega)
          obtain ⟨r,hr⟩ : ∃ r,M.pair p q.cf (a : Int) (b : Int) gl = r:=⟨_,rfl⟩
          have HR:=kp hr
          clear hr
          go_wp2_with (first
            | ((with_reducible show Sl 29);go_must (refine j1 rfl 24 (.tmp 2) rfl g1 rfl _ (pgC p) _ HK1r.out Try.underlying24 rfl jD ?_))
            | ((with_reducible show Sl 30);go_must (refine j1 rfl 79 (.tmp 3) rfl g2 rfl _ (rcC q) _ HKr.out Try.underlying79 rfl (by rw [HQ18.out];exact j5) ?_))
            | (go_at_call 48;fail))
          refine (ra_at B p HF.out q wr HPr.out HQr.out HG.out hBr (a : Int) HIa.out gl how HAc.out).mono ?_
          rintro e w4 ⟨rfl,hb4⟩
          have HB4:=kp (HBj.out.trans (hb4.mono hsj));have HW4:=kp (HBW.out.trans (hb4.mono hsw));have hs4:=HW4.out.size
          have HK14:=kp (HK1r.out.below hb4 hl1r);have HK24:=kp (HKr.out.below hb4 hlr)
          have hsz4:=hb4.size
          clear hb4 hcr
          go_wp2_with (first
            | ((with_reducible show Sl 35);go_must (refine j1 rfl 24 (.tmp 2) rfl g1 rfl _ (pgC p) _ HK14.out Try.underlying24 rfl jD ?_))
            | ((with_reducible show Sl 36);go_must (refine j1 rfl 79 (.tmp 3) rfl g2 rfl _ (rcC q) _ HK24.out Try.underlying79 rfl (by rw [HQ18.out];exact j5) ?_))
            | (go_at_call 49;fail))
          refine (ra_pair B p HF.out q w4 (HP.out.below (HW4.out.mono hB)) (HQ.out.below (HW4.out.mono hB)) HG.out (by omega) (a : Int) (b : Int) gl HIa.out HIb.out r HR.out).mono ?_
          rintro e w5 ⟨rfl,hb5⟩
          have HB5:=kp (HB4.out.trans (hb5.mono (by omega)));have HW5:=kp (HW4.out.trans (hb5.mono hs4))
          clear hb5
          cases r
          · go_wp2
            go_roundw
            case rel =>
              refine ⟨b + 1,by omega,by omega,by go_num,fun b' h1 h2 => ?_,HB5.out⟩
              by_cases e : b' = b
              · subst e
                unfold M.NoPair
                rw [HAc.out]
                exact HR.out
              · exact HBf.out b' h1 (by omega)
            case measure => simp [intOf];omega
          · have HFst : Kept (M.FirstIs p q.cf (a : Int) (b : Int) gl 1):=kp (by
              have h:=first_yes HLen.out hab hbl (by rw [HAc.out];exact HR.out) HBef.out HBf.out
              rw [HAc.out] at h
              exact h)
            go_wp2
            (try simp only [Exit.inBlock,Exit.then])
            refine bodyPost_ret (zU rfl _ _ _) rfl ?_
            exact ⟨_,_,_,_,rfl,HFst.out,HW5.out⟩
        · have hbe : n ≤ b:=by omega
          go_wp2
          go_roundw
          case rel =>
            refine ⟨a + 1,by omega,by go_num,fun a' b' h1 h2 h3 => ?_,HBj.out⟩
            by_cases e : a' = a
            · subst e
              exact HBf.out b' h1 (by omega)
            · exact HBef.out a' b' h1 h2 (by omega)
          case measure => simp [intOf];omega
    · have HFst : Kept (M.FirstIs p q.cf 0 0 0 0):=kp (first_no HLen.out (fun a' b' h1 h2 h3 => HBef.out a' b' h1 h2 (by omega)))
      have HBW:=kp (HW2.out.trans (HBw.out.mono hs2))
      go_wp2
      (try simp only [Exit.inBlock,Exit.then])
      refine bodyPost_ret (zU rfl _ _ _) rfl ?_
      exact ⟨0,0,0,0,rfl,HFst.out,HBW.out⟩
def rcV (q : Rc) (j : Nat) : Value:=(rcC q).getD j (.int .i64 0)
theorem QK (q : Rc) (j : Nat) : (rcV q j).oneCell' = true:=by
  unfold rcV
  rw [List.getD_eq_getElem?_getD]
  cases h : (rcC q)[j]? with
  | none => rfl
  | some v => exact l0 q v (List.mem_of_getElem? h)
theorem QL {q : Rc} (h : q.ow.length = 16) {j : Nat} (hj : j < 18) : (rcC q)[j]? = some (rcV q j):=by
  unfold rcV
  rw [List.getD_eq_getElem?_getD,List.getElem?_eq_getElem (by rw [jJ h];exact hj)];rfl
structure Ps where
  A : Option Addr
  n : Nat
  cap : Nat
  l : List (Int × Bool)
def psV (x : Ps) (_ : Nat) : Value:=.slice x.A x.n x.cap
theorem QN (x : Ps) (j : Nat) : (psV x j).oneCell' = true:=rfl
theorem RMine.held {w w' : World} {B : Nat} {q : Rc} {S : Nat → Prop} (h : RMine w B q) (hb : Held S w w') (hS : ∀ k,k < w.heap.size → Ty w k = some 123 ∨ Ty w k = some 92 ∨ Ty w k = some 122 → S k) : RMine w' B q :=
  ⟨h.row.heldAt hb fun k hk => hS k (h.row.block k hk).2 (.inl (h.row.ty k hk)),h.slr.heldAt hb fun k hk => hS k (h.slr.block k hk).2 (.inr (.inl (h.slr.ty k hk))),
    ⟨fun k x hx => (h.fam.own k x hx).heldAt hb fun b hv => hS b ((h.fam.own k x hx).block b hv).2 (.inr (.inr ((h.fam.own k x hx).ty b hv))),h.fam.out,h.fam.apart⟩,h.ne⟩
structure Rr where
  AA : Option Addr
  an : Nat
  ac : Nat
  PA : Option Addr
  pn : Nat
  pc : Nat
def RkT (r : Rr) (k : Nat) : Prop:=(Value.slice r.AA r.an r.ac).ownBlock = some k ∨ (Value.slice r.PA r.pn r.pc).ownBlock = some k
structure RkP (w : World) (B : Nat) (r : Rr) (cs : List Rc) (ps : List Ps) : Prop where
  all : OwnT 18 rcV w B 79 r.AA r.an r.ac cs
  paths : OwnT 1 psV w B 27 r.PA r.pn r.pc ps
  confs : ∀ q ∈ cs,RMine w B q ∧ q.ow.length = 16
  picks : ∀ x ∈ ps,OwnT 2 pkV w B 51 x.A x.n x.cap x.l
structure RkM (w : World) (B : Nat) (r : Rr) (s : K.Sk) (cs : List Rc) (ps : List Ps) : Prop where
  pt : RkP w B r cs ps
  cfs : cs.map Rc.cf = s.all.map (·.cf)
  pks : ps.map Ps.l = s.all.map (·.path)
def RkS (w w' : World) (r r' : Rr) : Prop:=Held (fun k => k < w.heap.size ∧ ¬ RkT r k) w w' ∧ ∀ k,RkT r' k → RkT r k ∨ w.heap.size ≤ k
section
variable {w w' w0 : World} {B : Nat} {r r' : Rr} {cs : List Rc} {ps : List Ps} {s : K.Sk}
theorem OwnT.tyT {α : Type} {sz : Nat} {f : α → Nat → Value} {n cap : Nat} {e : TypeId} {A : Option Addr} {l : List α} (h : OwnT sz f w B e A n cap l) : ∀ k,(Value.slice A n cap).ownBlock = some k → Ty w k = some e:=by
  intro k hk
  rcases h.2.2.2 with ⟨rfl,_⟩ | ⟨g,off,cur,rfl,_,hg,_⟩
  · cases hk
  · have : g = k:=by simpa [Value.ownBlock] using hk
    subst this
    exact hg.ty
theorem RkP.lt (h : RkP w B r cs ps) {k : Nat} (hk : RkT r k) : B ≤ k ∧ k < w.heap.size:=by
  rcases hk with hk | hk
  · exact h.all.block k hk
  · exact h.paths.block k hk
theorem RkP.ty (h : RkP w B r cs ps) {k : Nat} (hk : RkT r k) : Ty w k = some 79 ∨ Ty w k = some 27:=by
  rcases hk with hk | hk
  · exact .inl (h.all.tyT k hk)
  · exact .inr (h.paths.tyT k hk)
theorem RkP.below {C : Nat} (h : RkP w B r cs ps) (hb : Below C w w') (hC : w.heap.size ≤ C) : RkP w' B r cs ps :=
  ⟨h.all.below hb hC,h.paths.below hb hC,fun q hq => ⟨(h.confs q hq).1.below hb hC,(h.confs q hq).2⟩,fun x hx => (h.picks x hx).below hb hC⟩
theorem RkM.below {C : Nat} (h : RkM w B r s cs ps) (hb : Below C w w') (hC : w.heap.size ≤ C) : RkM w' B r s cs ps:=⟨h.pt.below hb hC,h.cfs,h.pks⟩
theorem RkS.trans {w1 : World} {r1 r2 : Rr} (h : RkS w w1 r r1) (k : RkS w1 w' r1 r2) : RkS w w' r r2:=by
  have hz:=h.1.size
  refine ⟨h.1.trans (k.1.less fun b hb => ⟨by omega,fun e => ?_⟩),fun b hb => ?_⟩
  · rcases h.2 b e with h1 | h1
    · exact hb.2 h1
    · omega
  · rcases k.2 b hb with h1 | h1
    · exact h.2 b h1
    · exact .inr (by omega)
theorem RkS.below {w1 : World} {C : Nat} (hb : Below C w w1) (hC : w.heap.size ≤ C) : RkS w w1 r r:=⟨Held.of_below hb fun _ hk => Nat.lt_of_lt_of_le hk.1 hC,fun _ hk => .inl hk⟩
theorem RkS.box {g : Nat} {t : TypeId} {vs : List Value} (hs : RkS w w' r r') (hb : Blk w g t vs) (hn : ¬ RkT r g) : Blk w' g t vs ∧ ¬ RkT r' g :=
  ⟨hb.held hs.1 ⟨hb.lt,hn⟩,fun e => by
    rcases hs.2 g e with h | h
    · exact hn h
    · have:=hb.lt;omega⟩
theorem RkP.other {g : Nat} (h : RkP w B r cs ps) (hg : w.heap.size ≤ g) : ¬ RkT r g:=fun e => by have:=(h.lt e).2;omega
theorem RkS.under (hs : RkS w w' r r') (h : RkP w B r cs ps) (hb : Below B w0 w) (hB : B ≤ w.heap.size) : Below B w0 w' :=
  ⟨hs.1.os.trans hb.os,hs.1.tape.trans hb.tape,hs.1.output.trans hb.output,Nat.le_trans hb.size hs.1.size,fun k hk => (hs.1.block k ⟨by omega,fun e => by have:=(h.lt e).1;omega⟩).trans (hb.block k hk)⟩
theorem RkP.new (w : World) (B : Nat) : RkP w B ⟨none,0,0,none,0,0⟩ [] []:=⟨OwnT.nil _ _ _ _ _,OwnT.nil _ _ _ _ _,fun q hq => (by cases hq),fun x hx => (by cases hx)⟩
theorem RkP.alled {A3 : Option Addr} {n3 c3 : Nat} {c3s : List Rc} (h : RkP w B r cs ps) (hg : Grew w w' (.slice r.AA r.an r.ac) (.slice A3 n3 c3)) (ho : OwnT 18 rcV w' B 79 A3 n3 c3 c3s) (hc : ∀ q ∈ c3s,RMine w B q ∧ q.ow.length = 16) :
    RkP w' B { r with AA:=A3,an:=n3,ac:=c3 } c3s ps ∧ RkS w w' r { r with AA:=A3,an:=n3,ac:=c3 } ∧ (∀ (q : Rc) (B' : Nat),RMine w B' q → RMine w' B' q):=by
  have hH : Held (fun k => k < w.heap.size ∧ Ty w k ≠ some 79) w w':=hg.held.less fun k hk => ⟨hk.1,fun e => hk.2 (h.all.tyT k e)⟩
  have hM : ∀ (q : Rc) (B' : Nat),RMine w B' q → RMine w' B' q:=fun q B' hq => hq.held hH fun k hk ht => ⟨hk,fun e => by rw [e] at ht;rcases ht with ht | ht | ht <;> exact absurd ht (by decide)⟩
  refine ⟨⟨ho,h.paths.heldAt hH fun k hk => ⟨(h.paths.block k hk).2,fun e => by rw [h.paths.tyT k hk] at e;exact absurd e (by decide)⟩,fun q hq => ⟨hM q _ (hc q hq).1,(hc q hq).2⟩,fun x hx => (h.picks x hx).heldAt hH fun k hk => ⟨((h.picks x hx).block k hk).2,fun e => by rw [(h.picks x hx).tyT k hk] at e;exact absurd e (by decide)⟩⟩,
    ⟨hg.held.less fun k hk => ⟨hk.1,fun e => hk.2 (.inl e)⟩,fun k hk => ?_⟩,hM⟩
  rcases hk with h1 | h1
  · rcases hg.2 with h2 | h2
    · exact .inl (.inl (by rw [← h2];exact h1))
    · exact .inr (h2 k h1)
  · exact .inl (.inr h1)
theorem RkP.pathed {A3 : Option Addr} {n3 c3 : Nat} {p3 : List Ps} (h : RkP w B r cs ps) (hg : Grew w w' (.slice r.PA r.pn r.pc) (.slice A3 n3 c3)) (ho : OwnT 1 psV w' B 27 A3 n3 c3 p3) (hc : ∀ x ∈ p3,OwnT 2 pkV w B 51 x.A x.n x.cap x.l) :
    RkP w' B { r with PA:=A3,pn:=n3,pc:=c3 } cs p3 ∧ RkS w w' r { r with PA:=A3,pn:=n3,pc:=c3 }:=by
  have hH : Held (fun k => k < w.heap.size ∧ Ty w k ≠ some 27) w w':=hg.held.less fun k hk => ⟨hk.1,fun e => hk.2 (h.paths.tyT k e)⟩
  refine ⟨⟨h.all.heldAt hH fun k hk => ⟨(h.all.block k hk).2,fun e => by rw [h.all.tyT k hk] at e;exact absurd e (by decide)⟩,ho,fun q hq => ⟨(h.confs q hq).1.held hH fun k hk ht => ⟨hk,fun e => by rw [e] at ht;rcases ht with ht | ht | ht <;> exact absurd ht (by decide)⟩,(h.confs q hq).2⟩,fun x hx => (hc x hx).heldAt hH fun k hk => ⟨((hc x hx).block k hk).2,fun e => by rw [(hc x hx).tyT k hk] at e;exact absurd e (by decide)⟩⟩,
    ⟨hg.held.less fun k hk => ⟨hk.1,fun e => hk.2 (.inr e)⟩,fun k hk => ?_⟩⟩
  rcases hk with h1 | h1
  · exact .inl (.inl h1)
  · rcases hg.2 with h2 | h2
    · exact .inl (.inr (by rw [← h2];exact h1))
    · exact .inr (h2 k h1)
theorem RkM.lens (h : RkM w B r s cs ps) : r.an = s.all.length ∧ r.pn = s.all.length ∧ cs.length = s.all.length ∧ ps.length = s.all.length:=by
  have h1:=congrArg List.length h.cfs;have h2:=congrArg List.length h.pks
  simp only [List.length_map] at h1 h2
  exact ⟨by rw [← h.pt.all.1,h1],by rw [← h.pt.paths.1,h2],h1,h2⟩
theorem RkM.at (h : RkM w B r s cs ps) {i : Nat} {e : K.En} (he : s.all[i]? = some e) : ∃ q x,cs[i]? = some q ∧ q.cf = e.cf ∧ RMine w B q ∧ q.ow.length = 16 ∧ ps[i]? = some x ∧ x.l = e.path ∧ OwnT 2 pkV w B 51 x.A x.n x.cap x.l:=by
  have hl:=h.lens
  have hi:=(List.getElem?_eq_some_iff.1 he).1
  have h1:=congrArg (fun l : List M.Cf => l[i]?) h.cfs
  have h2:=congrArg (fun l : List (List (Int × Bool)) => l[i]?) h.pks
  have hq : cs[i]? = some cs[i]:=List.getElem?_eq_getElem (by omega)
  have hx : ps[i]? = some ps[i]:=List.getElem?_eq_getElem (by omega)
  simp only [List.getElem?_map,he,hq,hx,Option.map_some] at h1 h2
  have hm:=h.pt.confs _ (List.mem_of_getElem? hq)
  exact ⟨_,_,hq,Option.some.inj h1,hm.1,hm.2,hx,Option.some.inj h2,h.pt.picks _ (List.mem_of_getElem? hx)⟩
theorem OwnT.rcAt {n cap g off : Nat} (h : OwnT 18 rcV w B 79 (some ⟨g,off,none⟩) n cap cs) {k : Nat} {q : Rc} (hq : cs[k]? = some q) (h16 : q.ow.length = 16) : ∀ j v,(rcC q)[j]? = some v → w.cell? ((⟨g,off + k * 18,none⟩ : Addr).add j) = some v:=fun j v hv => by
  have hj : j < 18:=by have:=(List.getElem?_eq_some_iff.1 hv).1;rw [jJ h16] at this;exact this
  rw [Addr.add_mid,h.cellAt hq hj,← QL h16 hj];exact hv
end
def Fact.rstep12 (K : Nat) (c : M.Cf) : Fact :=
  ⟨fun v W => ∃ q',v = rcA q' ∧ RMine W K q' ∧ q'.cf = c,fun _ _ _ hb ⟨q',h1,h2,h3⟩ => ⟨q',h1,h2.below hb (Nat.le_refl _),h3⟩⟩
theorem K.path_len {p : Pg} {most : Int} {s : K.Sk} (h : K.Inv p most s) : ∀ (n i : Nat) (e : K.En),i < n → s.all[i]? = some e → e.path.length ≤ i
  | 0,i,e,hi,_ => absurd hi (by omega)
  | n + 1,i,e,hi,he => by
    rcases h.src i e he with ⟨_,_,h3,_⟩ | ⟨_,h2,f,h3,_,_,h6⟩
    · rw [h3];simp
    · have:=K.path_len h n e.src f (by omega) h3
      rw [h6,List.length_append,List.length_singleton];omega
end Go.Proofs.Ytnaomfmmkhgbhaa
