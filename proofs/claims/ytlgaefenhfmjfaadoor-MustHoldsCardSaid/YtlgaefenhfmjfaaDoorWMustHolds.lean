/- MustHolds, walked. -/
import Derived.Test.YtlgaefenhfmjfaaDoorPk10
import Derived.Test.YtlgaefenhfmjfaaDoorPk11
import Derived.Test.YtlgaefenhfmjfaaDoorPk13
import Derived.Test.YtlgaefenhfmjfaaDoorPk18
import Derived.Test.YtlgaefenhfmjfaaDoorPk1
namespace Go.Proofs.YtlgaefenhfmjfaaDoor
open Go.RowKit
theorem vH {p : Pg} {ls : List Sc} (hf : Fine p) (hl : p.fns.length = p.len) (ht : Mu.Told p ls) (l : List (Int × Bool)) : ∀ i,Mu.AllOk p ls (runTo p l i)
  | 0 => Mu.all_start ht (by have:=hf.counts.f;omega)
  | i + 1 => by
    cases hx : l[i]? with
    | some x => rw [y8 p l i x hx];exact Mu.all_step hf hl ht (qW hf hl l i) (vH hf hl ht l i) _ _
    | none =>
      have h:=vH hf hl ht l i
      unfold runTo at h ⊢
      rw [List.take_add_one,hx,Option.toList,List.append_nil];exact h
theorem J7 : (Tryd.prog.info? 50).map (·.zero) = some (some (.agg ([.int .i64 0,.int .i64 0] : List Value).toArray)):=by kernel_rfl
theorem J8 : (Tryd.prog.info? 50).map (·.size) = some 2:=by kernel_rfl
theorem J9 (a b : Nat) : ∀ u ∈ ([.int .i64 (a : Int),.int .i64 (b : Int)] : List Value),u.oneCell' = true:=by
  intro u hu
  simp only [List.mem_cons,List.not_mem_nil,or_false] at hu
  rcases hu with h | h <;> subst h <;> rfl
set_option maxRecDepth 1000000 in
set_option maxHeartbeats 8000000 in
theorem walkMustHolds (pg0 : Pg) (a1 : Option Addr) (len1 cap1 : Nat) (z1 : List Sc) (a2 : Option Addr) (len2 cap2 : Nat) (z2 : List (Int × Bool)) (w : World) (w0 : pg0.Ok w w.heap.size) (w1 : Secs w w.heap.size a1 len1 z1) (c1 : len1 ≤ cap1 ∧ cap1 ≤ maxLen) (w2 : Picks w w.heap.size a2 len2 z2) (c2 : len2 ≤ cap2 ∧ cap2 ≤ maxLen) (hL : Tab w) :
    Calls Tryd.prog 4 #[pgA pg0,.slice a1 len1 cap1,.slice a2 len2 cap2] w fun e w' => e = .returned (.bool true) ∧ Below w.heap.size w w':=by
  have HPi:=kp w2
  have hc2':=c2.1;have hm2:=c2.2
  unfold maxLen at hm2
  clear w2 c2
  have HL1:=kp w1
  have hlc1:=c1.1;have HLm1:=kp c1.2;have hlm1:=c1.2
  unfold maxLen at hlm1
  obtain ⟨fw1,hfw1⟩ : ∃ q,few z1 = q:=⟨_,rfl⟩
  have HFw1:=kp hfw1
  clear w1 c1 hfw1
  have HP:=kp w0;have HTab:=kp hL
  have hw01:=hL.size
  clear w0 hL
  obtain ⟨r,hr⟩ : ∃ r,Q.small pg0 = r:=⟨_,rfl⟩
  have HR:=kp hr
  clear hr
  rw [jL]
  cases r
  · go_enter Tryd.func4,Tryd.ntmps4
    go_wp2_with (first
      | ((with_reducible refine j4 rfl 24 (.tmp 0) rfl (pgC pg0) rfl ?_);intro g1 u1 hg1 hk1 hu1;have HK1:=kp hk1;have HG1:=kp hg1;have HU1:=kp hu1;have hz1:=hu1.size;clear hg1 hk1 hu1))
    refine (jQ u1 (HTab.out.below HU1.out hw01)).mono ?_
    rintro e w1 ⟨rfl,hb1⟩
    have HW1 : Kept (Below w.heap.size w w1):=kp (HU1.out.trans (hb1.mono hz1))
    have hs1:=HW1.out.size
    have HP1:=kp (HP.out.below HW1.out)
    have HKa:=kp (HK1.out.below hb1 HK1.out.lt)
    obtain ⟨hc0,hc1,hc2,hc3⟩:=j8 HKa.out
    clear hb1
    go_wp2_with fail
    refine (lF _ pg0 w1 HP1.out hs1 _ HR.out).mono ?_
    rintro e w2 ⟨rfl,hb2⟩
    have HW2 : Kept (Below w.heap.size w w2):=kp (HW1.out.trans (hb2.mono hs1))
    have hs2:=HW2.out.size
    have HP2:=kp (HP.out.below HW2.out)
    have HKb:=kp (HKa.out.below hb2 HKa.out.lt)
    clear hb2 hc0 hc1 hc2 hc3
    obtain ⟨hc0,hc1,hc2,hc3⟩:=j8 HKb.out
    go_wp2_with fail
    refine (jQ w2 (HTab.out.below HW2.out hw01)).mono ?_
    rintro e w9 ⟨rfl,hb9⟩
    have HW9:=kp (HW2.out.trans (hb9.mono hs2))
    clear hb9
    go_wp2
    go_ret
    exact ⟨rfl,HW9.out⟩
  · cases fw1
    · go_enter Tryd.func4,Tryd.ntmps4
      go_wp2_with (first
        | ((with_reducible refine j4 rfl 24 (.tmp 0) rfl (pgC pg0) rfl ?_);intro g1 u1 hg1 hk1 hu1;have HK1:=kp hk1;have HG1:=kp hg1;have HU1:=kp hu1;have hz1:=hu1.size;clear hg1 hk1 hu1))
      refine (jQ u1 (HTab.out.below HU1.out hw01)).mono ?_
      rintro e w1 ⟨rfl,hb1⟩
      have HW1 : Kept (Below w.heap.size w w1):=kp (HU1.out.trans (hb1.mono hz1))
      have hs1:=HW1.out.size
      have HP1:=kp (HP.out.below HW1.out)
      have HKa:=kp (HK1.out.below hb1 HK1.out.lt)
      obtain ⟨hc0,hc1,hc2,hc3⟩:=j8 HKa.out
      clear hb1
      go_wp2_with fail
      refine (lF _ pg0 w1 HP1.out hs1 _ HR.out).mono ?_
      rintro e w2 ⟨rfl,hb2⟩
      have HW2 : Kept (Below w.heap.size w w2):=kp (HW1.out.trans (hb2.mono hs1))
      have hs2:=HW2.out.size
      have HP2:=kp (HP.out.below HW2.out)
      have HKb:=kp (HKa.out.below hb2 HKa.out.lt)
      clear hb2 hc0 hc1 hc2 hc3
      obtain ⟨hc0,hc1,hc2,hc3⟩:=j8 HKb.out
      go_wp2_with fail
      refine (yI w.heap.size w2 a1 len1 cap1 z1 (HL1.out.below HW2.out) hlc1 HLm1.out _ HFw1.out).mono ?_
      rintro e w9 ⟨rfl,rfl⟩
      go_wp2_with fail
      refine (jQ w2 (HTab.out.below HW2.out hw01)).mono ?_
      rintro e w9 ⟨rfl,hb9⟩
      have HW9:=kp (HW2.out.trans (hb9.mono hs2))
      clear hb9
      go_wp2
      go_ret
      exact ⟨rfl,HW9.out⟩
    · by_cases hbig : 300 < len2
      · have hbig2 : decide ((len2 : Int) > 300) = true:=by simp;omega
        go_enter Tryd.func4,Tryd.ntmps4
        go_wp2_with (first
          | ((with_reducible refine j4 rfl 24 (.tmp 0) rfl (pgC pg0) rfl ?_);intro g1 u1 hg1 hk1 hu1;have HK1:=kp hk1;have HG1:=kp hg1;have HU1:=kp hu1;have hz1:=hu1.size;clear hg1 hk1 hu1))
        refine (jQ u1 (HTab.out.below HU1.out hw01)).mono ?_
        rintro e w1 ⟨rfl,hb1⟩
        have HW1 : Kept (Below w.heap.size w w1):=kp (HU1.out.trans (hb1.mono hz1))
        have hs1:=HW1.out.size
        have HP1:=kp (HP.out.below HW1.out)
        have HKa:=kp (HK1.out.below hb1 HK1.out.lt)
        obtain ⟨hc0,hc1,hc2,hc3⟩:=j8 HKa.out
        clear hb1
        go_wp2_with fail
        refine (lF _ pg0 w1 HP1.out hs1 _ HR.out).mono ?_
        rintro e w2 ⟨rfl,hb2⟩
        have HW2 : Kept (Below w.heap.size w w2):=kp (HW1.out.trans (hb2.mono hs1))
        have hs2:=HW2.out.size
        have HP2:=kp (HP.out.below HW2.out)
        have HKb:=kp (HKa.out.below hb2 HKa.out.lt)
        clear hb2 hc0 hc1 hc2 hc3
        obtain ⟨hc0,hc1,hc2,hc3⟩:=j8 HKb.out
        go_wp2_with fail
        refine (yI w.heap.size w2 a1 len1 cap1 z1 (HL1.out.below HW2.out) hlc1 HLm1.out _ HFw1.out).mono ?_
        rintro e w9 ⟨rfl,rfl⟩
        go_wp2_with fail
        refine (jQ w2 (HTab.out.below HW2.out hw01)).mono ?_
        rintro e w9 ⟨rfl,hb9⟩
        have HW9:=kp (HW2.out.trans (hb9.mono hs2))
        clear hb9
        go_wp2
        go_ret
        exact ⟨rfl,HW9.out⟩
      · have hbig2 : decide ((len2 : Int) > 300) = false:=by simp;omega
        go_enter Tryd.func4,Tryd.ntmps4
        go_wp2_with (first
          | ((with_reducible refine j4 rfl 24 (.tmp 0) rfl (pgC pg0) rfl ?_);intro g1 u1 hg1 hk1 hu1;have HK1:=kp hk1;have HG1:=kp hg1;have HU1:=kp hu1;have hz1:=hu1.size;clear hg1 hk1 hu1))
        refine (jQ u1 (HTab.out.below HU1.out hw01)).mono ?_
        rintro e w1 ⟨rfl,hb1⟩
        have HW1 : Kept (Below w.heap.size w w1):=kp (HU1.out.trans (hb1.mono hz1))
        have hs1:=HW1.out.size
        have HP1:=kp (HP.out.below HW1.out)
        have HKa:=kp (HK1.out.below hb1 HK1.out.lt)
        obtain ⟨hc0,hc1,hc2,hc3⟩:=j8 HKa.out
        clear hb1
        go_wp2_with fail
        refine (lF _ pg0 w1 HP1.out hs1 _ HR.out).mono ?_
        rintro e w2 ⟨rfl,hb2⟩
        have HW2 : Kept (Below w.heap.size w w2):=kp (HW1.out.trans (hb2.mono hs1))
        have hs2:=HW2.out.size
        have HP2:=kp (HP.out.below HW2.out)
        have HKb:=kp (HKa.out.below hb2 HKa.out.lt)
        clear hb2 hc0 hc1 hc2 hc3
        obtain ⟨hc0,hc1,hc2,hc3⟩:=j8 HKb.out
        go_wp2_with fail
        refine (yI w.heap.size w2 a1 len1 cap1 z1 (HL1.out.below HW2.out) hlc1 HLm1.out _ HFw1.out).mono ?_
        rintro e w9 ⟨rfl,rfl⟩
        obtain ⟨⟨ca,cb,cc⟩,hcc⟩ : ∃ x,Q.check pg0 = x:=⟨_,rfl⟩
        have HC:=kp hcc
        clear hcc
        obtain ⟨us,hus⟩ : ∃ us,killA pg0 4 4 cc = us:=⟨_,rfl⟩
        have HUs:=kp hus
        clear hus
        obtain ⟨⟨ra,rb,rd⟩,hans⟩ : ∃ x,Mu.ans pg0 us z1 cc = x:=⟨_,rfl⟩
        have HAns:=kp hans
        clear hans
        go_wp2_with fail
        refine (x6 w.heap.size pg0 w2 (HP.out.below HW2.out) hs2 HR.out (HTab.out.below HW2.out hw01) ca cb cc HC.out us HUs.out (a1) len1 cap1 z1 (HL1.out.below HW2.out) hlc1 HLm1.out (ra,rb,rd) HAns.out).mono ?_
        rintro e w3 ⟨rfl,hb3⟩
        have HW3 : Kept (Below w.heap.size w w3):=kp (HW2.out.trans (hb3.mono hs2))
        have hs3:=HW3.out.size
        have HK3:=kp (HKb.out.below hb3 HKb.out.lt)
        clear hb3 hc0 hc1 hc2 hc3
        obtain ⟨hc0,hc1,hc2,hc3⟩:=j8 HK3.out
        go_wp2_with (first
          | ((with_reducible show Sl 7);go_must (refine j7 rfl 30 rfl (ftC 0 0 0) xW ?_);intro gF w4 hg4 hk4 hb4;have HgF:=kp hg4;have HFb4:=kp hk4;have HW4:=kp (HW3.out.trans (hb4.mono hs3));have hs4:=HW4.out.size;have HK4:=kp (HK3.out.below hb4 HK3.out.lt);clear hg4 hk4 hb4 hc0 hc1 hc2 hc3)
          | ((with_reducible show Sn);go_must (refine j5 rfl 30 (.tmp 7) (.tmp 37) rfl gF (ftC ra rb (rd : Int)) rfl rfl _ _ HFb4.out jM rfl (jZ _ _ _) ?_);intro w5 hk5 hg5 hz5;have HFgF5:=kp hk5;have HW5:=kp (HW4.out.grown hg5 hs4 (fun k e => by cases e;have:=HgF.out;omega));have hs5:=HW5.out.size;have HK5:=kp (HK4.out.grown hg5 (fun e => by cases e;have:=HgF.out;have:=HK3.out.lt;omega));obtain ⟨hc0,hc1,hc2,hc3⟩:=j8 HK5.out;clear hk5 hg5 hz5))
        have hlk5:=HK5.out.lt
        have hce : ((cc : Int) == (cc : Int)) = true:=by simp
        go_wp2_with (first
          | (go_at_call 15;fail))
        refine (LZ w.heap.size pg0 w5 (HP.out.below HW5.out) hs5 ca cb cc HC.out).mono ?_
        unfold StartPost2
        rintro e w6 ⟨q0,rfl,hmi,hcf,hl0,h16,hb6⟩
        have HMi6:=kp hmi;have HCf0:=kp hcf;have H170:=kp (lL h16)
        have HM6:=kp hb6;have hs56:=hb6.size
        have HF6:=kp (HFgF5.out.below hb6 HFgF5.out.lt)
        clear hmi hcf hl0 h16 hb6 hc0 hc1 hc2 hc3
        by_cases hz : cc = 0
        rotate_left
        · have hb0 : ((cc : Int) != 0) = true:=by simp;omega
          go_wp2_with (first
            | ((with_reducible show Sl 9);go_must (refine j7 rfl 42 rfl _ lC ?_);intro gC w7 hgC hk7 hu7;have HKc:=kp hk7;have HGC:=kp hgC;have HM7:=kp (HM6.out.trans (hu7.mono hs56));have HMi7:=kp (HMi6.out.below hu7 (Nat.le_refl _));have hs57:=HM7.out.size;have HF7:=kp (HF6.out.below hu7 HF6.out.lt);clear hk7 hu7 hgC)
            | ((with_reducible show Sn);(refine j5 rfl 42 (.tmp 9) (.tmp 42) rfl gC (pcC q0) rfl rfl _ _ HKc.out (by rw [H170.out];exact jF) (by rw [H170.out];rfl) (lG q0) ?_);intro w8 hk8 hg8 hs8';have HKC8:=kp hk8;have HM8:=kp (HM7.out.grown hg8 hs57 (fun k e => by cases e;have:=HGC.out;omega));have HMi8:=kp (HMi7.out.typed HKc.out hg8);have HF8:=kp (HF7.out.grown hg8 (fun e => by cases e;have:=HGC.out;have:=HF6.out.lt;omega));obtain ⟨hf0,hf1,hf2⟩:=qS HF8.out;clear hk8 hg8 hs8'))
          go_ret
          exact ⟨rfl,HW5.out.trans (HM8.out.mono hs5)⟩
        have hb0 : ((cc : Int) != 0) = false:=by rw [hz];rfl
        by_cases hrd : rd = 0
        rotate_left
        · have hb1 : ((rd : Int) != 0) = true:=by simp;omega
          go_wp2_with (first
            | ((with_reducible show Sl 9);go_must (refine j7 rfl 42 rfl _ lC ?_);intro gC w7 hgC hk7 hu7;have HKc:=kp hk7;have HGC:=kp hgC;have HM7:=kp (HM6.out.trans (hu7.mono hs56));have HMi7:=kp (HMi6.out.below hu7 (Nat.le_refl _));have hs57:=HM7.out.size;have HF7:=kp (HF6.out.below hu7 HF6.out.lt);clear hk7 hu7 hgC)
            | ((with_reducible show Sn);(refine j5 rfl 42 (.tmp 9) (.tmp 42) rfl gC (pcC q0) rfl rfl _ _ HKc.out (by rw [H170.out];exact jF) (by rw [H170.out];rfl) (lG q0) ?_);intro w8 hk8 hg8 hs8';have HKC8:=kp hk8;have HM8:=kp (HM7.out.grown hg8 hs57 (fun k e => by cases e;have:=HGC.out;omega));have HMi8:=kp (HMi7.out.typed HKc.out hg8);have HF8:=kp (HF7.out.grown hg8 (fun e => by cases e;have:=HGC.out;have:=HF6.out.lt;omega));obtain ⟨hf0,hf1,hf2⟩:=qS HF8.out;clear hk8 hg8 hs8'))
          go_ret
          exact ⟨rfl,HW5.out.trans (HM8.out.mono hs5)⟩
        have hb1 : ((rd : Int) != 0) = false:=by rw [hrd];rfl
        have HF:=kp (yN (p:=pg0) (a:=ca) (b:=cb) (by rw [HC.out,hz]))
        have HLen:=kp HP.out.row.len
        have HCz:=kp hz
        have HChk : Kept ((Mu.check pg0 (killL pg0 4 4) z1).2.2 = 0):=kp (by
          have h1:=HAns.out
          unfold Mu.ans at h1
          rw [if_pos hz,← HUs.out,hz,xL] at h1
          rw [h1];exact hrd)
        have HSh:=kp (Mu.check_fine HChk.out).1
        have HAk : Kept (∀ i,Mu.AllOk pg0 z1 (runTo pg0 z2 i)):=kp (vH HF.out HP.out.row.len (Mu.told_of HChk.out) z2)
        have HGd : Kept (∀ i,M.Good pg0 (runTo pg0 z2 i)):=kp (qW HF.out HP.out.row.len z2)
        have hpl1 : len1 = pg0.len:=by rw [← HL1.out.len_];exact (Mu.shaped_iff.1 HSh.out).1
        subst hpl1
        have hl0 : 0 < pg0.len:=by have h1:=HF.out.counts.f;have h2:=HLen.out;omega
        obtain ⟨adL,_,eL,hbL,hj1,hj2,hj3,hj4,hj5,hj6⟩:=HL1.out.get hl0
        subst eL
        clear hj1 hj2 hj3 hj4 hj5 hj6 hz hrd
        go_wp2_with (first
          | ((with_reducible show Sl 9);go_must (refine j7 rfl 42 rfl _ lC ?_);intro gC w7 hgC hk7 hu7;have HKc:=kp hk7;have HGC:=kp hgC;have HM7:=kp (HM6.out.trans (hu7.mono hs56));have HMi7:=kp (HMi6.out.below hu7 (Nat.le_refl _));have hs57:=HM7.out.size;have HF7:=kp (HF6.out.below hu7 HF6.out.lt);clear hk7 hu7 hgC)
          | ((with_reducible show Sn);(refine j5 rfl 42 (.tmp 9) (.tmp 42) rfl gC (pcC q0) rfl rfl _ _ HKc.out (by rw [H170.out];exact jF) (by rw [H170.out];rfl) (lG q0) ?_);intro w8 hk8 hg8 hs8';have HKC8:=kp hk8;have HM8:=kp (HM7.out.grown hg8 hs57 (fun k e => by cases e;have:=HGC.out;omega));have HMi8:=kp (HMi7.out.typed HKc.out hg8);have HF8:=kp (HF7.out.grown hg8 (fun e => by cases e;have:=HGC.out;have:=HF6.out.lt;omega));obtain ⟨hf0,hf1,hf2⟩:=qS HF8.out;clear hk8 hg8 hs8'))
        have HGe : Kept (w5.heap.size ≤ gC):=kp (by have:=HGC.out;omega)
        clear hf0 hf1 hf2
        go_loopw [11] (fun v wr => ∃ (i : Nat) (q : Pc),i ≤ len2 + 1 ∧ v = .int .i64 i ∧ Mine wr w5.heap.size q ∧ q.cf = runTo pg0 z2 (min i len2) ∧ Blk wr gC 42 (pcC q) ∧ Below w5.heap.size w5 wr) (fun v _ => len2 + 1 - (intOf v).toNat)
        case atStart => exact ⟨0,q0,by omega,rfl,HMi8.out,by rw [Nat.zero_min,Q5];exact HCf0.out HCz.out,HKC8.out,HM8.out⟩
        case round =>
          clear HM6 HM7 HM8 HMi6 HMi7 HMi8 HKC8 HF6 HF7 HF8
          obtain ⟨i,q,hi,rfl,hmq,hcf,hkc,hbl⟩:=hrel
          have HMq:=kp hmq;have HCf0':=kp hcf;have HKC:=kp hkc;have HBq:=kp hbl
          clear hmq hcf hkc hbl
          by_cases hle : i ≤ len2
          rotate_left
          · have hleb : decide ((i : Int) ≤ (len2 : Int)) = false:=by simp;omega
            have HBe:=kp (HW5.out.trans (HBq.out.mono hs5))
            go_wp2
            go_ret
            exact ⟨rfl,HBe.out⟩
          have hleb : decide ((i : Int) ≤ (len2 : Int)) = true:=by simp;omega
          have HCf : Kept (q.cf = runTo pg0 z2 i):=kp (by rw [HCf0'.out,Nat.min_eq_left hle])
          have HGq:=kp (show M.Good pg0 q.cf by rw [HCf.out];exact HGd.out i)
          have HAq:=kp (show Mu.AllOk pg0 z1 q.cf by rw [HCf.out];exact HAk.out i)
          have H17:=kp (X0 (p:=pg0) (q:=q) HGq.out)
          clear HCf0'
          go_wp2
          go_loopw [12] (fun v12 wr => ∃ t : Nat,t ≤ q.len ∧ v12 = .int .i64 t ∧ Mine wr w5.heap.size q ∧ Blk wr gC 42 (pcC q) ∧ Below w5.heap.size w5 wr) (fun v12 _ => q.len - (intOf v12).toNat)
          case atStart => exact ⟨0,by omega,rfl,HMq.out,HKC.out,HBq.out⟩
          case round =>
            clear HMq HKC HBq
            obtain ⟨t,ht,rfl,hmq,hkc,hbl⟩:=hrel
            have HMq:=kp hmq;have HOq:=kp hmq.ok;have HKC:=kp hkc;have HBq:=kp hbl
            have hcC:=uU hkc
            have hq8:=most_8 HGq.out HOq.out
            have hql:=HOq.out.lc;have hqm:=HOq.out.cm
            unfold maxLen at hqm
            clear hmq hkc hbl
            by_cases htl : t < q.len
            · obtain ⟨ad1,th,hA1,had1,hth,hsok,hthc,hsl,hct,hj0⟩:=HOq.out.thread htl
              clear hj0
              rw [hA1] at hcC
              have hsc:=hsok.lc;have hsm:=hsok.cm
              unfold maxLen at hsm
              have hh16 : th.sv.len ≤ 16:=by
                have h1:=M.high HF.out HLen.out HGq.out (x:=tvT th) (List.mem_map_of_mem (List.mem_of_getElem? hth))
                have h2:=HF.out.counts.f
                have h3 : (tvT th).stack.length = th.sv.len:=hsl
                omega
              by_cases hs0 : th.sv.len = 0
              · have hsb : ((th.sv.len : Int) == 0) = true:=by simp;omega
                clear hs0 hth hsok hthc hsl
                go_wp2
                go_roundw
                case rel => exact ⟨t + 1,by omega,by go_num,HMq.out,HKC.out,HBq.out⟩
                case measure => simp [intOf];omega
              · obtain ⟨m,hm⟩ : ∃ m,th.sv.len = m + 1:=⟨th.sv.len - 1,by omega⟩
                obtain ⟨adS,hAS,hadS,hl0c,hl1c⟩:=hsok.last (by omega)
                rw [hm] at hl0c hl1c hct hsc hh16
                rw [Nat.add_sub_cancel] at hl0c hl1c
                rw [hAS] at hct
                obtain ⟨F,hFe⟩ : ∃ F,(M.top th.sv.stack).1 = F:=⟨_,rfl⟩
                obtain ⟨N,hNe⟩ : ∃ N,(M.top th.sv.stack).2 = N:=⟨_,rfl⟩
                have HTop : Kept (M.top th.sv.stack = (F,N)):=kp (by rw [← hFe,← hNe])
                rw [hFe] at hl0c
                rw [hNe] at hl1c
                have hsx : (q.cf.ths)[t]? = some (tvT th):=by
                  show (q.tvs.map tvT)[t]? = _
                  rw [List.getElem?_map,hth];rfl
                have hst0 : 0 < (tvT th).stack.length:=by show 0 < th.sv.stack.length;omega
                obtain ⟨fx,hfx,hNl⟩:=HGq.out.spot (tvT th) (List.mem_of_getElem? hsx) (M.top th.sv.stack) (M.top_mem hst0)
                rw [HTop.out] at hfx hNl
                have hFl : F < pg0.len:=by rw [← HLen.out];exact (List.getElem?_eq_some_iff.1 hfx).1
                obtain ⟨adL',xs,eL',_,hxs,hxok,hj1,hj2,hx2,hj5⟩:=HL1.out.get hFl
                obtain rfl : adL = adL':=Option.some.inj eL'
                have hsa : xs.held.len = fx.len:=by
                  have h1:=(Mu.shaped_iff.1 HSh.out).2 F hFl
                  rw [qM hxs hfx,Bool.and_eq_true,decide_eq_true_eq] at h1
                  exact h1.1
                have hfxl : fx.nodes.length = fx.len:=(HP.out.fns fx (List.mem_of_getElem? hfx)).nodes.1.len
                have hNl2 : N < xs.held.len:=by rw [hsa,← hfxl];exact hNl
                obtain ⟨adH,eH,hbH,hj6,hhv,hcv⟩:=hxok.held.get hNl2
                rw [eH] at hx2
                obtain ⟨hv,hve⟩ : ∃ hv,xs.held.z.getD N 0 = hv:=⟨_,rfl⟩
                rw [hve] at hhv hcv
                have HX2:=kp hx2;have HHv:=kp hcv
                have hhc:=hxok.held.lc;have hhm:=hxok.held.cm
                unfold maxLen at hhm
                have hhd : Mu.hd z1 (M.top (tvT th).stack) = hv:=by
                  show Mu.hd z1 (M.top th.sv.stack) = hv
                  rw [HTop.out]
                  unfold Mu.hd
                  rw [uX hxs]
                  exact hve
                obtain ⟨n0,hn0⟩ : ∃ n0,M.heldTo q.ow t 16 = n0:=⟨_,rfl⟩
                have hn0lt : n0 < 65536:=by rw [← hn0];exact M.held_lt q.ow t 16
                have HH0 : Kept (M.held q.cf (t : Int) = n0):=kp (by rw [held_in HOq.out htl];exact hn0)
                have HAnd : Kept (bits .andNot .u32 (hv : Int) (n0 : Int) = 0):=kp (by
                  have h3:=Mu.all_asks HAq.out hsx hst0 (by rw [hhd];exact hhv)
                  have h4 : q.cf.owners = q.ow:=rfl
                  rw [hhd,h4,hn0] at h3
                  rw [u32_andNot_nat hv n0 hhv (by omega),h3];rfl)
                have HIt : Kept (I64 (t : Int)):=kp (by unfold I64;omega)
                have hsb : (((m + 1 : Nat) : Int) == 0) = false:=by simp;omega
                have hsb2 : (((m : Int) + 1) == 0) = false:=by simp;omega
                have hFi : (F : Int) < (pg0.len : Int):=by omega
                have hNi : (N : Int) < (xs.held.len : Int):=by omega
                have hti : (t : Int) < (q.len : Int):=by omega
                clear hs0 hth hsok hthc hsl hxs hxok hj1 hj2 hj5 hj6 hx2 eH hve hcv hhd hn0 hsx hst0 hfx hNl hsa hfxl hFe hNe hm hAS eL'
                go_wp2_with (first
                  | ((with_reducible show Sl 14);go_must (refine j7 rfl 50 rfl [.int .i64 0,.int .i64 0] J7 ?_);intro gX wx hgX hkx hbx;have HGX:=kp hgX;have HFr0:=kp hkx;have HBn0:=kp hbx;clear hgX hkx hbx)
                  | ((with_reducible show Sn);(refine j5 rfl 50 (.tmp 14) (.tmp 85) rfl gX [.int .i64 (F : Int),.int .i64 (N : Int)] rfl rfl _ _ HFr0.out J8 rfl (J9 F N) ?_);intro wy hky hgy hzy;have HFr:=kp hky;have HBn:=kp (HBn0.out.grown hgy HBn0.out.size (fun k e => by cases e;exact HGX.out));have HBx:=kp (HBq.out.trans (HBn.out.mono HBq.out.size));have HMx:=kp (HMq.out.below HBn.out (Nat.le_refl _));have HKCx:=kp (HKC.out.below HBn.out HKC.out.lt);have HV:=kp (HW5.out.trans (HBx.out.mono hs5));clear hky hgy hzy hcC hct hl0c hl1c))
                simp only [vO,jK,List.set]
                have HOq:=kp HMx.out.ok
                clear hsb hsb2
                apply jU (.is _ :: .is _ :: .is (.int .i64 (F : Int)) :: .is _ :: .is _ :: .is (.slice (some adH) xs.held.len xs.held.cap) :: .is _ :: .is (.int .i64 (N : Int)) :: .is _ :: .is (.int .u32 (hv : Int)) :: .is (pcA q) :: .is _ :: .is (.int .u32 (n0 : Int)) :: .is (.int .u32 0) :: .is (.bool false) :: [])
                  [[],[],[(1,87)],[(0,86),(2,88)],[(3,89)],[(4,90)],[],[(6,92)],[(5,91),(7,93)],[(8,94)],[],[],[(10,96),(11,97)],[(9,95),(12,98)],[(13,99)]]
                  [(0,86),(1,87),(2,88),(3,89),(4,90),(5,91),(6,92),(7,93),(8,94),(9,95),(10,96),(11,97),(12,98),(13,99),(14,100)] (by kernel_rfl) (by kernel_rfl)
                case hob =>
                  refine ⟨?o0,?o1,?o2,?o3,?o4,?o5,?o6,?o7,?o8,?o9,?o10,?o11,?o12,?o13,?o14,trivial⟩
                  case o0 => intro W hW;change wpList _ _ _ _ _ _;go_wp2;exact j3 rfl rfl rfl
                  case o1 => intro W hW;change wpList _ _ _ _ _ _;go_wp2;exact j3 rfl rfl rfl
                  case o2 =>
                    intro W hW;rintro _ rfl;change wpList _ _ _ _ _ _
                    have hq:=(HFr.out.below hW HFr.out.lt).cell 0
                    simp only [List.getElem?_cons_zero] at hq
                    go_wp2;exact j3 rfl rfl rfl
                  case o3 => intro W hW;rintro _ rfl;rintro _ rfl;change wpList _ _ _ _ _ _;go_wp2;exact j3 rfl rfl rfl
                  case o4 => intro W hW;rintro _ rfl;change wpList _ _ _ _ _ _;go_wp2;exact j3 rfl rfl rfl
                  case o5 =>
                    intro W hW;rintro _ rfl;change wpList _ _ _ _ _ _
                    have hWw : Below w.heap.size w W:=HV.out.trans (hW.mono HV.out.size)
                    have hq:=(hWw.cell (p:=⟨(adL.add (F * 6)).block,(adL.add (F * 6)).off + 2,none⟩) (by show (adL.add (F * 6)).block < _;rw [add_block];omega)).trans HX2.out
                    go_wp2;exact j3 rfl rfl rfl
                  case o6 => intro W hW;change wpList _ _ _ _ _ _;go_wp2;exact j3 rfl rfl rfl
                  case o7 =>
                    intro W hW;rintro _ rfl;change wpList _ _ _ _ _ _
                    have hq:=(HFr.out.below hW HFr.out.lt).cell 1
                    simp only [List.getElem?_cons_zero,List.getElem?_cons_succ] at hq
                    go_wp2;exact j3 rfl rfl rfl
                  case o8 => intro W hW;rintro _ rfl;rintro _ rfl;change wpList _ _ _ _ _ _;go_wp2;exact j3 rfl rfl rfl
                  case o9 =>
                    intro W hW;rintro _ rfl;change wpList _ _ _ _ _ _
                    have hWw : Below w.heap.size w W:=HV.out.trans (hW.mono HV.out.size)
                    have hq:=(hWw.cell (p:=adH.add N) (by rw [add_block];omega)).trans HHv.out
                    go_wp2;exact j3 rfl rfl rfl
                  case o10 =>
                    intro W hW;change wpList _ _ _ _ _ _
                    go_must (refine j6 rfl 42 (.tmp 9) rfl gC rfl _ (pcC q) _ (HKCx.out.below hW HKCx.out.lt) Tryd.underlying42 rfl (by rw [H17.out];exact jF) ?_)
                    go_wp2;exact j3 rfl rfl rfl
                  case o11 => intro W hW;change wpList _ _ _ _ _ _;go_wp2;exact j3 rfl rfl rfl
                  case o12 =>
                    intro W hW;rintro _ rfl;rintro _ rfl;change wpList _ _ _ _ _ _
                    go_wp2_with fail
                    refine (sem_held q W HOq.out.row.len (most_8 HGq.out HOq.out) HGq.out.owns (own_8 HGq.out) (t : Int) HIt.out n0 HH0.out).mono ?_
                    rintro e w2 ⟨rfl,hb2⟩
                    have HBq:=kp hb2;clear hb2
                    go_wp2
                    exact jE rfl rfl rfl HBq.out rfl
                  case o13 =>
                    intro W hW;rintro _ rfl;rintro _ rfl;change wpList _ _ _ _ _ _
                    have hand:=HAnd.out
                    go_wp2;exact j3 rfl rfl rfl
                  case o14 => intro W hW;rintro _ rfl;change wpList _ _ _ _ _ _;go_wp2;exact j3 rfl rfl rfl
                case hend =>
                  intro W hW;rintro _ rfl;rintro _ rfl;rintro _ rfl;rintro _ rfl;rintro _ rfl;rintro _ rfl;rintro _ rfl;rintro _ rfl;rintro _ rfl;rintro _ rfl;rintro _ rfl;rintro _ rfl;rintro _ rfl;rintro _ rfl;rintro _ rfl
                  simp only [given,jK,List.set]
                  have HBz:=kp (HBx.out.trans (hW.mono HBx.out.size))
                  have HMz:=kp (HMx.out.below hW (Nat.le_refl _))
                  have HKz:=kp (HKCx.out.below hW HKCx.out.lt)
                  clear hW
                  go_wp2
                  go_roundw
                  case rel => exact ⟨t + 1,by omega,by go_num,HMz.out,HKz.out,HBz.out⟩
                  case measure => simp [intOf];omega
            · have HB:=kp (HW5.out.trans (HBq.out.mono hs5));have hBs:=HB.out.size
              have HPr:=kp (HP.out.below HB.out)
              have HKP:=kp (HK5.out.below HBq.out hlk5);have hlP:=HKP.out.lt;have hlC:=HKC.out.lt
              have hge : q.len ≤ t:=by omega
              clear htl
              by_cases hlt : i < len2
              · skip
                obtain ⟨ad,x,hA,hadB,hx,hx1,hcx0,hcx1⟩:=HPi.out.pick hlt
                have hadw : ad.block < wr.heap.size:=by omega
                have HX:=kp hx;have HX1:=kp hx1
                have HCx : Kept (wr.cell? (ad.add (i * 2)) = some (.int .i64 x.1) ∧ wr.cell? ⟨(ad.add (i * 2)).block,(ad.add (i * 2)).off + 1,none⟩ = some (.bool x.2)):=kp ⟨(HB.out.cell (by rw [add_block];exact hadB)).trans hcx0,(HB.out.cell (by rw [add_block];exact hadB)).trans hcx1⟩
                subst hA
                clear hx hx1 hcx0 hcx1
                clear hcC
                have hcC:=uU HKC.out
                go_wp2
                clear hcC
                apply jJ 7 (.is (pcA q) :: .is (pgA pg0) :: .is _ :: .is _ :: .is (.pointer (some (ad.add (i * 2)))) :: .is (.agg #[.int .i64 x.1,.bool x.2]) :: (.stepped wr.heap.size (M.step pg0 q.cf x.1 x.2)) :: [])
                  [[],[],[],[],[(2,107),(3,108)],[(4,109)],[(0,105),(1,106),(5,110)],[(6,111)]]
                  [(0,105),(1,106),(2,107),(3,108),(4,109),(5,110),(6,111)] (by kernel_rfl) (by kernel_rfl) (by kernel_rfl) (by kernel_rfl) (by kernel_rfl)
                case hob =>
                  refine ⟨?o0,?o1,?o2,?o3,?o4,?o5,?o6,trivial⟩
                  case o0 =>
                    intro W hW;change wpList _ _ _ _ _ _
                    go_must (refine j6 rfl 42 (.tmp 9) rfl gC rfl _ (pcC q) _ (HKC.out.below hW hlC) Tryd.underlying42 rfl (by rw [H17.out];exact jF) ?_)
                    go_wp2;exact j3 rfl rfl rfl
                  case o1 =>
                    intro W hW;change wpList _ _ _ _ _ _
                    go_must (refine j6 rfl 24 (.tmp 3) rfl g1 rfl _ (pgC pg0) _ (HKP.out.below hW hlP) Tryd.underlying24 rfl jH ?_)
                    go_wp2;exact j3 rfl rfl rfl
                  case o2 => intro W hW;change wpList _ _ _ _ _ _;go_wp2;exact j3 rfl rfl rfl
                  case o3 => intro W hW;change wpList _ _ _ _ _ _;go_wp2;exact j3 rfl rfl rfl
                  case o4 => intro W hW;rintro _ rfl;rintro _ rfl;change wpList _ _ _ _ _ _;go_wp2;exact j3 rfl rfl rfl
                  case o5 =>
                    intro W hW;rintro _ rfl;change wpList _ _ _ _ _ _
                    have hd0:=(hW.cell (p:=ad.add (i * 2)) (by rw [add_block];exact hadw)).trans HCx.out.1
                    have hd1:=(hW.cell (p:=⟨(ad.add (i * 2)).block,(ad.add (i * 2)).off + 1,none⟩) (by rw [add_block];exact hadw)).trans HCx.out.2
                    go_wp2;exact j3 rfl rfl rfl
                  case o6 =>
                    intro W hW;rintro _ rfl;rintro _ rfl;rintro _ rfl;change wpList _ _ _ _ _ _
                    go_wp2_with fail
                    refine (sem_step W.heap.size pg0 HF.out q W (pg_more9 (HPr.out.below (hW.mono hBs)) (show w.heap.size ≤ W.heap.size by have:=hW.size;omega)) ((HOq.out.below hW).more hW.size) (by rw [HCf.out];exact HGd.out i) (Nat.le_refl _) x.1 HX1.out x.2).mono ?_
                    rintro e w2 ⟨q',rfl,hm2,hcf2,hb2⟩
                    have HB2:=kp hb2;have HM2:=kp hm2;have HC2:=kp hcf2;have hsW:=hW.size;clear hb2 hm2 hcf2
                    go_wp2
                    exact jE rfl rfl rfl HB2.out ⟨q',rfl,HM2.out.less hsW,HC2.out⟩
                case hend =>
                  intro W hW;rintro _ rfl;rintro _ rfl;rintro _ rfl;rintro _ rfl;rintro _ rfl;rintro _ rfl;rintro _ ⟨q1,rfl,hmi,hcf1⟩
                  simp only [given,jK,List.set,List.drop]
                  have HW:=kp hW;have HMi:=kp hmi;have HCf1 : Kept (q1.cf = runTo pg0 z2 (i + 1)):=kp (by rw [hcf1,HCf.out,y8 pg0 z2 i x HX.out])
                  have H171:=kp (X0 (p:=pg0) (q:=q1) (by rw [HCf1.out];exact HGd.out (i + 1)))
                  have HKC2:=kp (HKC.out.below hW hlC)
                  have hsW:=hW.size
                  have HsW : Kept (w5.heap.size ≤ W.heap.size):=kp (by have:=HBq.out.size;omega)
                  have HLw : Kept (w5.heap.size ≤ wr.heap.size):=kp HBq.out.size
                  clear hW hmi hcf1
                  refine j5 rfl 42 (.tmp 9) (.tmp 111) rfl gC (pcC q1) rfl rfl _ _ HKC2.out (by rw [H171.out];exact jF) (by rw [H171.out,H17.out]) (lG q1) ?_
                  intro u7 hk7 hg7 hs7
                  have HK27:=kp hk7;have HMq1:=kp (HMi.out.typed HKC2.out hg7);have HB7:=kp ((HBq.out.trans (HW.out.mono HLw.out)).grown hg7 HsW.out (fun k e => by cases e;exact HGe.out))
                  clear hk7 hg7 hs7
                  go_wp2
                  go_roundw
                  case rel => exact ⟨i + 1,q1,by omega,by go_num,HMq1.out.less HLw.out,by rw [Nat.min_eq_left (by omega)];exact HCf1.out,HK27.out,HB7.out⟩
                  case measure => simp [intOf];omega
              · have hge2 : len2 ≤ i:=by omega
                have HMn : Kept (min (i + 1) len2 = i):=kp (by omega)
                clear hlt
                go_wp2
                go_roundw
                case rel => exact ⟨i + 1,q,by omega,by go_num,HMq.out,by rw [HMn.out];exact HCf.out,HKC.out,HBq.out⟩
                case measure => simp [intOf];omega
end Go.Proofs.YtlgaefenhfmjfaaDoor
