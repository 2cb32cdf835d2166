/- MayLives, walked. -/
import Derived.Test.YtoekiejipdabmaaDoorPk2
import Derived.Test.YtoekiejipdabmaaDoorPk7
import Derived.Test.YtoekiejipdabmaaDoorMayP5
import Derived.Test.YtoekiejipdabmaaDoorPk10
import Derived.Test.YtoekiejipdabmaaDoorPk11
import Derived.Test.YtoekiejipdabmaaDoorPk16
import Derived.Test.YtoekiejipdabmaaDoorPk1
namespace Go.Proofs.YtoekiejipdabmaaDoor
open Go.RowKit
theorem uA {p : Pg} {bg L : Nat} {ls : List Sc} (hf : Fine p) (hl : p.fns.length = p.len) (hL : p.s = (L : Int)) (hbg : BitsAre bg (fun f => f < p.len ∧ ∃ id,id < 32 ∧ MayDo p 5 5 f id)) (ht : Ma.Told p bg ls) (l : List (Int × Bool)) : ∀ i,Ma.Inv p ls L (runTo p l i)
  | 0 => Ma.inv_start p ls L
  | i + 1 => by
    cases hx : l[i]? with
    | some x => rw [yU p l i x hx];exact Ma.inv_step hf hl hL hbg ht (xK hf hl l i) (uA hf hl hL hbg ht l i) _ _
    | none =>
      have h:=uA hf hl hL hbg ht l i
      unfold runTo at h ⊢
      rw [List.take_add_one,hx,Option.toList,List.append_nil];exact h
theorem J2 {p : Pg} {c : M.Cf} (hg : M.Good p c) {t : Nat} {x : M.Th} (hx : c.ths[t]? = some x) {k o : Nat} (hk : k < 8) (ho : x.slots.getD k 0 = o) : Kept (x.slots[k]? = some o) ∧ o ≤ 8:=by
  have h1:=hg.slot x (List.mem_of_getElem? hx)
  have h2:=hg.eight x (List.mem_of_getElem? hx)
  have h3 : x.slots[k]? = some o:=by
    rw [List.getElem?_eq_getElem (by omega)]
    rw [List.getD_eq_getElem?_getD,List.getElem?_eq_getElem (by omega)] at ho
    rw [← ho];rfl
  exact ⟨kp h3,h1 o (List.mem_of_getElem? h3)⟩
theorem JJ : (Tryd.prog.info? 52).map (·.zero) = some (some (.agg ([.int .i64 0,.int .i64 0] : List Value).toArray)):=by kernel_rfl
theorem JK : (Tryd.prog.info? 52).map (·.size) = some 2:=by kernel_rfl
theorem JL (a b : Nat) : ∀ u ∈ ([.int .i64 (a : Int),.int .i64 (b : Int)] : List Value),u.oneCell' = true:=by
  intro u hu
  simp only [List.mem_cons,List.not_mem_nil,or_false] at hu
  rcases hu with h | h <;> subst h <;> rfl
set_option maxRecDepth 1000000 in
set_option maxHeartbeats 8000000 in
theorem walkMayLives (pg0 : Pg) (a1 : Option Addr) (len1 cap1 : Nat) (z1 : List Sc) (a2 : Option Addr) (len2 cap2 : Nat) (z2 : List (Int × Bool)) (w : World) (w0 : pg0.Ok w w.heap.size) (w1 : Secs w w.heap.size a1 len1 z1) (c1 : len1 ≤ cap1 ∧ cap1 ≤ maxLen) (w2 : Picks w w.heap.size a2 len2 z2) (c2 : len2 ≤ cap2 ∧ cap2 ≤ maxLen) (hL : Tab w) :
    Calls Tryd.prog 4 #[pgA pg0,.slice a1 len1 cap1,.slice a2 len2 cap2] w fun e w' => e = .returned (.bool true) ∧ Below w.heap.size w w':=by
  have HPi:=kp w2
  have hc2':=c2.1;have hm2:=c2.2
  unfold maxLen at hm2
  clear w2 c2
  have HL1:=kp w1
  have hlc1:=c1.1;have HLm1:=kp c1.2;have hlm1:=c1.2
  unfold maxLen at hlm1
  obtain ⟨fw1,hfw1⟩ : ∃ q,few z1 = q:=⟨_,rfl⟩
  have HFw1:=kp hfw1
  clear w1 c1 hfw1
  have HP:=kp w0;have HTab:=kp hL
  have hw01:=hL.size
  clear w0 hL
  obtain ⟨r,hr⟩ : ∃ r,Q.small pg0 = r:=⟨_,rfl⟩
  have HR:=kp hr
  clear hr
  rw [jM]
  cases r
  · go_enter Tryd.func4,Tryd.ntmps4
    go_wp2_with (first
      | ((with_reducible refine j4 rfl 24 (.tmp 0) rfl (pgC pg0) rfl ?_);intro g1 u1 hg1 hk1 hu1;have HK1:=kp hk1;have HG1:=kp hg1;have HU1:=kp hu1;have hz1:=hu1.size;clear hg1 hk1 hu1))
    refine (jP u1).mono ?_
    rintro e w1 ⟨rfl,hb1⟩
    have HW1 : Kept (Below w.heap.size w w1):=kp (HU1.out.trans (hb1.mono hz1))
    have hs1:=HW1.out.size
    have HP1:=kp (HP.out.below HW1.out)
    have HKa:=kp (HK1.out.below hb1 HK1.out.lt)
    obtain ⟨hc0,hc1,hc2,hc3⟩:=j8 HKa.out
    clear hb1
    go_wp2_with fail
    refine (l0 _ pg0 w1 HP1.out hs1 _ HR.out).mono ?_
    rintro e w2 ⟨rfl,hb2⟩
    have HW2 : Kept (Below w.heap.size w w2):=kp (HW1.out.trans (hb2.mono hs1))
    have hs2:=HW2.out.size
    have HP2:=kp (HP.out.below HW2.out)
    have HKb:=kp (HKa.out.below hb2 HKa.out.lt)
    clear hb2 hc0 hc1 hc2 hc3
    obtain ⟨hc0,hc1,hc2,hc3⟩:=j8 HKb.out
    go_wp2_with fail
    refine (jP w2).mono ?_
    rintro e w9 ⟨rfl,hb9⟩
    have HW9:=kp (HW2.out.trans (hb9.mono hs2))
    clear hb9
    go_wp2
    go_ret
    exact ⟨rfl,HW9.out⟩
  · cases fw1
    · go_enter Tryd.func4,Tryd.ntmps4
      go_wp2_with (first
        | ((with_reducible refine j4 rfl 24 (.tmp 0) rfl (pgC pg0) rfl ?_);intro g1 u1 hg1 hk1 hu1;have HK1:=kp hk1;have HG1:=kp hg1;have HU1:=kp hu1;have hz1:=hu1.size;clear hg1 hk1 hu1))
      refine (jP u1).mono ?_
      rintro e w1 ⟨rfl,hb1⟩
      have HW1 : Kept (Below w.heap.size w w1):=kp (HU1.out.trans (hb1.mono hz1))
      have hs1:=HW1.out.size
      have HP1:=kp (HP.out.below HW1.out)
      have HKa:=kp (HK1.out.below hb1 HK1.out.lt)
      obtain ⟨hc0,hc1,hc2,hc3⟩:=j8 HKa.out
      clear hb1
      go_wp2_with fail
      refine (l0 _ pg0 w1 HP1.out hs1 _ HR.out).mono ?_
      rintro e w2 ⟨rfl,hb2⟩
      have HW2 : Kept (Below w.heap.size w w2):=kp (HW1.out.trans (hb2.mono hs1))
      have hs2:=HW2.out.size
      have HP2:=kp (HP.out.below HW2.out)
      have HKb:=kp (HKa.out.below hb2 HKa.out.lt)
      clear hb2 hc0 hc1 hc2 hc3
      obtain ⟨hc0,hc1,hc2,hc3⟩:=j8 HKb.out
      go_wp2_with fail
      refine (qE w.heap.size w2 a1 len1 cap1 z1 (HL1.out.below HW2.out) hlc1 HLm1.out _ HFw1.out).mono ?_
      rintro e w9 ⟨rfl,rfl⟩
      go_wp2_with fail
      refine (jP w2).mono ?_
      rintro e w9 ⟨rfl,hb9⟩
      have HW9:=kp (HW2.out.trans (hb9.mono hs2))
      clear hb9
      go_wp2
      go_ret
      exact ⟨rfl,HW9.out⟩
    · by_cases hbig : 300 < len2
      · have hbig2 : decide ((len2 : Int) > 300) = true:=by simp;omega
        go_enter Tryd.func4,Tryd.ntmps4
        go_wp2_with (first
          | ((with_reducible refine j4 rfl 24 (.tmp 0) rfl (pgC pg0) rfl ?_);intro g1 u1 hg1 hk1 hu1;have HK1:=kp hk1;have HG1:=kp hg1;have HU1:=kp hu1;have hz1:=hu1.size;clear hg1 hk1 hu1))
        refine (jP u1).mono ?_
        rintro e w1 ⟨rfl,hb1⟩
        have HW1 : Kept (Below w.heap.size w w1):=kp (HU1.out.trans (hb1.mono hz1))
        have hs1:=HW1.out.size
        have HP1:=kp (HP.out.below HW1.out)
        have HKa:=kp (HK1.out.below hb1 HK1.out.lt)
        obtain ⟨hc0,hc1,hc2,hc3⟩:=j8 HKa.out
        clear hb1
        go_wp2_with fail
        refine (l0 _ pg0 w1 HP1.out hs1 _ HR.out).mono ?_
        rintro e w2 ⟨rfl,hb2⟩
        have HW2 : Kept (Below w.heap.size w w2):=kp (HW1.out.trans (hb2.mono hs1))
        have hs2:=HW2.out.size
        have HP2:=kp (HP.out.below HW2.out)
        have HKb:=kp (HKa.out.below hb2 HKa.out.lt)
        clear hb2 hc0 hc1 hc2 hc3
        obtain ⟨hc0,hc1,hc2,hc3⟩:=j8 HKb.out
        go_wp2_with fail
        refine (qE w.heap.size w2 a1 len1 cap1 z1 (HL1.out.below HW2.out) hlc1 HLm1.out _ HFw1.out).mono ?_
        rintro e w9 ⟨rfl,rfl⟩
        go_wp2_with fail
        refine (jP w2).mono ?_
        rintro e w9 ⟨rfl,hb9⟩
        have HW9:=kp (HW2.out.trans (hb9.mono hs2))
        clear hb9
        go_wp2
        go_ret
        exact ⟨rfl,HW9.out⟩
      · have hbig2 : decide ((len2 : Int) > 300) = false:=by simp;omega
        go_enter Tryd.func4,Tryd.ntmps4
        go_wp2_with (first
          | ((with_reducible refine j4 rfl 24 (.tmp 0) rfl (pgC pg0) rfl ?_);intro g1 u1 hg1 hk1 hu1;have HK1:=kp hk1;have HG1:=kp hg1;have HU1:=kp hu1;have hz1:=hu1.size;clear hg1 hk1 hu1))
        refine (jP u1).mono ?_
        rintro e w1 ⟨rfl,hb1⟩
        have HW1 : Kept (Below w.heap.size w w1):=kp (HU1.out.trans (hb1.mono hz1))
        have hs1:=HW1.out.size
        have HP1:=kp (HP.out.below HW1.out)
        have HKa:=kp (HK1.out.below hb1 HK1.out.lt)
        obtain ⟨hc0,hc1,hc2,hc3⟩:=j8 HKa.out
        clear hb1
        go_wp2_with fail
        refine (l0 _ pg0 w1 HP1.out hs1 _ HR.out).mono ?_
        rintro e w2 ⟨rfl,hb2⟩
        have HW2 : Kept (Below w.heap.size w w2):=kp (HW1.out.trans (hb2.mono hs1))
        have hs2:=HW2.out.size
        have HP2:=kp (HP.out.below HW2.out)
        have HKb:=kp (HKa.out.below hb2 HKa.out.lt)
        clear hb2 hc0 hc1 hc2 hc3
        obtain ⟨hc0,hc1,hc2,hc3⟩:=j8 HKb.out
        go_wp2_with fail
        refine (qE w.heap.size w2 a1 len1 cap1 z1 (HL1.out.below HW2.out) hlc1 HLm1.out _ HFw1.out).mono ?_
        rintro e w9 ⟨rfl,rfl⟩
        obtain ⟨⟨ca,cb,cc⟩,hcc⟩ : ∃ x,Q.check pg0 = x:=⟨_,rfl⟩
        have HC:=kp hcc
        clear hcc
        obtain ⟨mb,hmb⟩ : ∃ mb,BeginsAre pg0 cc mb:=xR pg0 cc
        have HMb:=kp hmb
        clear hmb
        obtain ⟨⟨ra,rb,rd⟩,hans⟩ : ∃ x,Ma.ans pg0 mb z1 cc = x:=⟨_,rfl⟩
        have HAns:=kp hans
        clear hans
        go_wp2_with fail
        refine (qA w.heap.size pg0 w2 (HP.out.below HW2.out) hs2 HR.out (HTab.out.below HW2.out hw01) ca cb cc HC.out mb HMb.out (a1) len1 cap1 z1 (HL1.out.below HW2.out) hlc1 HLm1.out (ra,rb,rd) HAns.out).mono ?_
        rintro e w3 ⟨rfl,hb3⟩
        have HW3 : Kept (Below w.heap.size w w3):=kp (HW2.out.trans (hb3.mono hs2))
        have hs3:=HW3.out.size
        have HK3:=kp (HKb.out.below hb3 HKb.out.lt)
        clear hb3 hc0 hc1 hc2 hc3
        obtain ⟨hc0,hc1,hc2,hc3⟩:=j8 HK3.out
        go_wp2_with (first
          | ((with_reducible show Sl 7);go_must (refine j7 rfl 30 rfl (ftC 0 0 0) lT ?_);intro gF w4 hg4 hk4 hb4;have HgF:=kp hg4;have HFb4:=kp hk4;have HW4:=kp (HW3.out.trans (hb4.mono hs3));have hs4:=HW4.out.size;have HK4:=kp (HK3.out.below hb4 HK3.out.lt);clear hg4 hk4 hb4 hc0 hc1 hc2 hc3)
          | ((with_reducible show Sn);go_must (refine j5 rfl 30 (.tmp 7) (.tmp 42) rfl gF (ftC ra rb (rd : Int)) rfl rfl _ _ HFb4.out jT rfl (l5 _ _ _) ?_);intro w5 hk5 hg5 hz5;have HFgF5:=kp hk5;have HW5:=kp (HW4.out.grown hg5 hs4 (fun k e => by cases e;have:=HgF.out;omega));have hs5:=HW5.out.size;have HK5:=kp (HK4.out.grown hg5 (fun e => by cases e;have:=HgF.out;have:=HK3.out.lt;omega));obtain ⟨hc0,hc1,hc2,hc3⟩:=j8 HK5.out;clear hk5 hg5 hz5))
        have hlk5:=HK5.out.lt
        have hce : ((cc : Int) == (cc : Int)) = true:=by simp
        go_wp2_with (first
          | (go_at_call 14;fail))
        refine (QF w.heap.size pg0 w5 (HP.out.below HW5.out) hs5 ca cb cc HC.out).mono ?_
        unfold StartPost2
        rintro e w6 ⟨q0,rfl,hmi,hcf,hl0,h16,hb6⟩
        have HMi6:=kp hmi;have HCf0:=kp hcf;have H170:=kp (lQ h16)
        have HM6:=kp hb6;have hs56:=hb6.size
        have HF6:=kp (HFgF5.out.below hb6 HFgF5.out.lt)
        clear hmi hcf hl0 h16 hb6 hc0 hc1 hc2 hc3
        by_cases hz : cc = 0
        rotate_left
        · have hb0 : ((cc : Int) != 0) = true:=by simp;omega
          go_wp2_with (first
            | ((with_reducible show Sl 9);go_must (refine j7 rfl 43 rfl _ lD ?_);intro gC w7 hgC hk7 hu7;have HKc:=kp hk7;have HGC:=kp hgC;have HM7:=kp (HM6.out.trans (hu7.mono hs56));have HMi7:=kp (HMi6.out.below hu7 (Nat.le_refl _));have hs57:=HM7.out.size;have HF7:=kp (HF6.out.below hu7 HF6.out.lt);clear hk7 hu7 hgC)
            | ((with_reducible show Sn);(refine j5 rfl 43 (.tmp 9) (.tmp 47) rfl gC (pcC q0) rfl rfl _ _ HKc.out (by rw [H170.out];exact jH) (by rw [H170.out];rfl) (lK q0) ?_);intro w8 hk8 hg8 hs8';have HKC8:=kp hk8;have HM8:=kp (HM7.out.grown hg8 hs57 (fun k e => by cases e;have:=HGC.out;omega));have HMi8:=kp (HMi7.out.typed HKc.out hg8);have HF8:=kp (HF7.out.grown hg8 (fun e => by cases e;have:=HGC.out;have:=HF6.out.lt;omega));obtain ⟨hf0,hf1,hf2⟩:=l2 HF8.out;clear hk8 hg8 hs8'))
          go_ret
          exact ⟨rfl,HW5.out.trans (HM8.out.mono hs5)⟩
        have hb0 : ((cc : Int) != 0) = false:=by rw [hz];rfl
        by_cases hrd : rd = 0
        rotate_left
        · have hb1 : ((rd : Int) != 0) = true:=by simp;omega
          go_wp2_with (first
            | ((with_reducible show Sl 9);go_must (refine j7 rfl 43 rfl _ lD ?_);intro gC w7 hgC hk7 hu7;have HKc:=kp hk7;have HGC:=kp hgC;have HM7:=kp (HM6.out.trans (hu7.mono hs56));have HMi7:=kp (HMi6.out.below hu7 (Nat.le_refl _));have hs57:=HM7.out.size;have HF7:=kp (HF6.out.below hu7 HF6.out.lt);clear hk7 hu7 hgC)
            | ((with_reducible show Sn);(refine j5 rfl 43 (.tmp 9) (.tmp 47) rfl gC (pcC q0) rfl rfl _ _ HKc.out (by rw [H170.out];exact jH) (by rw [H170.out];rfl) (lK q0) ?_);intro w8 hk8 hg8 hs8';have HKC8:=kp hk8;have HM8:=kp (HM7.out.grown hg8 hs57 (fun k e => by cases e;have:=HGC.out;omega));have HMi8:=kp (HMi7.out.typed HKc.out hg8);have HF8:=kp (HF7.out.grown hg8 (fun e => by cases e;have:=HGC.out;have:=HF6.out.lt;omega));obtain ⟨hf0,hf1,hf2⟩:=l2 HF8.out;clear hk8 hg8 hs8'))
          go_ret
          exact ⟨rfl,HW5.out.trans (HM8.out.mono hs5)⟩
        have hb1 : ((rd : Int) != 0) = false:=by rw [hrd];rfl
        have HF:=kp (qZ (p:=pg0) (a:=ca) (b:=cb) (by rw [HC.out,hz]))
        have HLen:=kp HP.out.row.len
        have HPs:=kp HP.out.s
        have HCz:=kp hz
        have HBg:=kp (HMb.out.2 hz)
        obtain ⟨L,hLe⟩ : ∃ L : Nat,pg0.s = (L : Int):=⟨pg0.s.toNat,by have:=HF.out.counts.s;omega⟩
        have HLs:=kp hLe
        have HL8 : Kept (L ≤ 8):=kp (by have:=HF.out.counts.s;omega)
        have HChk : Kept ((Ma.check pg0 mb z1).2.2 = 0):=kp (by
          have h1:=HAns.out
          unfold Ma.ans at h1
          rw [if_pos hz] at h1
          rw [h1];exact hrd)
        have HSh:=kp (Ma.check_fine HChk.out).1
        have HIk : Kept (∀ i,Ma.Inv pg0 z1 L (runTo pg0 z2 i)):=kp (uA HF.out HP.out.row.len HLs.out HBg.out (Ma.told_of HChk.out) z2)
        have HGd : Kept (∀ i,M.Good pg0 (runTo pg0 z2 i)):=kp (xK HF.out HP.out.row.len z2)
        have hpl1 : len1 = pg0.len:=by rw [← HL1.out.len_];exact (Mu.shaped_iff.1 HSh.out).1
        subst hpl1
        have hl0 : 0 < pg0.len:=by have h1:=HF.out.counts.f;have h2:=HLen.out;omega
        obtain ⟨adL,_,eL,hbL,hj1,hj2,hj3,hj4,hj5⟩:=HL1.out.get16 hl0
        subst eL
        clear hj1 hj2 hj3 hj4 hj5 hz hrd hLe
        go_wp2_with (first
          | ((with_reducible show Sl 9);go_must (refine j7 rfl 43 rfl _ lD ?_);intro gC w7 hgC hk7 hu7;have HKc:=kp hk7;have HGC:=kp hgC;have HM7:=kp (HM6.out.trans (hu7.mono hs56));have HMi7:=kp (HMi6.out.below hu7 (Nat.le_refl _));have hs57:=HM7.out.size;have HF7:=kp (HF6.out.below hu7 HF6.out.lt);clear hk7 hu7 hgC)
          | ((with_reducible show Sn);(refine j5 rfl 43 (.tmp 9) (.tmp 47) rfl gC (pcC q0) rfl rfl _ _ HKc.out (by rw [H170.out];exact jH) (by rw [H170.out];rfl) (lK q0) ?_);intro w8 hk8 hg8 hs8';have HKC8:=kp hk8;have HM8:=kp (HM7.out.grown hg8 hs57 (fun k e => by cases e;have:=HGC.out;omega));have HMi8:=kp (HMi7.out.typed HKc.out hg8);have HF8:=kp (HF7.out.grown hg8 (fun e => by cases e;have:=HGC.out;have:=HF6.out.lt;omega));obtain ⟨hf0,hf1,hf2⟩:=l2 HF8.out;clear hk8 hg8 hs8'))
        have HGe : Kept (w5.heap.size ≤ gC):=kp (by have:=HGC.out;omega)
        clear hf0 hf1 hf2
        go_loopw [11] (fun v wr => ∃ (i : Nat) (q : Pc),i ≤ len2 + 1 ∧ v = .int .i64 i ∧ Mine wr w5.heap.size q ∧ q.cf = runTo pg0 z2 (min i len2) ∧ Blk wr gC 43 (pcC q) ∧ Below w5.heap.size w5 wr) (fun v _ => len2 + 1 - (intOf v).toNat)
        case atStart => exact ⟨0,q0,by omega,rfl,HMi8.out,by rw [Nat.zero_min,QK];exact HCf0.out HCz.out,HKC8.out,HM8.out⟩
        case round =>
          clear HM6 HM7 HM8 HMi6 HMi7 HMi8 HKC8 HF6 HF7 HF8
          obtain ⟨i,q,hi,rfl,hmq,hcf,hkc,hbl⟩:=hrel
          have HMq:=kp hmq;have HCf0':=kp hcf;have HKC:=kp hkc;have HBq:=kp hbl;have hlq:=hmq.ok.len
          have HQ0:=kp hmq.ok
          clear hmq hcf hkc hbl
          by_cases hle : i ≤ len2
          rotate_left
          · have hleb : decide ((i : Int) ≤ (len2 : Int)) = false:=by simp;omega
            have HBe:=kp (HW5.out.trans (HBq.out.mono hs5))
            go_wp2
            go_ret
            exact ⟨rfl,HBe.out⟩
          have hleb : decide ((i : Int) ≤ (len2 : Int)) = true:=by simp;omega
          have HCf : Kept (q.cf = runTo pg0 z2 i):=kp (by rw [HCf0'.out,Nat.min_eq_left hle])
          have HGq:=kp (show M.Good pg0 q.cf by rw [HCf.out];exact HGd.out i)
          have HIq:=kp (show Ma.Inv pg0 z1 L q.cf by rw [HCf.out];exact HIk.out i)
          have H17:=kp (XM (p:=pg0) (q:=q) HGq.out)
          have hq8:=most_8 HGq.out HQ0.out
          have HQ1000 : Kept (q.len ≤ 1000):=kp (by omega)
          clear HCf0' hlq HQ0
          go_wp2
          go_loopw [12,13] (fun v12 v13 wr => ∃ t nL : Nat,t ≤ q.len ∧ v13 = .int .i64 t ∧ v12 = .int .i64 nL ∧ nL = Ma.livesTo q.cf t ∧ Mine wr w5.heap.size q ∧ Blk wr gC 43 (pcC q) ∧ Below w5.heap.size w5 wr) (fun _ v13 _ => q.len - (intOf v13).toNat)
          case atStart => exact ⟨0,0,by omega,rfl,rfl,rfl,HMq.out,HKC.out,HBq.out⟩
          case round =>
            clear HMq HKC HBq
            obtain ⟨t,nL,ht,rfl,rfl,hnl,hmq,hkc,hbl⟩:=hrel
            have HMq:=kp hmq;have HOq:=kp hmq.ok;have HKC:=kp hkc;have HBq:=kp hbl
            have HNt:=kp hnl
            have hnl8 : nL ≤ 8:=by have h1:=Ma.livesTo_le q.cf t;omega
            have hcC:=xE hkc
            have hql:=HOq.out.lc;have hqm:=HOq.out.cm
            unfold maxLen at hqm
            clear hmq hkc hbl hnl
            by_cases htl : t < q.len
            · have HIt : Kept (I64 (t : Int)):=kp (by unfold I64;omega)
              obtain ⟨lb,hlb⟩ : ∃ lb,M.livesN q.cf t = lb:=⟨_,rfl⟩
              have HLb : Kept (M.lives q.cf (t : Int) = lb):=kp (by rw [M.lives_nat];exact hlb)
              have HLN:=kp hlb
              clear hlb
              go_wp2_with (first
                | ((with_reducible show Sl 76);go_must (refine j6 rfl 43 (.tmp 9) rfl gC rfl _ (pcC q) _ HKC.out Tryd.underlying43 rfl (by rw [H17.out];exact jH) ?_))
                | (go_at_call 15;fail))
              refine (qM wr.heap.size q wr HOq.out (Nat.le_refl _) HQ1000.out (t : Int) HIt.out lb HLb.out).mono ?_
              rintro e wl ⟨rfl,hbl⟩
              have HBl2:=kp (HBq.out.trans (hbl.mono HBq.out.size));have HMl:=kp (HMq.out.below hbl (Nat.le_refl _));have HKl:=kp (HKC.out.below hbl HKC.out.lt)
              clear hbl hcC
              cases lb with
              | true =>
                go_wp2
                go_roundw
                case rel => exact ⟨t + 1,nL + 1,by omega,by go_num,by go_num,by unfold Ma.livesTo;rw [if_pos HLN.out,HNt.out],HMl.out,HKl.out,HBl2.out⟩
                case measure => simp [intOf];omega
              | false =>
                go_wp2
                go_roundw
                case rel => exact ⟨t + 1,nL,by omega,by go_num,rfl,by unfold Ma.livesTo;rw [if_neg (by rw [HLN.out];simp),HNt.out];rfl,HMl.out,HKl.out,HBl2.out⟩
                case measure => simp [intOf];omega
            have HNL : Kept (nL = Ma.livesTo q.cf q.len):=kp (by rw [HNt.out,show t = q.len by omega])
            clear HNt
            have htl' : ¬ t < q.len:=htl
            go_wp2
            clear htl htl' ht
            clear hcC
            go_loopw [14] (fun v14 wr => ∃ t : Nat,t ≤ q.len ∧ v14 = .int .i64 t ∧ Mine wr w5.heap.size q ∧ Blk wr gC 43 (pcC q) ∧ Below w5.heap.size w5 wr) (fun v14 _ => q.len - (intOf v14).toNat)
            case atStart => exact ⟨0,by omega,rfl,HMq.out,HKC.out,HBq.out⟩
            case round =>
              clear HMq HKC HBq HOq
              obtain ⟨t,ht,rfl,hmq,hkc,hbl⟩:=hrel
              have HMq:=kp hmq;have HOq:=kp hmq.ok;have HKC:=kp hkc;have HBq:=kp hbl
              have hcC:=xE hkc
              clear hmq hkc hbl
              by_cases htl : t < q.len
              · obtain ⟨ad1,th,hA1,had1,hth,hsok,hthc,hsl,hct,hj0⟩:=HOq.out.thread htl
                clear hj0
                rw [hA1] at hcC
                have hsc:=hsok.lc;have hsm:=hsok.cm
                unfold maxLen at hsm
                have hh16 : th.sv.len ≤ 16:=by
                  have h1:=M.high HF.out HLen.out HGq.out (x:=tvT th) (List.mem_map_of_mem (List.mem_of_getElem? hth))
                  have h2:=HF.out.counts.f
                  have h3 : (tvT th).stack.length = th.sv.len:=hsl
                  omega
                by_cases hs0 : th.sv.len = 0
                · have hsb : ((th.sv.len : Int) == 0) = true:=by simp;omega
                  clear hs0 hth hsok hthc hsl
                  go_wp2
                  go_roundw
                  case rel => exact ⟨t + 1,by omega,by go_num,HMq.out,HKC.out,HBq.out⟩
                  case measure => simp [intOf];omega
                · skip
                  obtain ⟨m,hm⟩ : ∃ m,th.sv.len = m + 1:=⟨th.sv.len - 1,by omega⟩
                  obtain ⟨adS,hAS,hadS,hl0c,hl1c⟩:=hsok.last (by omega)
                  rw [hm] at hl0c hl1c hct hsc hh16
                  rw [Nat.add_sub_cancel] at hl0c hl1c
                  rw [hAS] at hct
                  obtain ⟨F,hFe⟩ : ∃ F,(M.top th.sv.stack).1 = F:=⟨_,rfl⟩
                  obtain ⟨N,hNe⟩ : ∃ N,(M.top th.sv.stack).2 = N:=⟨_,rfl⟩
                  have HTop : Kept (M.top th.sv.stack = (F,N)):=kp (by rw [← hFe,← hNe])
                  rw [hFe] at hl0c
                  rw [hNe] at hl1c
                  have hsx : q.cf.ths[t]? = some (tvT th):=by show (q.tvs.map tvT)[t]? = _;rw [List.getElem?_map,hth];rfl
                  have hst0 : 0 < (tvT th).stack.length:=by rw [show (tvT th).stack.length = th.sv.len from hsl];omega
                  obtain ⟨fx,hfx,hNl⟩:=HGq.out.spot (tvT th) (List.mem_of_getElem? hsx) (M.top th.sv.stack) (M.top_mem hst0)
                  rw [HTop.out] at hfx hNl
                  have hFl : F < pg0.len:=by rw [← HLen.out];exact (List.getElem?_eq_some_iff.1 hfx).1
                  obtain ⟨adL',xs,eL',_,hxs,hxok,hj3,hj4,hx5⟩:=HL1.out.get16 hFl
                  obtain rfl : adL = adL':=Option.some.inj eL'
                  have hsa : xs.live.len = fx.len:=by
                    have h1:=(Mu.shaped_iff.1 HSh.out).2 F hFl
                    rw [q9 hxs hfx,Bool.and_eq_true,decide_eq_true_eq,decide_eq_true_eq] at h1
                    exact h1.2
                  have hfxl : fx.nodes.length = fx.len:=(HP.out.fns fx (List.mem_of_getElem? hfx)).nodes.1.len
                  have hNl2 : N < xs.live.len:=by rw [hsa,← hfxl];exact hNl
                  obtain ⟨adH,eH,hbH,hj6,hhv,hcv⟩:=hxok.live.get hNl2
                  rw [eH] at hx5
                  obtain ⟨hv,hve⟩ : ∃ hv,xs.live.z.getD N 0 = hv:=⟨_,rfl⟩
                  rw [hve] at hhv hcv
                  have HX5:=kp hx5;have HHv:=kp hcv
                  have hhc:=hxok.live.lc;have hhm:=hxok.live.cm
                  unfold maxLen at hhm
                  have Hhv : Kept (Ma.lv z1 (M.top (tvT th).stack) = hv):=kp (by
                    show Ma.lv z1 (M.top th.sv.stack) = hv
                    rw [HTop.out]
                    unfold Ma.lv
                    rw [zU hxs]
                    exact hve)
                  have Hsx:=kp hsx;have Hst:=kp hst0
                  have hsb : (((m + 1 : Nat) : Int) == 0) = false:=by simp;omega
                  have hsb2 : (((m : Int) + 1) == 0) = false:=by simp;omega
                  have hFi : (F : Int) < (pg0.len : Int):=by omega
                  have hNi : (N : Int) < (xs.live.len : Int):=by omega
                  have hti : (t : Int) < (q.len : Int):=by omega
                  have Hth:=kp hth;have hA1q:=kp hA1
                  have HOne : Kept (hv = 0 → nL = 1):=kp (fun e => by
                    rw [HNL.out,← HOq.out.len]
                    exact Ma.inv_alone HIq.out Hsx.out Hst.out (by rw [Hhv.out];exact e))
                  have HOth : Kept (0 < t → hv.testBit L = true):=kp (fun e => by
                    have h1:=HIq.out.other t _ e Hsx.out Hst.out
                    rw [Hhv.out] at h1
                    exact h1)
                  clear hs0 hth hsok hthc hsl hxs hxok hj3 hj4 hj6 hx5 eH hve hcv hsx hst0 hfx hNl hsa hfxl hFe hNe hm hAS eL' hA1
                  go_wp2_with (first
                    | ((with_reducible show Sl 16);go_must (refine j7 rfl 52 rfl [.int .i64 0,.int .i64 0] JJ ?_);intro gX wx hgX hkx hbx;have HGX:=kp hgX;have HFr0:=kp hkx;have HBn0:=kp hbx;clear hgX hkx hbx)
                    | ((with_reducible show Sn);go_must (refine j5 rfl 52 (.tmp 16) (.tmp 102) rfl gX [.int .i64 (F : Int),.int .i64 (N : Int)] rfl rfl _ _ HFr0.out JK rfl (JL F N) ?_);intro wy hky hgy hzy;have HFr:=kp hky;have HBn:=kp (HBn0.out.grown hgy HBn0.out.size (fun k e => by cases e;exact HGX.out));have HBx:=kp (HBq.out.trans (HBn.out.mono HBq.out.size));have HMx:=kp (HMq.out.below HBn.out (Nat.le_refl _));have HKCx:=kp (HKC.out.below HBn.out HKC.out.lt);have HV:=kp (HW5.out.trans (HBx.out.mono hs5));clear hky hgy hzy hcC hct hl0c hl1c))
                  simp only [uD,jI,List.set]
                  clear hsb hsb2
                  have hf0:=HFr.out.cell 0;have hf1:=HFr.out.cell 1
                  simp only [List.getElem?_cons_zero,List.getElem?_cons_succ] at hf0 hf1
                  have hx5:=(HV.out.cell (p:=⟨(adL.add (F * 6)).block,(adL.add (F * 6)).off + 5,none⟩) (by show (adL.add (F * 6)).block < _;rw [add_block];omega)).trans HX5.out
                  have hvc:=(HV.out.cell (p:=adH.add N) (by rw [add_block];omega)).trans HHv.out
                  refine wp_region_quiet_lit (by kernel_rfl) (by kernel_rfl) ?_
                  iterate 11 (go_big_quiet_step (fail))
                  refine wpQuiet_nil ?_
                  intro _ hw'
                  obtain ⟨nq,hw''⟩:=hw'
                  subst hw''
                  obtain ⟨wd,hwd⟩ : ∃ q,wy.drewN nq = q:=⟨_,rfl⟩
                  have hbd : Below wy.heap.size wy wd:=by rw [← hwd];exact below_drewN (Below.refl _ _) _
                  rw [hwd]
                  have HBy:=kp (HBx.out.trans (hbd.mono HBx.out.size));have HMy:=kp (HMx.out.below hbd (Nat.le_refl _));have HKy:=kp (HKCx.out.below hbd HKCx.out.lt)
                  have HKPy:=kp (HK5.out.below HBy.out hlk5)
                  clear hwd hbd hf0 hf1 hx5 hvc HBx HMx HKCx HV
                  obtain ⟨hp0,hp1,hp2,hp3⟩:=j8 HKPy.out
                  by_cases ht0 : t = 0
                  · have hq0 : 0 < q.len:=by omega
                    have HTz:=kp ht0
                    have Hth0 : Kept (q.tvs[0]? = some th):=kp (by rw [← HTz.out];exact Hth.out)
                    have Hsx0 : Kept (q.cf.ths[0]? = some (tvT th)):=kp (by rw [← HTz.out];exact Hsx.out)
                    have htb : decide ((t : Int) > 0) = false:=by simp;omega
                    have htq : ((t : Int) == 0) = true:=by simp;omega
                    have h0t : ¬ 0 < t:=by omega
                    clear ht0
                    by_cases hv0 : hv = 0
                    · have hvb : ((hv : Int) == 0) = true:=by rw [hv0];rfl
                      have hn1 : ((nL : Int) != 1) = false:=by rw [HOne.out hv0];rfl
                      clear hv0
                      go_wp2
                      clear hp0 hp1 hp2 hp3
                      go_loopw [18] (fun v18 wr => ∃ k : Nat,k ≤ 8 ∧ v18 = .int .i64 k ∧ Mine wr w5.heap.size q ∧ Blk wr gC 43 (pcC q) ∧ Below w5.heap.size w5 wr) (fun v18 _ => 8 - (intOf v18).toNat)
                      case atStart => exact ⟨0,by omega,rfl,HMy.out,HKy.out,HBy.out⟩
                      case round =>
                        clear HMy HKy HBy
                        obtain ⟨k,hk,rfl,hmq,hkc,hbl⟩:=hrel
                        have HMz:=kp hmq;have HKz:=kp hkc;have HBz:=kp hbl
                        have HOz:=kp hmq.ok
                        clear hmq hkc hbl
                        by_cases hk8 : k < 8
                        rotate_left
                        · clear htl
                          have hk8b : decide ((k : Int) < (8 : Int)) = false:=by simp;omega
                          clear hk8
                          go_wp2
                          go_roundw
                          case rel => exact ⟨t + 1,by omega,by go_num,HMz.out,HKz.out,HBz.out⟩
                          case measure => simp [intOf];omega
                        have hk8b : decide ((k : Int) < (8 : Int)) = true:=by simp;omega
                        have hcZ:=xE HKz.out
                        rw [hA1q.out] at hcZ
                        obtain ⟨o,ho⟩ : ∃ o,(tvT th).slots.getD k 0 = o:=⟨_,rfl⟩
                        obtain ⟨hoc,had8⟩ : wr.cell? ⟨ad1.block,ad1.off + 1 + k,none⟩ = some (.int .i64 (o : Int)) ∧ ad1.block < wr.heap.size:=by
                          obtain ⟨ad2,th2,e2,had2,h2,_,_,_,_,h4⟩:=HOz.out.thread (k:=0) hq0
                          obtain rfl : ad1 = ad2:=by rw [hA1q.out] at e2;exact Option.some.inj e2
                          obtain rfl : th = th2:=by rw [Hth0.out] at h2;exact Option.some.inj h2
                          refine ⟨?_,had2⟩
                          rcases h4 k with h | h
                          · rw [Nat.zero_mul,xS] at h
                            rw [show ad1.off + 1 + k = ad1.off + (k + 1) by omega,h,← ho];rfl
                          · omega
                        obtain ⟨HSl,ho8⟩:=J2 HGq.out Hsx.out hk8 ho
                        clear ho
                        by_cases ho0 : o = 0
                        · have hob : decide ((o : Int) > 0) = false:=by simp;omega
                          have ho1 : ¬ 0 < o:=by omega
                          clear ho0
                          go_wp2
                          go_roundw
                          case rel => exact ⟨k + 1,by omega,by go_num,HMz.out,HKz.out,HBz.out⟩
                          case measure => simp [intOf];omega
                        have hob : decide ((o : Int) > 0) = true:=by simp;omega
                        have ho1 : 0 < o:=by omega
                        obtain ⟨u,hu⟩ : ∃ u,o = u + 1:=⟨o - 1,by omega⟩
                        obtain ⟨bl,hbl⟩ : ∃ bl,M.lives q.cf ((o : Int) - 1) = bl:=⟨_,rfl⟩
                        have HBl:=kp hbl
                        have HI1 : Kept (I64 ((o : Int) - 1)):=kp (by unfold I64;omega)
                        have HQl : Kept (q.len ≤ 1000):=kp (by omega)
                        have HIs : Kept (bl = true → hv.testBit k = true ∨ hv.testBit L = true):=kp (fun e => by
                          have h1 : M.livesN q.cf u = true:=by
                            have h2:=M.lives_nat q.cf u
                            rw [← h2,show ((u : Nat) : Int) = (o : Int) - 1 by omega,hbl];exact e
                          have h3:=HIq.out.slot (tvT th) Hsx0.out Hst.out k u (by rw [HSl.out,hu]) h1
                          rw [Hhv.out] at h3
                          exact h3)
                        obtain ⟨hkb,hhkb⟩ : ∃ q,hv.testBit k = q:=⟨_,rfl⟩
                        have HHkb:=kp hhkb
                        have HHk : Kept (S.has hv (k : Int) = hkb):=kp (by rw [S.has_in _ _ (by omega)];exact hhkb)
                        clear hu hbl hhkb ho0
                        go_wp2_with (first
                          | ((with_reducible show Sl 148);go_must (refine jN rfl 43 (.tmp 9) rfl gC rfl _ (pcC q) _ HKz.out Tryd.underlying43 rfl (by rw [H17.out];exact jH) ?_))
                          | (go_at_call 15;fail))
                        refine (qM wr.heap.size q wr HOz.out (Nat.le_refl _) HQl.out ((o : Int) - 1) HI1.out bl HBl.out).mono ?_
                        rintro e wl ⟨rfl,hbl⟩
                        have HBl2:=kp (HBz.out.trans (hbl.mono HBz.out.size));have HMl:=kp (HMz.out.below hbl (Nat.le_refl _));have HKl:=kp (HKz.out.below hbl HKz.out.lt)
                        have HKPl:=kp (HK5.out.below HBl2.out hlk5)
                        obtain ⟨hp0,hp1,hp2,hp3⟩:=j8 HKPl.out
                        clear hbl hcZ hoc HMz HKz HBz HOz had8
                        have HMz:=HMl;have HKz:=HKl;have HBz:=HBl2
                        cases bl with
                        | false =>
                          go_wp2
                          go_roundw
                          case rel => exact ⟨k + 1,by omega,by go_num,HMz.out,HKz.out,HBz.out⟩
                          case measure => simp [intOf];omega
                        | true =>
                          cases hkb with
                          | true =>
                            go_wp2_with (first
                              | (go_at_call_of 16 #[Value.int .u32 (hv : Int),Value.int .i64 (k : Int)];go_must (refine (jQ hv hhv (k : Int) ⟨by omega,by omega⟩ _ HHk.out _).mono ?_);rintro e w9 ⟨rfl,rfl⟩))
                            go_roundw
                            case rel => exact ⟨k + 1,by omega,by go_num,HMz.out,HKz.out,HBz.out⟩
                            case measure => simp [intOf];omega
                          | false =>
                            have HHasL : Kept (S.has hv pg0.s = true):=kp (by
                              rcases HIs.out rfl with h | h
                              · rw [HHkb.out] at h;cases h
                              · rw [HLs.out,S.has_in _ _ (by have:=HL8.out;omega)];exact h)
                            go_wp2_with (first
                              | (go_at_call_of 16 #[Value.int .u32 (hv : Int),Value.int .i64 (k : Int)];go_must (refine (jQ hv hhv (k : Int) ⟨by omega,by omega⟩ _ HHk.out _).mono ?_);rintro e w9 ⟨rfl,rfl⟩)
                              | (go_at_call_of 16 #[Value.int .u32 (hv : Int),Value.int .i64 pg0.s];go_must (refine (jQ hv hhv pg0.s HPs.out _ HHasL.out _).mono ?_);rintro e w9 ⟨rfl,rfl⟩))
                            go_roundw
                            case rel => exact ⟨k + 1,by omega,by go_num,HMz.out,HKz.out,HBz.out⟩
                            case measure => simp [intOf];omega
                    · have hvb : ((hv : Int) == 0) = false:=by simp;omega
                      clear hv0
                      go_wp2
                      clear hp0 hp1 hp2 hp3
                      go_loopw [18] (fun v18 wr => ∃ k : Nat,k ≤ 8 ∧ v18 = .int .i64 k ∧ Mine wr w5.heap.size q ∧ Blk wr gC 43 (pcC q) ∧ Below w5.heap.size w5 wr) (fun v18 _ => 8 - (intOf v18).toNat)
                      case atStart => exact ⟨0,by omega,rfl,HMy.out,HKy.out,HBy.out⟩
                      case round =>
                        clear HMy HKy HBy
                        obtain ⟨k,hk,rfl,hmq,hkc,hbl⟩:=hrel
                        have HMz:=kp hmq;have HKz:=kp hkc;have HBz:=kp hbl
                        have HOz:=kp hmq.ok
                        clear hmq hkc hbl
                        by_cases hk8 : k < 8
                        rotate_left
                        · clear htl
                          have hk8b : decide ((k : Int) < (8 : Int)) = false:=by simp;omega
                          clear hk8
                          go_wp2
                          go_roundw
                          case rel => exact ⟨t + 1,by omega,by go_num,HMz.out,HKz.out,HBz.out⟩
                          case measure => simp [intOf];omega
                        have hk8b : decide ((k : Int) < (8 : Int)) = true:=by simp;omega
                        have hcZ:=xE HKz.out
                        rw [hA1q.out] at hcZ
                        obtain ⟨o,ho⟩ : ∃ o,(tvT th).slots.getD k 0 = o:=⟨_,rfl⟩
                        obtain ⟨hoc,had8⟩ : wr.cell? ⟨ad1.block,ad1.off + 1 + k,none⟩ = some (.int .i64 (o : Int)) ∧ ad1.block < wr.heap.size:=by
                          obtain ⟨ad2,th2,e2,had2,h2,_,_,_,_,h4⟩:=HOz.out.thread (k:=0) hq0
                          obtain rfl : ad1 = ad2:=by rw [hA1q.out] at e2;exact Option.some.inj e2
                          obtain rfl : th = th2:=by rw [Hth0.out] at h2;exact Option.some.inj h2
                          refine ⟨?_,had2⟩
                          rcases h4 k with h | h
                          · rw [Nat.zero_mul,xS] at h
                            rw [show ad1.off + 1 + k = ad1.off + (k + 1) by omega,h,← ho];rfl
                          · omega
                        obtain ⟨HSl,ho8⟩:=J2 HGq.out Hsx.out hk8 ho
                        clear ho
                        by_cases ho0 : o = 0
                        · have hob : decide ((o : Int) > 0) = false:=by simp;omega
                          have ho1 : ¬ 0 < o:=by omega
                          clear ho0
                          go_wp2
                          go_roundw
                          case rel => exact ⟨k + 1,by omega,by go_num,HMz.out,HKz.out,HBz.out⟩
                          case measure => simp [intOf];omega
                        have hob : decide ((o : Int) > 0) = true:=by simp;omega
                        have ho1 : 0 < o:=by omega
                        obtain ⟨u,hu⟩ : ∃ u,o = u + 1:=⟨o - 1,by omega⟩
                        obtain ⟨bl,hbl⟩ : ∃ bl,M.lives q.cf ((o : Int) - 1) = bl:=⟨_,rfl⟩
                        have HBl:=kp hbl
                        have HI1 : Kept (I64 ((o : Int) - 1)):=kp (by unfold I64;omega)
                        have HQl : Kept (q.len ≤ 1000):=kp (by omega)
                        have HIs : Kept (bl = true → hv.testBit k = true ∨ hv.testBit L = true):=kp (fun e => by
                          have h1 : M.livesN q.cf u = true:=by
                            have h2:=M.lives_nat q.cf u
                            rw [← h2,show ((u : Nat) : Int) = (o : Int) - 1 by omega,hbl];exact e
                          have h3:=HIq.out.slot (tvT th) Hsx0.out Hst.out k u (by rw [HSl.out,hu]) h1
                          rw [Hhv.out] at h3
                          exact h3)
                        obtain ⟨hkb,hhkb⟩ : ∃ q,hv.testBit k = q:=⟨_,rfl⟩
                        have HHkb:=kp hhkb
                        have HHk : Kept (S.has hv (k : Int) = hkb):=kp (by rw [S.has_in _ _ (by omega)];exact hhkb)
                        clear hu hbl hhkb ho0
                        go_wp2_with (first
                          | ((with_reducible show Sl 148);go_must (refine jN rfl 43 (.tmp 9) rfl gC rfl _ (pcC q) _ HKz.out Tryd.underlying43 rfl (by rw [H17.out];exact jH) ?_))
                          | (go_at_call 15;fail))
                        refine (qM wr.heap.size q wr HOz.out (Nat.le_refl _) HQl.out ((o : Int) - 1) HI1.out bl HBl.out).mono ?_
                        rintro e wl ⟨rfl,hbl⟩
                        have HBl2:=kp (HBz.out.trans (hbl.mono HBz.out.size));have HMl:=kp (HMz.out.below hbl (Nat.le_refl _));have HKl:=kp (HKz.out.below hbl HKz.out.lt)
                        have HKPl:=kp (HK5.out.below HBl2.out hlk5)
                        obtain ⟨hp0,hp1,hp2,hp3⟩:=j8 HKPl.out
                        clear hbl hcZ hoc HMz HKz HBz HOz had8
                        have HMz:=HMl;have HKz:=HKl;have HBz:=HBl2
                        cases bl with
                        | false =>
                          go_wp2
                          go_roundw
                          case rel => exact ⟨k + 1,by omega,by go_num,HMz.out,HKz.out,HBz.out⟩
                          case measure => simp [intOf];omega
                        | true =>
                          cases hkb with
                          | true =>
                            go_wp2_with (first
                              | (go_at_call_of 16 #[Value.int .u32 (hv : Int),Value.int .i64 (k : Int)];go_must (refine (jQ hv hhv (k : Int) ⟨by omega,by omega⟩ _ HHk.out _).mono ?_);rintro e w9 ⟨rfl,rfl⟩))
                            go_roundw
                            case rel => exact ⟨k + 1,by omega,by go_num,HMz.out,HKz.out,HBz.out⟩
                            case measure => simp [intOf];omega
                          | false =>
                            have HHasL : Kept (S.has hv pg0.s = true):=kp (by
                              rcases HIs.out rfl with h | h
                              · rw [HHkb.out] at h;cases h
                              · rw [HLs.out,S.has_in _ _ (by have:=HL8.out;omega)];exact h)
                            go_wp2_with (first
                              | (go_at_call_of 16 #[Value.int .u32 (hv : Int),Value.int .i64 (k : Int)];go_must (refine (jQ hv hhv (k : Int) ⟨by omega,by omega⟩ _ HHk.out _).mono ?_);rintro e w9 ⟨rfl,rfl⟩)
                              | (go_at_call_of 16 #[Value.int .u32 (hv : Int),Value.int .i64 pg0.s];go_must (refine (jQ hv hhv pg0.s HPs.out _ HHasL.out _).mono ?_);rintro e w9 ⟨rfl,rfl⟩))
                            go_roundw
                            case rel => exact ⟨k + 1,by omega,by go_num,HMz.out,HKz.out,HBz.out⟩
                            case measure => simp [intOf];omega
                  · have htb : decide ((t : Int) > 0) = true:=by simp;omega
                    have h0t : 0 < t:=by omega
                    have htq : ((t : Int) == 0) = false:=by simp;omega
                    have hv0 : hv ≠ 0:=fun e => by have h1:=HOth.out (by omega);rw [e] at h1;simp at h1
                    have hvb : ((hv : Int) == 0) = false:=by simp;omega
                    have HHasL : Kept (S.has hv pg0.s = true):=kp (by rw [HLs.out,S.has_in _ _ (by have:=HL8.out;omega)];exact HOth.out (by omega))
                    clear hv0 ht0
                    go_wp2_with (first
                      | (go_at_call_of 16 #[Value.int .u32 (hv : Int),Value.int .i64 pg0.s];go_must (refine (jQ hv hhv pg0.s HPs.out _ HHasL.out _).mono ?_);rintro e w9 ⟨rfl,rfl⟩))
                    clear hp0 hp1 hp2 hp3
                    go_loopw [18] (fun v18 wr => ∃ k : Nat,k ≤ 8 ∧ v18 = .int .i64 k ∧ Mine wr w5.heap.size q ∧ Blk wr gC 43 (pcC q) ∧ Below w5.heap.size w5 wr) (fun v18 _ => 8 - (intOf v18).toNat)
                    case atStart => exact ⟨0,by omega,rfl,HMy.out,HKy.out,HBy.out⟩
                    case round =>
                      clear HMy HKy HBy
                      obtain ⟨k,hk,rfl,hmq,hkc,hbl⟩:=hrel
                      have HMz:=kp hmq;have HKz:=kp hkc;have HBz:=kp hbl
                      clear hmq hkc hbl
                      by_cases hk8 : k < 8
                      · have hk8b : decide ((k : Int) < (8 : Int)) = true:=by simp;omega
                        clear hk8 htl
                        go_wp2
                        go_roundw
                        case rel => exact ⟨t + 1,by omega,by go_num,HMz.out,HKz.out,HBz.out⟩
                        case measure => simp [intOf];omega
                      · have hk8b : decide ((k : Int) < (8 : Int)) = false:=by simp;omega
                        clear hk8 htl
                        go_wp2
                        go_roundw
                        case rel => exact ⟨t + 1,by omega,by go_num,HMz.out,HKz.out,HBz.out⟩
                        case measure => simp [intOf];omega
              · have HB:=kp (HW5.out.trans (HBq.out.mono hs5));have hBs:=HB.out.size
                have HPr:=kp (HP.out.below HB.out)
                have HKP:=kp (HK5.out.below HBq.out hlk5);have hlP:=HKP.out.lt;have hlC:=HKC.out.lt
                have hge : q.len ≤ t:=by omega
                clear htl
                by_cases hlt : i < len2
                · skip
                  obtain ⟨ad,x,hA,hadB,hx,hx1,hcx0,hcx1⟩:=HPi.out.pick hlt
                  have hadw : ad.block < wr.heap.size:=by omega
                  have HX:=kp hx;have HX1:=kp hx1
                  have HCx : Kept (wr.cell? (ad.add (i * 2)) = some (.int .i64 x.1) ∧ wr.cell? ⟨(ad.add (i * 2)).block,(ad.add (i * 2)).off + 1,none⟩ = some (.bool x.2)):=kp ⟨(HB.out.cell (by rw [add_block];exact hadB)).trans hcx0,(HB.out.cell (by rw [add_block];exact hadB)).trans hcx1⟩
                  subst hA
                  clear hx hx1 hcx0 hcx1
                  clear hcC
                  have hcC:=xE HKC.out
                  go_wp2
                  clear hcC
                  apply jJ 7 (.is (pcA q) :: .is (pgA pg0) :: .is _ :: .is _ :: .is (.pointer (some (ad.add (i * 2)))) :: .is (.agg #[.int .i64 x.1,.bool x.2]) :: (.stepped wr.heap.size (M.step pg0 q.cf x.1 x.2)) :: [])
                    [[],[],[],[],[(2,172),(3,173)],[(4,174)],[(0,170),(1,171),(5,175)],[(6,176)]]
                    [(0,170),(1,171),(2,172),(3,173),(4,174),(5,175),(6,176)] (by kernel_rfl) (by kernel_rfl) (by kernel_rfl) (by kernel_rfl) (by kernel_rfl)
                  case hob =>
                    refine ⟨?o0,?o1,?o2,?o3,?o4,?o5,?o6,trivial⟩
                    case o0 =>
                      intro W hW;change wpList _ _ _ _ _ _
                      go_must (refine j6 rfl 43 (.tmp 9) rfl gC rfl _ (pcC q) _ (HKC.out.below hW hlC) Tryd.underlying43 rfl (by rw [H17.out];exact jH) ?_)
                      go_wp2;exact j3 rfl rfl rfl
                    case o1 =>
                      intro W hW;change wpList _ _ _ _ _ _
                      go_must (refine j6 rfl 24 (.tmp 3) rfl g1 rfl _ (pgC pg0) _ (HKP.out.below hW hlP) Tryd.underlying24 rfl jL ?_)
                      go_wp2;exact j3 rfl rfl rfl
                    case o2 => intro W hW;change wpList _ _ _ _ _ _;go_wp2;exact j3 rfl rfl rfl
                    case o3 => intro W hW;change wpList _ _ _ _ _ _;go_wp2;exact j3 rfl rfl rfl
                    case o4 => intro W hW;rintro _ rfl;rintro _ rfl;change wpList _ _ _ _ _ _;go_wp2;exact j3 rfl rfl rfl
                    case o5 =>
                      intro W hW;rintro _ rfl;change wpList _ _ _ _ _ _
                      have hd0:=(hW.cell (p:=ad.add (i * 2)) (by rw [add_block];exact hadw)).trans HCx.out.1
                      have hd1:=(hW.cell (p:=⟨(ad.add (i * 2)).block,(ad.add (i * 2)).off + 1,none⟩) (by rw [add_block];exact hadw)).trans HCx.out.2
                      go_wp2;exact j3 rfl rfl rfl
                    case o6 =>
                      intro W hW;rintro _ rfl;rintro _ rfl;rintro _ rfl;change wpList _ _ _ _ _ _
                      go_wp2_with fail
                      refine (sem_step W.heap.size pg0 HF.out q W (pg_more9 (HPr.out.below (hW.mono hBs)) (show w.heap.size ≤ W.heap.size by have:=hW.size;omega)) ((HOq.out.below hW).more hW.size) (by rw [HCf.out];exact HGd.out i) (Nat.le_refl _) x.1 HX1.out x.2).mono ?_
                      rintro e w2 ⟨q',rfl,hm2,hcf2,hb2⟩
                      have HB2:=kp hb2;have HM2:=kp hm2;have HC2:=kp hcf2;have hsW:=hW.size;clear hb2 hm2 hcf2
                      go_wp2
                      exact jE rfl rfl rfl HB2.out ⟨q',rfl,HM2.out.less hsW,HC2.out⟩
                  case hend =>
                    intro W hW;rintro _ rfl;rintro _ rfl;rintro _ rfl;rintro _ rfl;rintro _ rfl;rintro _ rfl;rintro _ ⟨q1,rfl,hmi,hcf1⟩
                    simp only [given,jI,List.set,List.drop]
                    have HW:=kp hW;have HMi:=kp hmi;have HCf1 : Kept (q1.cf = runTo pg0 z2 (i + 1)):=kp (by rw [hcf1,HCf.out,yU pg0 z2 i x HX.out])
                    have H171:=kp (XM (p:=pg0) (q:=q1) (by rw [HCf1.out];exact HGd.out (i + 1)))
                    have HKC2:=kp (HKC.out.below hW hlC)
                    have hsW:=hW.size
                    have HsW : Kept (w5.heap.size ≤ W.heap.size):=kp (by have:=HBq.out.size;omega)
                    have HLw : Kept (w5.heap.size ≤ wr.heap.size):=kp HBq.out.size
                    clear hW hmi hcf1
                    refine j5 rfl 43 (.tmp 9) (.tmp 176) rfl gC (pcC q1) rfl rfl _ _ HKC2.out (by rw [H171.out];exact jH) (by rw [H171.out,H17.out]) (lK q1) ?_
                    intro u7 hk7 hg7 hs7
                    have HK27:=kp hk7;have HMq1:=kp (HMi.out.typed HKC2.out hg7);have HB7:=kp ((HBq.out.trans (HW.out.mono HLw.out)).grown hg7 HsW.out (fun k e => by cases e;exact HGe.out))
                    clear hk7 hg7 hs7
                    go_wp2
                    go_roundw
                    case rel => exact ⟨i + 1,q1,by omega,by go_num,HMq1.out.less HLw.out,by rw [Nat.min_eq_left (by omega)];exact HCf1.out,HK27.out,HB7.out⟩
                    case measure => simp [intOf];omega
                · have hge2 : len2 ≤ i:=by omega
                  have HMn : Kept (min (i + 1) len2 = i):=kp (by omega)
                  clear hlt
                  go_wp2
                  go_roundw
                  case rel => exact ⟨i + 1,q,by omega,by go_num,HMq.out,by rw [HMn.out];exact HCf.out,HKC.out,HBq.out⟩
                  case measure => simp [intOf];omega
end Go.Proofs.YtoekiejipdabmaaDoor
