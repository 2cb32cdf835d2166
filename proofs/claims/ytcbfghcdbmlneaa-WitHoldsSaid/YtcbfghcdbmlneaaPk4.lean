/- WireP3, WireP4, ProgMath, Reach, CheckMath, PcodeMath, PcodeMath2, ScriptMath, Owns, Build, ProgRef1. -/
import Derived.Test.YtcbfghcdbmlneaaPk3
import Derived.Test.YtcbfghcdbmlneaaPk2
import Derived.Deep.RegionWith
import Derived.Test.YtcbfghcdbmlneaaPk1
import Derived.WalkKit
import Derived.Great.FillDense
import Derived.Great.BuildSlice
namespace Go.Proofs.Ytcbfghcdbmlneaa
open Go.RowKit
def pdC (A : Option Addr) (n c : Nat) (s : R.St) : List Value:=[.slice A n c,.int .i64 (s.at_ : Int),.int .i64 (s.why : Int)]
def Pd (w : World) (g : Nat) (A : Option Addr) (n c : Nat) (s : R.St) : Prop:=Blk w g 127 (pdC A n c s)
theorem Pd.cells {w : World} {g : Nat} {A : Option Addr} {n c : Nat} {s : R.St} (h : Pd w g A n c s) :
    w.cell? ⟨g,0,none⟩ = some (.slice A n c) ∧ w.cell? ⟨g,1,none⟩ = some (.int .i64 (s.at_ : Int)) ∧ w.cell? ⟨g,2,none⟩ = some (.int .i64 (s.why : Int)) ∧ w.frozen? ⟨g,1,none⟩ = false ∧ w.frozen? ⟨g,2,none⟩ = false :=
  ⟨Blk.cell h 0,Blk.cell h 1,Blk.cell h 2,Blk.frozen h 1,Blk.frozen h 2⟩
theorem Pd.drewN {w : World} {g : Nat} {A : Option Addr} {n c : Nat} {s : R.St} (h : Pd w g A n c s) (k : Nat) : Pd (w.drewN k) g A n c s:=h
set_option maxRecDepth 100000 in
set_option maxHeartbeats 800000 in
theorem pd_new2 (B : Nat) (A : Option Addr) (n c : Nat) (bs : List Nat) (w : World) (hr : Row byteV w B A n bs) (hn : n ≤ 1000000) (hB : B ≤ w.heap.size) :
    Calls Try.prog 32 #[.slice A n c] w fun e w' => ∃ g A1 c1,e = .returned (.pointer (some ⟨g,0,none⟩)) ∧ w.heap.size ≤ g ∧ Pd w' g A1 n c1 ⟨0,0,0⟩ ∧ Row byteV w' g A1 n bs ∧ n ≤ c1 ∧ c1 ≤ maxLen ∧ Below w.heap.size w w' ∧ ∀ ad,A1 = some ad → w.heap.size ≤ ad.block:=by
  have HR:=kp hr
  have hlen:=hr.len
  clear hr
  go_enter Try.func32,Try.ntmps32
  go_wp2_with (first
    | (go_at_call 58;go_must (refine (JM B A n c bs w HR.out hn hB).mono ?_);rintro e w1 ⟨v,rfl,hown,hb1⟩
       have HBk:=kp hown.block
       obtain ⟨A1,c1,rfl,hc1,hm1,hr1⟩:=Own.readsN hown hlen
       have HR1:=kp hr1;have HB1:=kp hb1;have HM1:=kp hm1
       have hs1:=hb1.size
       clear hown hr1 hb1 hm1)
    | ((with_reducible refine j6 rfl 127 (.tmp 5) rfl (pdC A1 n c1 ⟨0,0,0⟩) rfl ?_);intro g1 w2 hg1 hk1 hu1;have HK1:=kp hk1;have HU1:=kp hu1;clear hk1 hu1))
  go_ret
  exact ⟨g1,A1,c1,rfl,Nat.le_trans hs1 hg1,HK1.out,(HR1.out.below HU1.out).more hg1,hc1,HM1.out,HB1.out.trans (HU1.out.mono hs1),fun ad e => by subst e;exact (HBk.out ad.block rfl).1⟩
theorem pd_new (B : Nat) (A : Option Addr) (n c : Nat) (bs : List Nat) (w : World) (hr : Row byteV w B A n bs) (hn : n ≤ 1000000) (hB : B ≤ w.heap.size) :
    Calls Try.prog 32 #[.slice A n c] w fun e w' => ∃ g A1 c1,e = .returned (.pointer (some ⟨g,0,none⟩)) ∧ w.heap.size ≤ g ∧ Pd w' g A1 n c1 ⟨0,0,0⟩ ∧ Row byteV w' g A1 n bs ∧ n ≤ c1 ∧ c1 ≤ maxLen ∧ Below w.heap.size w w' :=
  (pd_new2 B A n c bs w hr hn hB).mono fun _ _ ⟨g,A1,c1,h1,h2,h3,h4,h5,h6,h7,_⟩ => ⟨g,A1,c1,h1,h2,h3,h4,h5,h6,h7⟩
set_option maxRecDepth 100000 in
set_option maxHeartbeats 800000 in
theorem LH (g : Nat) (A : Option Addr) (n c : Nat) (s : R.St) (w : World) (hk : Pd w g A n c s) (hat : s.at_ ≤ n) (hn : n ≤ 1000000) :
    Calls Try.prog 62 #[.pointer (some ⟨g,0,none⟩)] w fun e w' => e = .returned (.int .i64 ((n : Int) - (s.at_ : Int))) ∧ ∃ m,w' = w.drewN m:=by
  obtain ⟨hc0,hc1,hc2,hf1,hf2⟩:=hk.cells
  clear hk
  go_enter Try.func62,Try.ntmps62
  go_wp2
  go_quiet (fail)
  go_wp2
  go_ret
  exact ⟨rfl,_,rfl⟩
set_option maxRecDepth 100000 in
set_option maxHeartbeats 800000 in
theorem pd_refusal (g : Nat) (A : Option Addr) (n c : Nat) (s : R.St) (m : Int) (w : World) (hk : Pd w g A n c s) (hat : s.at_ ≤ n) (hn : n ≤ 1000000) (e : Nat) (he : (if m < 0 then 1 else if (n : Int) - (s.at_ : Int) < m then 2 else 0) = e) :
    Calls Try.prog 59 #[.pointer (some ⟨g,0,none⟩),.int .i64 m] w fun r w' => r = .returned (.int .i64 (e : Int)) ∧ ∃ k,w' = w.drewN k:=by
  have HK:=kp hk;have HE:=kp he
  clear hk he
  by_cases h0 : m < 0
  · have HE1 : Kept (1 = e):=kp <| by rw [← HE.out,if_pos h0]
    go_enter Try.func59,Try.ntmps59
    go_wp2
    go_ret
    exact ⟨lC (by rw [← HE1.out];rfl),0,rfl⟩
  · by_cases h1 : (n : Int) - (s.at_ : Int) < m
    · have HE1 : Kept (2 = e):=kp <| by rw [← HE.out,if_neg h0,if_pos h1]
      go_enter Try.func59,Try.ntmps59
      go_wp2_with (go_at_call 62;go_must (refine (LH g A n c s w HK.out hat hn).mono ?_);rintro e w1 ⟨rfl,k,rfl⟩)
      go_ret
      exact ⟨lC (by rw [← HE1.out];rfl),k,rfl⟩
    · have HE1 : Kept (0 = e):=kp <| by rw [← HE.out,if_neg h0,if_neg h1]
      go_enter Try.func59,Try.ntmps59
      go_wp2_with (go_at_call 62;go_must (refine (LH g A n c s w HK.out hat hn).mono ?_);rintro e w1 ⟨rfl,k,rfl⟩)
      go_ret
      exact ⟨lC (by rw [← HE1.out];rfl),k,rfl⟩
set_option maxRecDepth 100000 in
set_option maxHeartbeats 1600000 in
theorem Y0 (g B : Nat) (A : Option Addr) (n c : Nat) (bs : List Nat) (s : R.St) (hs : R.Ok bs s) (most : Int) (x : Nat) (s' : R.St) (hx : R.num bs s most = (x,s')) (w : World) (hk : Pd w g A n c s)
    (hr : Row byteV w B A n bs) (hb : ∀ x ∈ bs,x < 256) (hnc : n ≤ c) (hm : c ≤ maxLen) (hBg : B ≤ g) (hBw : B ≤ w.heap.size) :
    Calls Try.prog 61 #[.pointer (some ⟨g,0,none⟩),.int .i64 most] w fun r w' => r = .returned (.int .i64 (x : Int)) ∧ Pd w' g A n c s' ∧ w.grownBy w' (some g) ∧ Row byteV w' B A n bs:=by
  obtain ⟨hc0,hc1,hc2,hf1,hf2⟩:=hk.cells
  have HK:=kp hk;have HR:=kp hr;have HB:=kp hb;have HS:=kp hs
  have hlen:=hr.len
  have hat:=hs.1
  have hgs:=hk.lt
  have HX:=kp hx
  have HM:=kp hm
  unfold maxLen at hm
  clear hk hr hb hs hx
  by_cases h : s.why = 0
  · have hz : ((s.why : Int) != 0) = false:=by simp;omega
    obtain ⟨y,hy⟩ : ∃ y,(V.get (bs.drop s.at_)).1 = y:=⟨_,rfl⟩
    obtain ⟨u,hu⟩ : ∃ y,(V.get (bs.drop s.at_)).2.1 = y:=⟨_,rfl⟩
    obtain ⟨e,he⟩ : ∃ y,(V.get (bs.drop s.at_)).2.2 = y:=⟨_,rfl⟩
    have hbd : ∀ x ∈ bs.drop s.at_,x < 256:=fun x hx => HB.out x (List.mem_of_mem_drop hx)
    obtain ⟨hy1,hu1,he1⟩:=V.get_small (bs.drop s.at_) hbd
    rw [hy] at hy1;rw [hu] at hu1;rw [he] at he1
    have HBD:=kp hbd
    have HG : Kept (V.get (bs.drop s.at_) = (y,u,e)):=kp <| by rw [← hy,← hu,← he]
    have HNum : Kept ((if e = 0 then if most < (y : Int) then (0,R.fail s 4) else (y,⟨s.at_ + u,s.wh,0⟩) else (0,R.fail s e)) = (x,s')):=kp <| by
      rw [← HX.out];unfold R.num;rw [if_pos h,he,hy,hu]
    have HCut:=kp (HR.out.cutOpt (l:=s.at_) (c:=c) (by omega) hnc)
    have HGet : Kept (∀ W : World,Row byteV W B (if c = s.at_ then A else A.map (·.add s.at_)) (n - s.at_) (bs.drop s.at_) → Calls Try.prog 83 #[.slice (if c = s.at_ then A else A.map (·.add s.at_)) (n - s.at_) (c - s.at_)] W fun r w' => r = .returned (.tuple #[.int .u32 (y : Int),.int .i64 (u : Int),.int .i64 (e : Int)]) ∧ W = w'):=kp <| fun W hW => by
      have:=get_any B _ (n - s.at_) (c - s.at_) (bs.drop s.at_) W hW HBD.out (by unfold maxLen;omega)
      rw [HG.out] at this
      exact this
    obtain ⟨at_,wh,why⟩:=s
    simp only at *
    have HFl : Kept (∀ k,R.fail ⟨at_,wh,why⟩ k = ⟨at_,at_,k⟩):=kp fun k => by unfold R.fail;rw [if_pos h]
    have HW0 : Kept (why = 0):=kp h
    clear hbd hy hu he h
    have hatn : at_ ≤ n:=by omega
    by_cases h0 : e = 0
    · have hze : ((e : Int) != 0) = false:=by simp;omega
      have hze2 : ((e : Int) == 0) = true:=by simp;omega
      have hau : at_ + u ≤ n:=by
        have h1:=(V.get_once (bs.drop at_) HBD.out (by rw [HG.out];exact h0)).2.2
        rw [HG.out,List.length_drop] at h1
        simp only at h1
        omega
      have hm9 : c ≤ 9223372036854775807:=by omega
      by_cases hmo : most < (y : Int)
      · have HE:=kp ((show (if e = 0 then if most < (y : Int) then ((0 : Nat),R.fail (⟨at_,wh,why⟩ : R.St) 4) else (y,⟨at_ + u,wh,0⟩) else (0,R.fail ⟨at_,wh,why⟩ e)) = (0,⟨at_,at_,4⟩) by rw [if_pos h0,if_pos hmo,HFl.out]).symm.trans HNum.out)
        go_enter Try.func61,Try.ntmps61
        go_wp2
        go_quiet ((go_at_call 83;exact x7 (HGet.out _ (HCut.out.drewN _))))
        generalize (if c = at_ then A else A.map (·.add at_)) = A2
        go_wp2
        go_ret
        have h1:=HE.out
        cases h1
        exact ⟨rfl,HK.out.set 2 _,jN (lV (jK _ _) _),(HR.out.drewN _).turned (jN (jK _ _)) hBw hBg⟩
      · have HE:=kp ((show (if e = 0 then if most < (y : Int) then ((0 : Nat),R.fail (⟨at_,wh,why⟩ : R.St) 4) else (y,⟨at_ + u,wh,0⟩) else (0,R.fail ⟨at_,wh,why⟩ e)) = (y,⟨at_ + u,wh,0⟩) by rw [if_pos h0,if_neg hmo]).symm.trans HNum.out)
        go_enter Try.func61,Try.ntmps61
        go_wp2
        go_quiet ((go_at_call 83;exact x7 (HGet.out _ (HCut.out.drewN _))))
        generalize (if c = at_ then A else A.map (·.add at_)) = A2
        go_wp2
        go_ret
        have h1:=HE.out
        cases h1
        have hset:=HK.out.set 1 (.int .i64 ((at_ + u : Nat) : Int))
        refine ⟨rfl,?_,jN (lV (jK _ _) _),(HR.out.drewN nq).turned (jN (jK _ _)) hBw hBg⟩
        have hw0:=HW0.out
        subst hw0
        exact hset
    · have hze : ((e : Int) != 0) = true:=by simp;omega
      have hze2 : ((e : Int) == 0) = false:=by simp;omega
      have HE:=kp ((show (if e = 0 then if most < (y : Int) then ((0 : Nat),R.fail (⟨at_,wh,why⟩ : R.St) 4) else (y,⟨at_ + u,wh,0⟩) else (0,R.fail ⟨at_,wh,why⟩ e)) = (0,⟨at_,at_,e⟩) by rw [if_neg h0,HFl.out]).symm.trans HNum.out)
      go_enter Try.func61,Try.ntmps61
      go_wp2
      go_quiet ((go_at_call 83;exact x7 (HGet.out _ (HCut.out.drewN _))))
      generalize (if c = at_ then A else A.map (·.add at_)) = A2
      go_wp2
      go_ret
      have h1:=HE.out
      cases h1
      exact ⟨rfl,HK.out.set 2 _,jN (lV (jK _ _) _),(HR.out.drewN _).turned (jN (jK _ _)) hBw hBg⟩
  · have hz : ((s.why : Int) != 0) = true:=by simp;omega
    have HE : Kept ((0,s) = (x,s')):=kp <| by rw [← HX.out,R.num_why h]
    clear h
    go_enter Try.func61,Try.ntmps61
    go_wp2
    go_ret
    have h1:=HE.out
    cases h1
    exact ⟨rfl,HK.out,jK _ _,HR.out⟩
def R.Fit (s : R.St) : Prop:=s.wh = if s.why = 0 then 0 else s.at_
theorem R.fail_fit {s : R.St} (h : R.Fit s) {e : Nat} (he : e ≠ 0) : R.Fit (R.fail s e):=by
  unfold R.fail
  by_cases h0 : s.why = 0
  · rw [if_pos h0]
    show s.at_ = if e = 0 then 0 else s.at_
    rw [if_neg he]
  · rw [if_neg h0];exact h
theorem R.num_fit (bs : List Nat) {s : R.St} (h : R.Fit s) (most : Int) : R.Fit (R.num bs s most).2:=by
  unfold R.num
  split
  · rename_i h0
    split
    · split
      · exact R.fail_fit h (by decide)
      · unfold R.Fit at *
        rw [if_pos h0] at h
        exact h
    · rename_i h1
      exact R.fail_fit h h1
  · exact h
theorem R.raw_fit (bs : List Nat) {s : R.St} (h : R.Fit s) (n : Int) : R.Fit (R.raw bs s n).2:=by
  unfold R.raw
  split
  · rename_i h0
    split
    · exact R.fail_fit h (by decide)
    · split
      · exact R.fail_fit h (by decide)
      · unfold R.Fit at *
        rw [if_pos h0] at h
        exact h
  · exact h
theorem lY : (Try.prog.info? 35).map (·.zero) = some (some (.agg [Value.int .i64 0,Value.int .i64 0].toArray)):=by kernel_rfl
theorem jR : (Try.prog.info? 35).map (·.size) = some 2:=by kernel_rfl
theorem lA (x y : Int) : ∀ u ∈ [Value.int .i64 x,Value.int .i64 y],u.oneCell' = true:=by
  intro u hu
  simp only [List.mem_cons,List.not_mem_nil,or_false] at hu
  rcases hu with h | h <;> subst h <;> rfl
set_option maxRecDepth 100000 in
set_option maxHeartbeats 800000 in
theorem pd_fault (g : Nat) (A : Option Addr) (n c : Nat) (s : R.St) (hf : R.Fit s) (w : World) (hk : Pd w g A n c s) :
    Calls Try.prog 36 #[.pointer (some ⟨g,0,none⟩)] w fun r w' => r = .returned (.agg #[.int .i64 (s.wh : Int),.int .i64 (s.why : Int)]) ∧ Below w.heap.size w w':=by
  have HK:=kp hk;have HF:=kp hf
  have hg:=hk.lt
  clear hk hf
  by_cases h : s.why = 0
  · have hz : ((s.why : Int) == 0) = true:=by simp;omega
    have HR : Kept (s.wh = 0 ∧ s.why = 0):=kp ⟨by have:=HF.out;unfold R.Fit at this;rw [if_pos h] at this;exact this,h⟩
    clear h
    go_enter Try.func36,Try.ntmps36
    go_wp2_with (first
      | ((with_reducible show Sl 2);go_must (refine j7 rfl 35 rfl _ lY ?_);intro g1 w1 hg1 hk1 hw1
         obtain ⟨hc0,hc1,hc2,hf1,hf2⟩:=Pd.cells (s:=s) (w:=w1) (Blk.below HK.out hw1 hg)
         have HK1:=kp hk1;have HW1:=kp hw1;clear hk1 hw1)
      | ((with_reducible show Sn);go_must (refine j5 rfl 35 (.tmp 2) (.tmp 8) rfl g1 [.int .i64 0,.int .i64 0] rfl rfl _ _ HK1.out jR rfl (lA 0 0) ?_);intro w2 hk2 hw2 hz2;have HK2:=kp hk2;have HW2:=kp hw2;clear hk2 hw2 hz2))
    refine bodyPost_ret (jP (P:=Try.prog) (fn:=Try.f36) rfl _ _ g1 35 _ _ rfl HK2.out Try.underlying35 rfl jR) rfl ⟨?_,?_⟩
    · rw [HR.out.1,HR.out.2];rfl
    · exact HW1.out.grown HW2.out HW1.out.size (by intro k e;cases e;exact hg1)
  · have hz : ((s.why : Int) == 0) = false:=by simp;omega
    have HR : Kept (s.wh = s.at_):=kp (by have:=HF.out;unfold R.Fit at this;rw [if_neg h] at this;exact this)
    clear h
    go_enter Try.func36,Try.ntmps36
    go_wp2_with (first
      | ((with_reducible show Sl 2);go_must (refine j7 rfl 35 rfl _ lY ?_);intro g1 w1 hg1 hk1 hw1
         have HP1 : Kept (Pd w1 g A n c s):=kp (Blk.below HK.out hw1 hg)
         obtain ⟨hc0,hc1,hc2,hf1,hf2⟩:=HP1.out.cells
         have hg2:=hk1.lt
         have HK1:=kp hk1;have HW1:=kp hw1;clear hk1 hw1))
    apply jH 9 (.is _ :: .is _ :: .is _ :: .is _ :: .is _ :: .is _ :: .is _ :: .is _ :: .is _ :: [])
      [[],[(0,9)],[(1,10)],[(2,11)],[],[(4,13)],[(5,14)],[(6,15)],[(3,12),(7,16)],[(8,17)]]
      [(0,9),(1,10),(2,11),(3,12),(4,13),(5,14),(6,15),(7,16),(8,17)] (by kernel_rfl) (by kernel_rfl) (by kernel_rfl) (by kernel_rfl) (by kernel_rfl)
    case hob =>
      refine ⟨?o0,?o1,?o2,?o3,?o4,?o5,?o6,?o7,?o8,trivial⟩
      case o0 => intro W hW;change wpList _ _ _ _ _ _;go_wp2;exact j0 rfl rfl rfl
      case o1 => intro W hW;rintro _ rfl;change wpList _ _ _ _ _ _;go_wp2;exact j0 rfl rfl rfl
      case o2 => intro W hW;rintro _ rfl;change wpList _ _ _ _ _ _;go_wp2;exact j0 rfl rfl rfl
      case o3 =>
        intro W hW;rintro _ rfl;change wpList _ _ _ _ _ _
        have hd : W.cell? ⟨g,1,none⟩ = some (.int .i64 (s.at_ : Int)):=(Blk.below HP1.out hW HP1.out.lt).cell 1
        go_wp2;exact j0 rfl rfl rfl
      case o4 => intro W hW;change wpList _ _ _ _ _ _;go_wp2;exact j0 rfl rfl rfl
      case o5 => intro W hW;rintro _ rfl;change wpList _ _ _ _ _ _;go_wp2;exact j0 rfl rfl rfl
      case o6 => intro W hW;rintro _ rfl;change wpList _ _ _ _ _ _;go_wp2;exact j0 rfl rfl rfl
      case o7 =>
        intro W hW;rintro _ rfl;change wpList _ _ _ _ _ _
        have hd : W.cell? ⟨g,2,none⟩ = some (.int .i64 (s.why : Int)):=(Blk.below HP1.out hW HP1.out.lt).cell 2
        go_wp2;exact j0 rfl rfl rfl
      case o8 => intro W hW;rintro _ rfl;rintro _ rfl;change wpList _ _ _ _ _ _;go_wp2;exact j0 rfl rfl rfl
    case hend =>
      intro W hW;rintro _ rfl;rintro _ rfl;rintro _ rfl;rintro _ rfl;rintro _ rfl;rintro _ rfl;rintro _ rfl;rintro _ rfl;rintro _ rfl
      simp only [given,jJ,List.set,List.drop]
      have HKW:=kp (HK1.out.below hW hg2)
      have HW:=kp hW
      clear hW
      go_wp2_with (first
        | ((with_reducible show Sn);go_must (refine j5 rfl 35 (.tmp 2) (.tmp 17) rfl g1 [.int .i64 (s.at_ : Int),.int .i64 (s.why : Int)] rfl rfl _ _ HKW.out jR rfl (lA _ _) ?_);intro w2 hk2 hw2 hz2;have HK2:=kp hk2;have HW2:=kp hw2;clear hk2 hw2 hz2))
      refine bodyPost_ret (jP (P:=Try.prog) (fn:=Try.f36) rfl _ _ g1 35 _ _ rfl HK2.out Try.underlying35 rfl jR) rfl ⟨?_,?_⟩
      · rw [HR.out]
      · have h2:=HW1.out.trans (HW.out.mono HW1.out.size)
        exact h2.grown HW2.out h2.size (by intro k e;cases e;exact hg1)
set_option maxRecDepth 100000 in
set_option maxHeartbeats 1600000 in
theorem pd_raw (g B : Nat) (A : Option Addr) (n c : Nat) (bs : List Nat) (s : R.St) (hs : R.Ok bs s) (m : Int) (out : List Nat) (s' : R.St) (hx : R.raw bs s m = (out,s')) (w : World) (hk : Pd w g A n c s)
    (hr : Row byteV w B A n bs) (hn : n ≤ 1000000) (hnc : n ≤ c) (hBg : B ≤ g) (hBw : B ≤ w.heap.size) :
    Calls Try.prog 33 #[.pointer (some ⟨g,0,none⟩),.int .i64 m] w fun r w' => ∃ v,r = .returned v ∧ Own w' w.heap.size 5 v (out.map byteV) ∧ Pd w' g A n c s' ∧ w.grownBy w' (some g) ∧ Row byteV w' B A n bs:=by
  obtain ⟨hc0,hc1,hc2,hf1,hf2⟩:=hk.cells
  have HK:=kp hk;have HR:=kp hr
  have hlen:=hr.len
  have hat:=hs.1
  have hgs:=hk.lt
  have HX:=kp hx
  clear hk hr hs hx
  obtain ⟨at_,wh,why⟩:=s
  simp only at *
  have hatn : at_ ≤ n:=by omega
  by_cases h : why = 0
  · have hz : ((why : Int) == 0) = true:=by simp;omega
    have HW0:=kp h
    obtain ⟨e,he⟩ : ∃ e,(if m < 0 then 1 else if (n : Int) - (at_ : Int) < m then 2 else 0) = e:=⟨_,rfl⟩
    have HRef : Kept (∀ W,Pd W g A n c ⟨at_,wh,why⟩ → Calls Try.prog 59 #[.pointer (some ⟨g,0,none⟩),.int .i64 m] W fun r w' => r = .returned (.int .i64 (e : Int)) ∧ ∃ k,w' = W.drewN k):=kp fun W hW => pd_refusal g A n c ⟨at_,wh,why⟩ m W hW hatn hn e he
    by_cases he0 : e = 0
    · subst he0
      have hmn : ¬ m < 0:=by intro h1;rw [if_pos h1] at he;cases he
      have hml : ¬ (n : Int) - (at_ : Int) < m:=by intro h1;rw [if_neg hmn,if_pos h1] at he;cases he
      obtain ⟨k,rfl⟩ : ∃ k : Nat,m = (k : Int):=⟨m.toNat,by omega⟩
      have HE : Kept (((bs.drop at_).take k,⟨at_ + k,wh,0⟩) = (out,s')):=kp <| by rw [← HX.out];unfold R.raw;rw [if_pos h,if_neg hmn,if_neg (by show ¬ (bs.length : Int) - (at_ : Int) < (k : Int);omega)];rfl
      have hak : at_ + k ≤ n:=by omega
      obtain ⟨q,hq⟩ : ∃ q,(bs.drop at_).take k = q:=⟨_,rfl⟩
      have hql : q.length ≤ 1000000:=by rw [← hq,List.length_take];omega
      rw [hq] at HE
      have HQ:=kp hq
      clear h hmn hml he hq
      go_enter Try.func33,Try.ntmps33
      go_wp2_with (first
        | (go_at_call 59;go_must (refine (HRef.out w HK.out).mono ?_);rintro r w1 ⟨rfl,j,hw1⟩
           have HK1 : Kept (Pd w1 g A n c ⟨at_,wh,why⟩):=kp (by rw [hw1];exact HK.out)
           have HG1 : Kept (w.grownBy w1 (some g)):=kp (by rw [hw1];exact lV (jK _ _) _)
           have HR1 : Kept (Row byteV w1 B A n bs):=kp (by rw [hw1];exact HR.out.drewN _)
           have hz1 : w1.heap.size = w.heap.size:=by rw [hw1];rfl
           obtain ⟨hd0,hd1,hd2,he1,he2⟩:=HK1.out.cells
           clear hw1 hc0 hc1 hc2 hf1 hf2))
      rw [show (at_ : Int) + (k : Int) = ((at_ + k : Nat) : Int) by omega]
      have HK5 : Kept (Pd ((w1.setCell ⟨g,2,none⟩ (.int .i64 0)).setCell ⟨g,1,none⟩ (.int .i64 ((at_ + k : Nat) : Int))) g A n c ⟨at_ + k,wh,0⟩):=kp ((HK1.out.set 2 (.int .i64 0)).set 1 _)
      have HG5 : Kept (w.grownBy ((w1.setCell ⟨g,2,none⟩ (.int .i64 0)).setCell ⟨g,1,none⟩ (.int .i64 ((at_ + k : Nat) : Int))) (some g)):=kp (jN (jN HG1.out))
      have HR5 : Kept (Row byteV ((w1.setCell ⟨g,2,none⟩ (.int .i64 0)).setCell ⟨g,1,none⟩ (.int .i64 ((at_ + k : Nat) : Int))) B A n bs):=kp (HR1.out.turned (jN (jN (jK _ _))) (by omega) hBg)
      have hz5 : ((w1.setCell ⟨g,2,none⟩ (.int .i64 0)).setCell ⟨g,1,none⟩ (.int .i64 ((at_ + k : Nat) : Int))).heap.size = w.heap.size:=by simp [hz1]
      generalize (w1.setCell ⟨g,2,none⟩ (.int .i64 0)).setCell ⟨g,1,none⟩ (.int .i64 ((at_ + k : Nat) : Int)) = w5 at *
      clear hd0 hd1 hd2 he1 he2
      apply jH 10 (.is _ :: .is _ :: .is _ :: .is _ :: .is _ :: .is _ :: .is _ :: .is _ :: .is _ :: .bytes q :: [])
        [[],[(0,34)],[(1,35)],[(2,36)],[],[],[(5,39)],[(6,40)],[(7,41)],[(3,37),(4,38),(8,42)],[(9,43)],[(10,44)]]
        [(0,34),(1,35),(2,36),(3,37),(4,38),(5,39),(6,40),(7,41),(8,42),(9,43)] (by kernel_rfl) (by kernel_rfl) (by kernel_rfl) (by kernel_rfl) (by kernel_rfl)
      case hob =>
        refine ⟨?o0,?o1,?o2,?o3,?o4,?o5,?o6,?o7,?o8,?o9,trivial⟩
        case o0 => intro W hW;change wpList _ _ _ _ _ _;go_wp2;exact j0 rfl rfl rfl
        case o1 => intro W hW;rintro _ rfl;change wpList _ _ _ _ _ _;go_wp2;exact j0 rfl rfl rfl
        case o2 => intro W hW;rintro _ rfl;change wpList _ _ _ _ _ _;go_wp2;exact j0 rfl rfl rfl
        case o3 =>
          intro W hW;rintro _ rfl;change wpList _ _ _ _ _ _
          have hd : W.cell? ⟨g,0,none⟩ = some (.slice A n c):=(Blk.below HK5.out hW HK5.out.lt).cell 0
          go_wp2;exact j0 rfl rfl rfl
        case o4 => intro W hW;change wpList _ _ _ _ _ _;go_wp2;exact j0 rfl rfl rfl
        case o5 => intro W hW;change wpList _ _ _ _ _ _;go_wp2;exact j0 rfl rfl rfl
        case o6 => intro W hW;rintro _ rfl;change wpList _ _ _ _ _ _;go_wp2;exact j0 rfl rfl rfl
        case o7 => intro W hW;rintro _ rfl;change wpList _ _ _ _ _ _;go_wp2;exact j0 rfl rfl rfl
        case o8 =>
          intro W hW;rintro _ rfl;change wpList _ _ _ _ _ _
          have hd : W.cell? ⟨g,1,none⟩ = some (.int .i64 ((at_ + k : Nat) : Int)):=(Blk.below HK5.out hW HK5.out.lt).cell 1
          go_wp2;exact j0 rfl rfl rfl
        case o9 =>
          intro W hW;rintro _ rfl;rintro _ rfl;rintro _ rfl;change wpList _ _ _ _ _ _
          have HRW:=kp (HR5.out.below (hW.mono (by omega)))
          have hzW:=hW.size
          refine uJ rfl 26 (.tmp 37) (.tmp 38) (.tmp 42) rfl 5 Try.underlying26 size1b A n c rfl .i64 .i64 at_ (at_ + k) rfl rfl (by omega) hak hnc ?_
          intro A2 hin hrow
          have hr2:=hrow byteV W B bs HRW.out
          rw [List.drop_take,show at_ + k - at_ = k by omega,HQ.out] at hr2
          rw [show at_ + k - at_ = k by omega]
          have HR2:=kp hr2
          clear hrow hr2 hin
          go_wp2
          refine jG rfl rfl rfl (Below.refl _ _) ⟨A2,c - at_,?_,?_⟩
          · rw [HR2.out.len]
          · rw [HR2.out.len];exact HR2.out.more (by omega)
      case hend =>
        intro W hW;rintro _ rfl;rintro _ rfl;rintro _ rfl;rintro _ rfl;rintro _ rfl;rintro _ rfl;rintro _ rfl;rintro _ rfl;rintro _ rfl;rintro _ ⟨A9,c9,rfl,hr9⟩
        simp only [given,jJ,List.set,List.drop]
        have HKW : Kept (Pd W g A n c ⟨at_ + k,wh,0⟩):=kp (Blk.below HK5.out hW HK5.out.lt)
        have HRW:=kp (HR5.out.below (hW.mono (by omega)))
        have HGW:=kp (zV HG5.out hW)
        have hzW:=hW.size
        have HR9:=kp hr9
        clear hW hr9
        go_wp2_with (go_at_call 58;go_must (refine (JM _ A9 _ c9 _ W HR9.out hql (Nat.le_refl _)).mono ?_);rintro e2 w7 ⟨v7,rfl,hown7,hb7⟩;have HO7:=kp hown7;have HB7:=kp hb7;clear hown7 hb7)
        go_ret
        have h1:=HE.out
        cases h1
        exact ⟨_,rfl,HO7.out.less (by omega),Blk.below HKW.out HB7.out HKW.out.lt,zV HGW.out HB7.out,HRW.out.below (HB7.out.mono (by omega))⟩
    · have HE : Kept (([],⟨at_,at_,e⟩) = (out,s')):=kp <| by
        rw [← HX.out]
        unfold R.raw R.fail
        rw [if_pos h]
        by_cases hmn : m < 0
        · rw [if_pos hmn] at he ⊢
          rw [← he]
          rw [if_pos h]
        · rw [if_neg hmn] at he ⊢
          by_cases hml : (n : Int) - (at_ : Int) < m
          · rw [if_pos hml] at he
            rw [if_pos (show (bs.length : Int) - (at_ : Int) < m by omega),if_pos h,← he]
          · rw [if_neg hml] at he
            exact absurd he.symm he0
      have hez : ((e : Int) != 0) = true:=by simp;omega
      clear h he he0
      go_enter Try.func33,Try.ntmps33
      go_wp2_with (first
        | (go_at_call 59;go_must (refine (HRef.out w HK.out).mono ?_);rintro r w1 ⟨rfl,j,hw1⟩
           have HK1 : Kept (Pd w1 g A n c ⟨at_,wh,why⟩):=kp (by rw [hw1];exact HK.out)
           have HG1 : Kept (w.grownBy w1 (some g)):=kp (by rw [hw1];exact lV (jK _ _) _)
           have HR1 : Kept (Row byteV w1 B A n bs):=kp (by rw [hw1];exact HR.out.drewN _)
           have hz1 : w1.heap.size = w.heap.size:=by rw [hw1];rfl
           obtain ⟨hd0,hd1,hd2,he1,he2⟩:=HK1.out.cells
           clear hw1 hc0 hc1 hc2 hf1 hf2))
      go_ret
      have h1:=HE.out
      cases h1
      exact ⟨_,rfl,Own.nil _ _ _,HK1.out.set 2 _,jN HG1.out,HR1.out.turned (jN (jK _ _)) (by omega) hBg⟩
  · have hz : ((why : Int) == 0) = false:=by simp;omega
    have hz2 : ((why : Int) != 0) = true:=by simp;omega
    have HE : Kept (([],⟨at_,wh,why⟩) = (out,s')):=kp <| by rw [← HX.out];unfold R.raw;rw [if_neg h]
    clear h
    go_enter Try.func33,Try.ntmps33
    go_wp2
    go_ret
    have h1:=HE.out
    cases h1
    exact ⟨_,rfl,Own.nil _ _ _,HK.out,jK _ _,HR.out⟩
end Go.Proofs.Ytcbfghcdbmlneaa
namespace Go.Proofs.Ytcbfghcdbmlneaa.Q
def small (p : Pg) : Bool:=decide (p.fns.length ≤ 40) && p.fns.all fun f => decide (f.nodes.length ≤ 100)
def rows : List (List Nat):=[[45,110,45],[103,110,45],[103,110,45],[108,110,45],[108,110,45],[102,110,115],[115,110,45],[102,110,45],[45,110,110],[45,45,45]]
def row (k : Int) : List Nat:=if k < 0 ∨ 9 < k then [] else rows.getD k.toNat []
def size (g l s f : Int) (c : Nat) (nodes : Int) : Int:=if c = 103 then g else if c = 108 then l else if c = 115 then s else if c = 102 then f else if c = 110 then max nodes 1 else 1
def fields (x : Nd) : List Int:=[x.arg,x.next,x.alt]
def may (g l s f : Int) (x : Nd) (nodes : Int) : Bool:=decide (row x.kind ≠ []) && (List.range 3).all fun i => decide (0 ≤ (fields x).getD i 0 ∧ (fields x).getD i 0 < size g l s f ((row x.kind).getD i 0) nodes)
def succ (x : Nd) : List Int:=if x.kind = 9 then [] else if x.kind = 8 then [x.next,x.alt] else [x.next]
def calls (p : Pg) (x y : Nat) : Prop:=∃ f,p.fns[x]? = some f ∧ ∃ nd ∈ f.nodes,nd.kind = 7 ∧ nd.arg = (y : Int)
def callsTo (l : List Nd) (y : Nat) : Prop:=∃ nd ∈ l,nd.kind = 7 ∧ nd.arg = (y : Int)
def CallsFit (p : Pg) : Prop:=∀ f ∈ p.fns,∀ nd ∈ f.nodes,nd.kind = 7 → 0 ≤ nd.arg ∧ nd.arg < p.len
def Same (p q : Pg) : Prop:=p.g = q.g ∧ p.l = q.l ∧ p.s = q.s ∧ p.fns.map (·.nodes) = q.fns.map (·.nodes)
theorem Same.len {p q : Pg} (h : Same p q) : p.fns.length = q.fns.length:=by have:=congrArg List.length h.2.2.2;simpa using this
end Go.Proofs.Ytcbfghcdbmlneaa.Q
namespace Go.Proofs.Ytcbfghcdbmlneaa.Q
inductive Reach (R : Nat → Nat → Prop) (n : Nat) : Nat → Nat → Prop
  | one {x y : Nat} : R x y → Reach R n x y
  | more {x j y : Nat} : R x j → j < n → Reach R n j y → Reach R n x y
theorem Reach.trans {R : Nat → Nat → Prop} {n x j y : Nat} (h : Reach R n x j) (hj : j < n) (k : Reach R n j y) : Reach R n x y:=by
  induction h with
  | one h => exact .more h hj k
  | more h hl _ ih => exact .more h hl (ih hj k)
def Via (R : Nat → Nat → Prop) : Nat → Nat → Nat → Prop
  | 0 => R
  | k + 1 => fun x y => Via R k x y ∨ (Via R k x k ∧ Via R k k y)
theorem LQ {R : Nat → Nat → Prop} {x y : Nat} (h : R x y) : ∀ k,Via R k x y
  | 0 => h
  | k + 1 => .inl (LQ h k)
theorem vH {R : Nat → Nat → Prop} : ∀ (k j x y : Nat),j < k → Via R k x j → Via R k j y → Via R k x y
  | 0,j,_,_,hj,_,_ => by omega
  | k + 1,j,x,y,hj,h1,h2 => by
    rcases Nat.lt_or_ge j k with hlt | hge
    · rcases h1 with h1 | ⟨h1,h1'⟩
      · rcases h2 with h2 | ⟨h2,h2'⟩
        · exact .inl (vH k j x y hlt h1 h2)
        · exact .inr ⟨vH k j x k hlt h1 h2,h2'⟩
      · rcases h2 with h2 | ⟨_,h2'⟩
        · exact .inr ⟨h1,vH k j k y hlt h1' h2⟩
        · exact .inr ⟨h1,h2'⟩
    · have e : j = k:=by omega
      subst e
      have a : Via R j x j:=by rcases h1 with h1 | ⟨h1,_⟩ <;> exact h1
      have b : Via R j j y:=by rcases h2 with h2 | ⟨_,h2⟩ <;> exact h2
      exact .inr ⟨a,b⟩
theorem X4 {R : Nat → Nat → Prop} {n x y : Nat} (h : Reach R n x y) : Via R n x y:=by
  induction h with
  | one h => exact LQ h n
  | more h hj _ ih => exact vH n _ _ _ hj (LQ h n) ih
def mget (M : List (List Nat)) (a b : Nat) : Nat:=(M.getD a []).getD b 0
def mset (M : List (List Nat)) (a b : Nat) : List (List Nat):=M.set a ((M.getD a []).set b 1)
def Square (n : Nat) (M : List (List Nat)) : Prop:=M.length = n ∧ ∀ r ∈ M,r.length = n
theorem Square.row {n : Nat} {M : List (List Nat)} (h : Square n M) {a : Nat} (ha : a < n) : ∃ r,M[a]? = some r ∧ r.length = n ∧ M.getD a [] = r:=by
  have hl : a < M.length:=by rw [h.1];exact ha
  exact ⟨M[a],List.getElem?_eq_getElem hl,h.2 _ (List.getElem_mem hl),by rw [List.getD_eq_getElem?_getD,List.getElem?_eq_getElem hl];rfl⟩
theorem mset_square {n : Nat} {M : List (List Nat)} (h : Square n M) {a b : Nat} (ha : a < n) : Square n (mset M a b):=by
  obtain ⟨r,_,hr,e⟩:=h.row ha
  refine ⟨by unfold mset;rw [List.length_set];exact h.1,fun x hx => ?_⟩
  unfold mset at hx
  rcases List.mem_or_eq_of_mem_set hx with hx | hx
  · exact h.2 x hx
  · rw [hx,List.length_set,e,hr]
theorem JJ {n : Nat} {M : List (List Nat)} (h : Square n M) {a b : Nat} (ha : a < n) (hb : b < n) (x y : Nat) : mget (mset M a b) x y = if x = a ∧ y = b then 1 else mget M x y:=by
  obtain ⟨r,hra,hr,e⟩:=h.row ha
  have hl : a < M.length:=by rw [h.1];exact ha
  unfold mget mset
  rw [e]
  by_cases hx : x = a
  · subst hx
    have h1 : (M.set x (r.set b 1)).getD x [] = r.set b 1:=by rw [List.getD_eq_getElem?_getD,List.getElem?_set_self hl];rfl
    rw [h1,e]
    by_cases hy : y = b
    · subst hy
      rw [if_pos ⟨rfl,rfl⟩,List.getD_eq_getElem?_getD,List.getElem?_set_self (by rw [hr];exact hb)]
      rfl
    · rw [if_neg (by intro h;exact hy h.2),List.getD_eq_getElem?_getD,List.getElem?_set_ne (by omega),← List.getD_eq_getElem?_getD]
  · have h2 : (M.set a (r.set b 1)).getD x [] = M.getD x []:=by rw [List.getD_eq_getElem?_getD,List.getElem?_set_ne (by omega),← List.getD_eq_getElem?_getD]
    rw [if_neg (by intro h;exact hx h.1),h2]
structure Closing (R : Nat → Nat → Prop) (n k a b : Nat) (M : List (List Nat)) : Prop where
  sq : Square n M
  sound : ∀ x y,x < n → y < n → mget M x y = 1 → Reach R n x y
  base : ∀ x y,x < n → y < n → Via R k x y → mget M x y = 1
  done : ∀ x y,x < n → y < n → (x < a ∨ (x = a ∧ y < b)) → Via R k x k → Via R k k y → mget M x y = 1
theorem Closing.set {R : Nat → Nat → Prop} {n k a b : Nat} {M : List (List Nat)} (h : Closing R n k a b M) (hk : k < n) (ha : a < n) (hb : b < n) (h1 : mget M a k = 1) (h2 : mget M k b = 1) : Closing R n k a (b + 1) (mset M a b):=by
  refine ⟨mset_square h.sq ha,fun x y hx hy e => ?_,fun x y hx hy v => ?_,fun x y hx hy hlt v1 v2 => ?_⟩
  · rw [JJ h.sq ha hb] at e
    split at e
    · rename_i hxy
      rw [hxy.1,hxy.2]
      exact (h.sound a k ha hk h1).trans hk (h.sound k b hk hb h2)
    · exact h.sound x y hx hy e
  · rw [JJ h.sq ha hb]
    split
    · rfl
    · exact h.base x y hx hy v
  · rw [JJ h.sq ha hb]
    split
    · rfl
    · rename_i hxy
      exact h.done x y hx hy (by omega) v1 v2
theorem Closing.skip {R : Nat → Nat → Prop} {n k a b : Nat} {M : List (List Nat)} (h : Closing R n k a b M) (hk : k < n) (h1 : ¬ (mget M a k = 1 ∧ mget M k b = 1)) : Closing R n k a (b + 1) M:=by
  refine ⟨h.sq,h.sound,h.base,fun x y hx hy hlt v1 v2 => ?_⟩
  by_cases e : x = a ∧ y = b
  · exfalso
    obtain ⟨rfl,rfl⟩:=e
    exact h1 ⟨h.base x k hx hk v1,h.base k y hk hy v2⟩
  · exact h.done x y hx hy (by omega) v1 v2
theorem Closing.line {R : Nat → Nat → Prop} {n k a : Nat} {M : List (List Nat)} (h : Closing R n k a n M) : Closing R n k (a + 1) 0 M :=
  ⟨h.sq,h.sound,h.base,fun x y hx hy _ v1 v2 => h.done x y hx hy (by omega) v1 v2⟩
theorem Closing.round {R : Nat → Nat → Prop} {n k : Nat} {M : List (List Nat)} (h : Closing R n k n 0 M) : Closing R n (k + 1) 0 0 M :=
  ⟨h.sq,h.sound,fun x y hx hy v => by
    rcases v with v | ⟨v1,v2⟩
    · exact h.base x y hx hy v
    · exact h.done x y hx hy (by omega) v1 v2,fun x y _ _ hlt _ _ => by omega⟩
theorem Closing.end_ {R : Nat → Nat → Prop} {n : Nat} {M : List (List Nat)} (h : Closing R n n 0 0 M) (x y : Nat) (hx : x < n) (hy : y < n) : mget M x y = 1 ↔ Reach R n x y :=
  ⟨h.sound x y hx hy,fun r => h.base x y hx hy (X4 r)⟩
theorem Closing.start {R : Nat → Nat → Prop} {n : Nat} {M : List (List Nat)} (hs : Square n M) (h : ∀ x y,x < n → y < n → (mget M x y = 1 ↔ R x y)) : Closing R n 0 0 0 M :=
  ⟨hs,fun x y hx hy e => .one ((h x y hx hy).1 e),fun x y hx hy v => (h x y hx hy).2 v,fun x y _ _ hlt _ _ => by omega⟩
end Go.Proofs.Ytcbfghcdbmlneaa.Q
namespace Go.Proofs.Ytcbfghcdbmlneaa.Q
open Classical in
noncomputable def firstIdx (P : Nat → Prop) : Nat → Option Nat
  | 0 => none
  | n + 1 => match firstIdx P n with
    | some i => some i
    | none => if P n then some n else none
theorem firstIdx_none {P : Nat → Prop} : ∀ n,(∀ i,i < n → ¬ P i) → firstIdx P n = none
  | 0,_ => rfl
  | n + 1,h => by
    have h1:=firstIdx_none n fun i hi => h i (by omega)
    have h2:=h n (by omega)
    simp only [firstIdx,h1,if_neg h2]
theorem x8 {P : Nat → Prop} {i : Nat} (hP : P i) : ∀ n,i < n → (∀ j,j < i → ¬ P j) → firstIdx P n = some i
  | 0,hi,_ => by omega
  | n + 1,hi,h => by
    by_cases hin : i < n
    · have h1:=x8 hP n hin h
      simp only [firstIdx,h1]
    · have e : i = n:=by omega
      subst e
      have h1:=firstIdx_none i h
      simp only [firstIdx,h1,if_pos hP]
def badNode (p : Pg) (fn : Fn) (i : Nat) : Prop:=∃ nd,fn.nodes[i]? = some nd ∧ may p.g p.l p.s p.len nd fn.nodes.length = false
noncomputable def fnFault (p : Pg) (fn : Fn) : Int × Nat :=
  if fn.nodes.length = 0 then (-1,1) else if 64 < fn.nodes.length then (-1,4) else match firstIdx (badNode p fn) fn.nodes.length with
    | some i => ((i : Int),3)
    | none => (0,0)
def badFn (p : Pg) (f : Nat) : Prop:=∃ fn,p.fns[f]? = some fn ∧ (fnFault p fn).2 ≠ 0
def roundAt (p : Pg) (f i : Nat) : Prop:=∃ fn nd,p.fns[f]? = some fn ∧ fn.nodes[i]? = some nd ∧ nd.kind = 7 ∧ ∃ k : Nat,nd.arg = (k : Int) ∧ k < p.fns.length ∧ (k = f ∨ Reach (calls p) p.fns.length k f)
noncomputable def roundIn (p : Pg) (f : Nat) : Option Nat:=firstIdx (roundAt p f) 64
def badRound (p : Pg) (f : Nat) : Prop:=∃ i,roundAt p f i
noncomputable def check (p : Pg) : Int × Int × Nat :=
  if p.g < 0 ∨ p.l < 0 ∨ p.s < 0 ∨ p.fns.length = 0 then (-1,-1,1)
  else if 16 < p.g ∨ 16 < p.l ∨ 8 < p.s ∨ 16 < p.fns.length then (-1,-1,4)
  else match firstIdx (badFn p) p.fns.length with
    | some f => ((f : Int),(fnFault p (p.fns.getD f default)).1,(fnFault p (p.fns.getD f default)).2)
    | none => match firstIdx (badRound p) p.fns.length with
      | some f => ((f : Int),(((roundIn p f).getD 0 : Nat) : Int),8)
      | none => (0,0,0)
theorem fault_empty (p : Pg) (fn : Fn) (h : fn.nodes.length = 0) : fnFault p fn = (-1,1):=by unfold fnFault;rw [if_pos h]
theorem fault_long (p : Pg) (fn : Fn) (h : 64 < fn.nodes.length) : fnFault p fn = (-1,4):=by unfold fnFault;rw [if_neg (by omega),if_pos h]
theorem fault_node (p : Pg) (fn : Fn) (i : Nat) (h0 : fn.nodes.length ≠ 0) (h64 : fn.nodes.length ≤ 64) (hi : badNode p fn i) (hlt : i < fn.nodes.length) (hp : ∀ j,j < i → ¬ badNode p fn j) : fnFault p fn = ((i : Int),3):=by
  unfold fnFault
  rw [if_neg h0,if_neg (by omega),x8 hi _ hlt hp]
theorem fault_none (p : Pg) (fn : Fn) (h0 : fn.nodes.length ≠ 0) (h64 : fn.nodes.length ≤ 64) (hp : ∀ j,j < fn.nodes.length → ¬ badNode p fn j) : fnFault p fn = (0,0):=by
  unfold fnFault
  rw [if_neg h0,if_neg (by omega),firstIdx_none _ hp]
structure Counts (p : Pg) : Prop where
  g : 0 ≤ p.g ∧ p.g ≤ 16
  l : 0 ≤ p.l ∧ p.l ≤ 16
  s : 0 ≤ p.s ∧ p.s ≤ 8
  f : 0 < p.fns.length ∧ p.fns.length ≤ 16
theorem check_fn {p : Pg} (hc : Counts p) {f : Nat} {fn : Fn} (hf : p.fns[f]? = some fn) (hb : (fnFault p fn).2 ≠ 0) (hp : ∀ j,j < f → ¬ badFn p j) : check p = ((f : Int),(fnFault p fn).1,(fnFault p fn).2):=by
  have hlt : f < p.fns.length:=(List.getElem?_eq_some_iff.1 hf).1
  unfold check
  rw [if_neg (by have:=hc.g;have:=hc.l;have:=hc.s;have:=hc.f;omega),if_neg (by have:=hc.g;have:=hc.l;have:=hc.s;have:=hc.f;omega),x8 ⟨fn,hf,hb⟩ _ hlt hp]
  have e : p.fns.getD f default = fn:=by rw [List.getD_eq_getElem?_getD,hf];rfl
  simp only [e]
theorem check_round {p : Pg} (hc : Counts p) (hn : ∀ j,j < p.fns.length → ¬ badFn p j) {f i : Nat} (hr : roundAt p f i) (hi : i < 64) (hlt : f < p.fns.length) (hp : ∀ j,j < f → ¬ badRound p j) (hpi : ∀ j,j < i → ¬ roundAt p f j) : check p = ((f : Int),(i : Int),8):=by
  unfold check
  rw [if_neg (by have:=hc.g;have:=hc.l;have:=hc.s;have:=hc.f;omega),if_neg (by have:=hc.g;have:=hc.l;have:=hc.s;have:=hc.f;omega),firstIdx_none _ hn]
  simp only
  rw [x8 ⟨i,hr⟩ _ hlt hp]
  have e : roundIn p f = some i:=x8 hr _ hi hpi
  simp only [e,Option.getD_some]
theorem check_fine {p : Pg} (hc : Counts p) (hn : ∀ j,j < p.fns.length → ¬ badFn p j) (hp : ∀ j,j < p.fns.length → ¬ badRound p j) : check p = (0,0,0):=by
  unfold check
  rw [if_neg (by have:=hc.g;have:=hc.l;have:=hc.s;have:=hc.f;omega),if_neg (by have:=hc.g;have:=hc.l;have:=hc.s;have:=hc.f;omega),firstIdx_none _ hn]
  simp only
  rw [firstIdx_none _ hp]
theorem fine_fn {p : Pg} {f : Nat} {fn : Fn} (hf : p.fns[f]? = some fn) (h : ¬ badFn p f) : 0 < fn.nodes.length ∧ fn.nodes.length ≤ 64 ∧ ∀ (i : Nat) (nd : Nd),fn.nodes[i]? = some nd → may p.g p.l p.s p.len nd fn.nodes.length = true:=by
  have h2 : (fnFault p fn).2 = 0:=by
    cases e : (fnFault p fn).2 with
    | zero => rfl
    | succ k => exact absurd ⟨fn,hf,by omega⟩ h
  by_cases h0 : fn.nodes.length = 0
  · rw [fault_empty p fn h0] at h2;cases h2
  · by_cases h64 : 64 < fn.nodes.length
    · rw [fault_long p fn h64] at h2;cases h2
    · refine ⟨by omega,by omega,fun i nd hnd => ?_⟩
      cases hm : may p.g p.l p.s p.len nd fn.nodes.length with
      | true => rfl
      | false =>
        exfalso
        have hb : badNode p fn i:=⟨nd,hnd,hm⟩
        have hil : i < fn.nodes.length:=(List.getElem?_eq_some_iff.1 hnd).1
        -- some first one
        have hex : ∃ i,i < fn.nodes.length ∧ badNode p fn i ∧ ∀ j,j < i → ¬ badNode p fn j:=by
          have : ∀ n,(∃ i,i ≤ n ∧ badNode p fn i) → ∃ i,i ≤ n ∧ badNode p fn i ∧ ∀ j,j < i → ¬ badNode p fn j:=by
            intro n
            induction n with
            | zero => rintro ⟨i,hi,hb⟩;exact ⟨i,hi,hb,fun j hj => by omega⟩
            | succ n ih =>
              rintro ⟨i,hi,hb⟩
              by_cases h : ∃ j,j ≤ n ∧ badNode p fn j
              · obtain ⟨j,h1,h2⟩:=ih h
                exact ⟨j,by omega,h2⟩
              · exact ⟨i,hi,hb,fun j hj hbj => h ⟨j,by omega,hbj⟩⟩
          obtain ⟨j,h1,h2⟩:=this i ⟨i,Nat.le_refl _,hb⟩
          exact ⟨j,by omega,h2⟩
        obtain ⟨j,h1,h3,h4⟩:=hex
        rw [fault_node p fn j h0 (by omega) h3 h1 h4] at h2
        cases h2
end Go.Proofs.Ytcbfghcdbmlneaa.Q
namespace Go.Proofs.Ytcbfghcdbmlneaa.C
def tl (k : Int) : List Nat:=if k = 0 then 1 :: [] else if k = 5 then 0 :: 1 :: 2 :: [] else if k = 8 then 1 :: 2 :: [] else if k = 9 then [] else 0 :: 1 :: []
def fld (x : Nd) (j : Nat) : Int:=if j = 0 then x.arg else if j = 1 then x.next else x.alt
def set (x : Nd) (j : Nat) (v : Int) : Nd:=if j = 0 then ⟨x.kind,v,x.next,x.alt⟩ else if j = 1 then ⟨x.kind,x.arg,v,x.alt⟩ else ⟨x.kind,x.arg,x.next,v⟩
def told (x : Nd) : List Int:=(tl x.kind).map (fld x)
def mark : List Nat:=97 :: 108 :: 112 :: 49 :: []
def hd1 (bs : List Nat) (s : R.St) : Nat × R.St:=R.num bs s 16
def hd2 (bs : List Nat) (s : R.St) : Nat × R.St:=R.num bs (hd1 bs s).2 16
def hd3 (bs : List Nat) (s : R.St) : Nat × R.St:=R.num bs (hd2 bs s).2 8
section
variable {bs : List Nat} {P : R.St → Prop}
end
theorem ups_num (bs : List Nat) (n : Nat) : ∀ (s : R.St) most,n ≤ s.at_ → n ≤ (R.num bs s most).2.at_:=by
  intro s most h
  unfold R.num R.fail
  repeat' split
  all_goals simp_all <;> omega
theorem num_eats {bs : List Nat} (hb : ∀ x ∈ bs,x < 256) {s : R.St} {most : Int} (h : (R.num bs s most).2.why = 0) :
    s.why = 0 ∧ bs.drop s.at_ = V.put (R.num bs s most).1 ++ bs.drop (R.num bs s most).2.at_ ∧ (R.num bs s most).1 < 4294967296:=by
  have hbd : ∀ x ∈ bs.drop s.at_,x < 256:=fun x hx => hb x (List.mem_of_mem_drop hx)
  by_cases hs : s.why = 0
  · refine ⟨hs,?_⟩
    unfold R.num at h ⊢
    rw [if_pos hs] at h ⊢
    by_cases h0 : (V.get (bs.drop s.at_)).2.2 = 0
    · rw [if_pos h0] at h ⊢
      by_cases h1 : most < ((V.get (bs.drop s.at_)).1 : Int)
      · rw [if_pos h1] at h
        unfold R.fail at h
        rw [if_pos hs] at h
        simp at h
      · rw [if_neg h1]
        refine ⟨?_,(V.get_small _ hbd).1⟩
        have ho:=(V.get_once _ hbd h0).1
        simp only
        rw [ho,← List.drop_drop,List.take_append_drop]
    · rw [if_neg h0] at h
      unfold R.fail at h
      rw [if_pos hs] at h
      exact absurd h h0
  · rw [R.num_why hs] at h
    exact absurd h hs
end Go.Proofs.Ytcbfghcdbmlneaa.C
namespace Go.Proofs.Ytcbfghcdbmlneaa.C
def In (m : Int) (n : Int) : Prop:=0 ≤ n ∧ n ≤ m
theorem drop_on {bs a b : List Nat} {k : Nat} (h : bs.drop k = a ++ b) : bs.drop (k + a.length) = b:=by
  rw [← List.drop_drop,h,List.drop_left']
  rfl
def Cut (n : Nat) (s t : R.St) : Prop:=(t = s ∧ s.at_ ≤ n ∧ s.why = 0) ∨ (t.why = 2 ∧ t.wh ≤ n ∧ n < s.at_)
theorem get_front {l : List Nat} (hb : ∀ x ∈ l,x < 256) (h : (V.get l).2.2 = 0) (n : Nat) : V.get (l.take n) = if (V.get l).2.1 ≤ n then V.get l else (0,0,2):=by
  obtain ⟨h1,h2,h3⟩:=V.get_once l hb h
  have h4:=(V.get_small l hb).1
  have hk : (V.get l).2.1 = V.size (V.get l).1:=by
    rw [← V.len_put _ h4,h1,List.length_take];omega
  by_cases hle : (V.get l).2.1 ≤ n
  · rw [if_pos hle]
    have hl : l.take n = V.put (V.get l).1 ++ (l.take n).drop (V.get l).2.1:=by
      rw [h1]
      have : l.take (V.get l).2.1 = (l.take n).take (V.get l).2.1:=by rw [List.take_take,Nat.min_eq_left hle]
      rw [this,List.take_append_drop]
    rw [hl,V.get_put _ h4,← hk,← h]
  · rw [if_neg hle]
    have hl : l.take n = (V.put (V.get l).1).take n:=by rw [h1,List.take_take,Nat.min_eq_left (by omega)]
    rw [hl]
    exact V.get_cut _ h4 _ (by omega)
theorem num_cut {bs : List Nat} (hb : ∀ x ∈ bs,x < 256) {n : Nat} {s t : R.St} {most : Int} (h : Cut n s t) (hw : (R.num bs s most).2.why = 0) :
    Cut n (R.num bs s most).2 (R.num (bs.take n) t most).2 ∧ ((R.num (bs.take n) t most).2.why = 0 → (R.num (bs.take n) t most).1 = (R.num bs s most).1):=by
  rcases h with ⟨rfl,h1,h2⟩ | ⟨h1,h2,h3⟩
  · have hbd : ∀ x ∈ bs.drop t.at_,x < 256:=fun x hx => hb x (List.mem_of_mem_drop hx)
    have hdt : (bs.take n).drop t.at_ = (bs.drop t.at_).take (n - t.at_):=List.drop_take ..
    unfold R.num at hw ⊢
    rw [if_pos h2] at hw ⊢
    rw [if_pos h2,hdt]
    by_cases h0 : (V.get (bs.drop t.at_)).2.2 = 0
    · rw [if_pos h0] at hw ⊢
      by_cases hm : most < ((V.get (bs.drop t.at_)).1 : Int)
      · rw [if_pos hm] at hw
        unfold R.fail at hw
        rw [if_pos h2] at hw
        simp at hw
      · rw [if_neg hm] at hw ⊢
        rw [get_front hbd h0]
        by_cases hle : (V.get (bs.drop t.at_)).2.1 ≤ n - t.at_
        · rw [if_pos hle,if_pos h0,if_neg hm]
          exact ⟨.inl ⟨rfl,by simp only;omega,rfl⟩,fun _ => rfl⟩
        · rw [if_neg hle,if_neg (by decide)]
          unfold R.fail
          rw [if_pos h2]
          refine ⟨.inr ⟨rfl,h1,by simp only;omega⟩,fun h => ?_⟩
          simp at h
    · rw [if_neg h0] at hw
      unfold R.fail at hw
      rw [if_pos h2] at hw
      exact absurd hw h0
  · rw [R.num_why (bs:=bs.take n) (s:=t) (by rw [h1];decide)]
    refine ⟨.inr ⟨h1,h2,?_⟩,fun h => ?_⟩
    · exact Nat.lt_of_lt_of_le h3 (ups_num bs s.at_ s most (Nat.le_refl _))
    · rw [h1] at h;cases h
end Go.Proofs.Ytcbfghcdbmlneaa.C
namespace Go.Proofs.Ytcbfghcdbmlneaa.M
def okP (x : Int × Bool) : Prop:=0 ≤ x.1 ∧ x.1 ≤ 7
def pb (x : Int × Bool) : Nat:=x.1.toNat + (if x.2 then 8 else 0)
def bp (b : Nat) : Int × Bool:=(((b % 8 : Nat) : Int),decide (7 < b))
theorem pb_lt {x : Int × Bool} (h : okP x) : pb x < 16:=by
  obtain ⟨h0,h7⟩:=h
  unfold pb
  split <;> omega
theorem pb_int {x : Int × Bool} (h : okP x) : ((pb x : Nat) : Int) = x.1 + (if x.2 then 8 else 0):=by
  obtain ⟨h0,h7⟩:=h
  unfold pb
  split <;> omega
theorem bp_ok (b : Nat) : okP (bp b):=by unfold okP bp;constructor <;> (simp only;omega)
theorem bp_pb {x : Int × Bool} (h : okP x) : bp (pb x) = x:=by
  obtain ⟨h0,h7⟩:=h
  obtain ⟨a,b⟩:=x
  unfold bp pb
  simp only at h0 h7 ⊢
  cases b
  · simp only [Bool.false_eq_true,if_false,Nat.add_zero,Prod.mk.injEq,decide_eq_false_iff_not]
    omega
  · simp only [if_true,Prod.mk.injEq,decide_eq_true_eq]
    omega
theorem pb_bp {b : Nat} (h : b < 16) : pb (bp b) = b:=by
  unfold pb bp
  by_cases h7 : 7 < b
  · simp only [h7,decide_true,if_true];omega
  · simp only [h7,decide_false,Bool.false_eq_true,if_false];omega
theorem bp_ones {l : List Nat} (h : ∀ b ∈ l,b < 16) : (l.map bp).map pb = l:=by
  rw [List.map_map]
  have e : ∀ b ∈ l,(pb ∘ bp) b = b:=fun b hb => pb_bp (h b hb)
  rw [List.map_congr_left e,List.map_id']
theorem pb_ones {l : List (Int × Bool)} (h : ∀ x ∈ l,okP x) : (l.map pb).map bp = l:=by
  rw [List.map_map]
  have e : ∀ b ∈ l,(bp ∘ pb) b = b:=fun b hb => bp_pb (h b hb)
  rw [List.map_congr_left e,List.map_id']
end Go.Proofs.Ytcbfghcdbmlneaa.M
namespace Go.Proofs.Ytcbfghcdbmlneaa
open Go.RowKit
def cellsR {α : Type} (sz : Nat) (f : α → Nat → Value) (l : List α) : List Value:=l.flatMap fun x => (List.range sz).map (f x)
theorem qJ {α : Type} (sz : Nat) (f : α → Nat → Value) : ∀ l : List α,(cellsR sz f l).length = l.length * sz
  | [] => by simp [cellsR]
  | x :: l => by
    have ih:=qJ sz f l
    unfold cellsR at ih ⊢
    rw [List.flatMap_cons,List.length_append,ih,List.length_map,List.length_range,List.length_cons,Nat.add_mul];omega
theorem yC {α : Type} (sz : Nat) (f : α → Nat → Value) (l l' : List α) : cellsR sz f (l ++ l') = cellsR sz f l ++ cellsR sz f l':=by unfold cellsR;rw [List.flatMap_append]
theorem lZ {α : Type} (sz : Nat) (f : α → Nat → Value) : ∀ (l : List α) (k j : Nat) (x : α),l[k]? = some x → j < sz → (cellsR sz f l)[k * sz + j]? = some (f x j)
  | [],k,j,x,h,_ => by simp at h
  | y :: l,0,j,x,h,hj => by
    have e : y = x:=by simpa using h
    subst e
    unfold cellsR
    rw [List.flatMap_cons,Nat.zero_mul,Nat.zero_add,List.getElem?_append_left (by simpa using hj),List.getElem?_map,List.getElem?_range hj];rfl
  | y :: l,k + 1,j,x,h,hj => by
    have ih:=lZ sz f l k j x (by simpa using h) hj
    unfold cellsR at ih ⊢
    rw [List.flatMap_cons,List.getElem?_append_right (by simp [Nat.add_mul];omega),List.length_map,List.length_range,show (k + 1) * sz + j - sz = k * sz + j by rw [Nat.add_mul];omega]
    exact ih
def OwnR {α : Type} (sz : Nat) (f : α → Nat → Value) (w : World) (B : Nat) (e : TypeId) (v : Value) (l : List α) : Prop:=w.ownsRow B e sz v l.length (cellsR sz f l)
section
variable {α : Type} {sz : Nat} {f : α → Nat → Value} {w w' : World} {B : Nat} {e : TypeId} {v : Value} {l : List α}
theorem OwnR.nil (sz : Nat) (f : α → Nat → Value) (w : World) (B : Nat) (e : TypeId) : OwnR sz f w B e (.slice none 0 0) []:=World.ownsRow_nil w B e sz
theorem OwnR.block (h : OwnR sz f w B e v l) : ∀ k,v.ownBlock = some k → B ≤ k ∧ k < w.heap.size:=World.ownsRow.lt h
theorem OwnR.far {row : Option Nat} (h : OwnR sz f w B e v l) (hg : w.grownBy w' row) (hne : v.ownBlock = none ∨ v.ownBlock ≠ row) : OwnR sz f w' B e v l:=World.ownsRow.kept h hg hne
theorem OwnR.below {C : Nat} (h : OwnR sz f w B e v l) (hb : Below C w w') (hC : w.heap.size ≤ C) : OwnR sz f w' B e v l:=by
  refine h.far (row:=none) ⟨hb.os,hb.tape,hb.output,hb.size,fun i hi _ => hb.block i (by omega)⟩ ?_
  cases hv : v.ownBlock with
  | none => exact .inl rfl
  | some k => exact .inr (by simp)
theorem OwnR.form (h : OwnR sz f w B e v l) : ∃ A cap,v = .slice A l.length cap ∧ l.length ≤ cap ∧ cap ≤ maxLen ∧ Recs sz f w w.heap.size A l.length l:=by
  rcases h.2 with ⟨hv,h0⟩ | ⟨g,cap,cur,hv,hB,hg,hn,hm,hs,ht⟩
  · refine ⟨none,0,by rw [h0];exact hv,by omega,by simp [maxLen],⟨rfl,fun hn => by omega⟩⟩
  · refine ⟨_,cap,hv,hn,hm,⟨rfl,fun _ => ⟨_,rfl,?_,fun k x hx j hj => ?_⟩⟩⟩
    · exact (World.ownsRow.lt h g (by rw [hv];rfl)).2
    · exact World.ownsRow.cells h (g:=g) (by rw [hv];rfl) _ _ (lZ sz f l k j x hx hj)
end
theorem uK {P : Program} {ops : Array Oper} {rest : List Oper} {o : Oper} {a : Act} {Q : Exit → Act → World → Prop} (hgd : o.guard = none) (s x : Operand) (t : TypeId)
    (ho : o.op = .call { callee:=.builtin .append,args:=#[s,x],argTypes:=#[t,t] })
    (B : Nat) (e : TypeId) (sz : Nat) (z : Value) (bytes : Nat) (ht : P.underlying t = some (.slice e)) (hi : (P.info? e).map (fun i => (i.zero,i.size,i.bytes)) = some (some z,sz,bytes)) (hzs : z.cells.size = sz) (hsz : 0 < sz)
    {α : Type} (f : α → Nat → Value) (hone : ∀ x j,(f x j).oneCell' = true)
    (w : World) (v : Value) (l : List α) (u : α) (hs : a.eval s = v) (hown : OwnR sz f w B e v l) (ad : Addr) (c : Nat) (hx : a.eval x = .slice (some ad) 1 c) (had : ad = ⟨w.heap.size,0,none⟩)
    (cs : Array Value) (hcs : cs = ((List.range sz).map (f u)).toArray) (h63 : l.length + 1 ≤ maxLen) (hbytes : (l.length + 1) * bytes ≤ 140737488355328) (hB : B ≤ w.heap.size)
    (h : ∀ v' w',OwnR sz f w' B e v' (l ++ [u]) → Grew w w' v v' → wpList P ops Q rest (a.put o.dst v') w') : wpList P ops Q (o :: rest) a (w.alloc (.cells cs e)):=by
  subst had
  subst hcs
  obtain ⟨i,hi0,hzz⟩:=Option.map_eq_some_iff.1 hi
  simp only [Prod.mk.injEq] at hzz
  obtain ⟨hz,hsize,hby⟩:=hzz
  have hnb:=Blk.new w e ((List.range sz).map (f u))
  refine wpList_append_lies _ hgd s x t ho B e i z sz bytes ht hi0 hz hsize hby hzs hsz v l.length (cellsR sz f l) hs (World.ownsRow.alloc hown _) _ 1 c ((List.range sz).map (f u)) hx (by simp)
    (fun j y hy => by
      have hadd : (⟨w.heap.size,0,none⟩ : Addr).add j = ⟨w.heap.size,j,none⟩:=by unfold Addr.add;split <;> simp_all
      rw [hadd,hnb.cell j];exact hy)
    (fun y hy => by
      obtain ⟨j,_,rfl⟩:=List.mem_map.1 hy
      exact hone u j)
    (by omega) h63 hbytes (by simp;omega) _ rfl ?_
  intro g cap w' h2 h3 h4 h5
  refine h _ w' ?_ ⟨L6 _ _ _ h3,?_⟩
  rotate_left
  · rcases h4 with h4 | h4
    · exact .inl h4.symm
    · refine .inr fun k hk => ?_
      have : g = k:=by simpa [Value.ownBlock] using hk
      subst this
      rw [h4];simp
  unfold OwnR
  rw [List.length_append,List.length_singleton,yC]
  have e1 : cellsR sz f [u] = (List.range sz).map (f u):=by simp [cellsR]
  rw [e1]
  exact h2
theorem qB {P : Program} {ops : Array Oper} {rest : List Oper} {o : Oper} {a : Act} {w : World} {Q : Exit → Act → World → Prop} (hg : o.guard = none) (t : TypeId) (parts : Array (Nat × Operand)) (ho : o.op = .build t parts)
    (qs : List (Nat × Value)) (hq : (parts.map fun (i,x) => (i,a.eval x)).toList = qs) (cs : List Value) (hf : P.built t qs = some cs.toArray)
    (h : wpList P ops Q rest (a.put o.dst (.agg cs.toArray)) w) : wpList P ops Q (o :: rest) a w:=by
  subst hq
  refine wpList_build hg t parts ho (by rw [hf];rfl) ?_
  rw [hf]
  exact h
theorem xY {P : Program} {ops : Array Oper} {rest : List Oper} {o : Oper} {a : Act} {w : World} {Q : Exit → Act → World → Prop} (hg : o.guard = none) (t : TypeId) (i : Nat) (x : Operand) (ho : o.op = .build t #[(i,x)])
    (v : Value) (hx : a.eval x = v) (cs : List Value) (hf : P.built t [(i,v)] = some cs.toArray)
    (h : wpList P ops Q rest (a.put o.dst (.agg cs.toArray)) w) : wpList P ops Q (o :: rest) a w :=
  qB hg t _ ho [(i,v)] (by simp [hx]) cs hf h
theorem LM {P : Program} {ops : Array Oper} {rest : List Oper} {o : Oper} {a : Act} {w : World} {Q : Exit → Act → World → Prop} (hg : o.guard = none) (t : TypeId) (i j : Nat) (x y : Operand) (ho : o.op = .build t #[(i,x),(j,y)])
    (v u : Value) (hx : a.eval x = v) (hy : a.eval y = u) (cs : List Value) (hf : P.built t [(i,v),(j,u)] = some cs.toArray)
    (h : wpList P ops Q rest (a.put o.dst (.agg cs.toArray)) w) : wpList P ops Q (o :: rest) a w :=
  qB hg t _ ho [(i,v),(j,u)] (by simp [hx,hy]) cs hf h
theorem jI {P : Program} {ops : Array Oper} {rest : List Oper} {o : Oper} {a : Act} {w : World} {Q : Exit → Act → World → Prop} (hg : o.guard = none) (t e : TypeId) (x : Operand) (ho : o.op = .buildSlice t 1 #[(0,x)])
    (sz : Nat) (hu : P.underlying t = some (.slice e)) (hi : (P.info? e).map (fun i => (i.zero.map (·.cells.size),i.size)) = some (some sz,sz)) (h0 : 0 < sz) (h24 : sz ≤ 1000) (v : Value) (cs : List Value) (hx : a.eval x = v) (hv : v.cells = cs.toArray) (hl : cs.length = sz)
    (h : ∀ g w',w.heap.size ≤ g → Blk w' g e cs → Below w.heap.size w w' → wpList P ops Q rest (a.put o.dst (.slice (some ⟨g,0,none⟩) 1 1)) w') : wpList P ops Q (o :: rest) a w:=by
  cases hq : P.info? e with
  | none => simp [hq] at hi
  | some ie =>
    simp only [hq,Option.map_some,Option.some.injEq,Prod.mk.injEq] at hi
    obtain ⟨hz,hs⟩:=hi
    cases hzz : ie.zero with
    | none => simp [hzz] at hz
    | some z =>
      simp only [hzz,Option.map_some,Option.some.injEq] at hz
      refine wpList_buildSlice hg t e 1 _ ho cs.toArray ie z hu hq hzz (by rw [hs];omega) (by rw [hs];omega) ?_ (h _ _ (Nat.le_refl _) (Blk.newAt rfl rfl) ((Below.refl _ _).alloc (Nat.le_refl _) _))
      have hf:=Go.Great.fill_whole (s:=ie.size) (by rw [hs];exact h0) [v] ((Array.range (1 * ie.size)).map (z.cells[· % z.cells.size]!)) (fun u hu => by rw [List.mem_singleton.1 hu,hv,hs];simpa using hl) (by simp)
      simp only [List.map_toArray,List.map_cons,List.map_nil,hx]
      simpa [hv] using hf
theorem jL (p : Pg) : pgA p = .agg (pgC p).toArray:=rfl
def ndC (x : Nd) : List Value:=[.int .i64 x.kind,.int .i64 x.arg,.int .i64 x.next,.int .i64 x.alt]
theorem jM {w : World} {g : Nat} {t : TypeId} {p : Pg} (h : Blk w g t (pgC p)) :
    w.cell? ⟨g,0,none⟩ = some (.int .i64 p.g) ∧ w.cell? ⟨g,1,none⟩ = some (.int .i64 p.l) ∧ w.cell? ⟨g,2,none⟩ = some (.int .i64 p.s) ∧ w.cell? ⟨g,3,none⟩ = some (.slice p.A p.len p.cap) :=
  ⟨Blk.cell h 0,Blk.cell h 1,Blk.cell h 2,Blk.cell h 3⟩
theorem jV {w : World} {g : Nat} {t : TypeId} {x : Nd} (h : Blk w g t (ndC x)) :
    w.cell? ⟨g,0,none⟩ = some (.int .i64 x.kind) ∧ w.cell? ⟨g,1,none⟩ = some (.int .i64 x.arg) ∧ w.cell? ⟨g,2,none⟩ = some (.int .i64 x.next) ∧ w.cell? ⟨g,3,none⟩ = some (.int .i64 x.alt) :=
  ⟨Blk.cell h 0,Blk.cell h 1,Blk.cell h 2,Blk.cell h 3⟩
set_option maxRecDepth 100000 in
set_option maxHeartbeats 800000 in
theorem JD (B : Nat) (p : Pg) (w : World) (hp : p.Ok w B) (hB : B ≤ w.heap.size) (r : Bool) (hr : Q.small p = r) :
    Calls Try.prog 17 #[pgA p] w fun e w' => e = .returned (.bool r) ∧ Below w.heap.size w w':=by
  have HP:=kp hp;have HR:=kp hr
  have hlen:=hp.row.len
  have HLen:=kp hlen
  have hlc:=hp.lc;have hcm:=hp.cm
  unfold maxLen at hcm
  have hcm2 : p.cap ≤ 9223372036854775807:=by omega
  clear hp hr hlen hcm
  rw [jL]
  go_enter Try.func17,Try.ntmps17
  by_cases h40 : 40 < p.len
  · have HE : Kept (false = r):=kp <| by rw [← HR.out];unfold Q.small;rw [HLen.out,decide_eq_false (by omega)];rfl
    go_wp2_with ((with_reducible refine j6 rfl 46 (.tmp 0) rfl (pgC p) rfl ?_);intro g1 w1 hg1 hk1 hw1;obtain ⟨hc0,hc1,hc2,hc3⟩:=jM hk1;have HW1:=kp hw1;clear hg1 hk1 hw1)
    go_ret
    exact ⟨jQ HE.out,HW1.out⟩
  · have h40' : p.len ≤ 40:=by omega
    clear h40
    go_wp2_with ((with_reducible refine j6 rfl 46 (.tmp 0) rfl (pgC p) rfl ?_);intro g1 w1 hg1 hk1 hw1;obtain ⟨hc0,hc1,hc2,hc3⟩:=jM hk1;have HW1:=kp hw1;have HP1:=kp (HP.out.below (hw1.mono hB));clear hg1 hk1 hw1)
    go_loop [3] (fun v3 => ∃ i : Nat,i ≤ p.len ∧ v3 = .int .i64 i ∧ ((p.fns.take i).all fun f => decide (f.nodes.length ≤ 100)) = true) (fun v3 => p.len - (intOf v3).toNat)
    case atStart => exact ⟨0,by omega,rfl,rfl⟩
    case round =>
      obtain ⟨i,hi,rfl,hall⟩:=hrel
      have HAll:=kp hall
      clear hall
      by_cases hlt : i < p.len
      · obtain ⟨ad,f,e1,hab,hx,hok,hcf⟩:=HP1.out.fn hlt
        rw [e1] at hc3 ⊢
        have hfl:=hok.nodes.1.len
        have hfc:=hok.lc;have hfm:=hok.cm
        unfold maxLen at hfm
        have hfm2 : f.len ≤ 9223372036854775807:=by omega
        have HN : Kept (((p.fns.take (i + 1)).all fun f => decide (f.nodes.length ≤ 100)) = decide (f.len ≤ 100)):=kp <| by rw [List.take_add_one,hx,List.all_append,HAll.out];simp [hfl]
        have HNo : Kept (100 < f.len → false = r):=kp fun h => by
          rw [← HR.out]
          unfold Q.small
          have : (p.fns.all fun f => decide (f.nodes.length ≤ 100)) = false:=by
            rw [List.all_eq_false]
            exact ⟨f,List.mem_of_getElem? hx,by simp [hfl];omega⟩
          rw [this,Bool.and_false]
        clear hx hok hfm
        by_cases h100 : 100 < f.len
        · have HE:=kp (HNo.out h100)
          go_wp2
          go_ret
          exact ⟨jQ HE.out,HW1.out⟩
        · have h100' : f.len ≤ 100:=by omega
          clear h100
          go_wp2
          go_round
          case rel => exact ⟨i + 1,by omega,by go_num,by rw [HN.out];simpa using h100'⟩
          case measure => simp [intOf];omega
      · have HE : Kept (true = r):=kp <| by
          have h1:=HAll.out
          rw [List.take_of_length_le (by rw [HLen.out];omega)] at h1
          rw [← HR.out];unfold Q.small;rw [HLen.out,decide_eq_true h40',h1];rfl
        have hge : p.len ≤ i:=by omega
        clear hlt
        go_wp2
        go_ret
        exact ⟨jQ HE.out,HW1.out⟩
end Go.Proofs.Ytcbfghcdbmlneaa
