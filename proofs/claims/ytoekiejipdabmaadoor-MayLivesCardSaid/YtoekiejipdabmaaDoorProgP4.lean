/- How many of everything a program has, and a function's nodes, as the program checks them, walked: checkCounts, checkNodes. -/
import Derived.Test.YtoekiejipdabmaaDoorPk3
import Derived.Test.YtoekiejipdabmaaDoorProgRef5
import Derived.Laws.Cover1
namespace Go.Proofs.YtoekiejipdabmaaDoor
open Go.RowKit
def countsFault (p : Pg) : Nat:=if p.g < 0 ∨ p.l < 0 ∨ p.s < 0 ∨ p.len = 0 then 1 else if 16 < p.g ∨ 16 < p.l ∨ 8 < p.s ∨ 16 < p.len then 4 else 0
theorem uB {a b : Int} (h : a = b) : Ending.returned (.int .i64 a) = Ending.returned (.int .i64 b):=by rw [h]
def min3 (x y z : Int) : Int:=if z < (if y < x then y else x) then z else (if y < x then y else x)
theorem min3_neg (x y z : Int) : min3 x y z < 0 ↔ x < 0 ∨ y < 0 ∨ z < 0:=by unfold min3;split <;> split <;> omega
set_option maxRecDepth 100000 in
set_option maxHeartbeats 3200000 in
theorem xB (p : Pg) (c : Nat) (hc : countsFault p = c) (w : World) :
    Calls Tryd.prog 45 #[pgA p] w fun e w' => e = .returned (.int .i64 (c : Int)) ∧ Below w.heap.size w w':=by
  have HC:=kp hc
  have hmin : ∀ (w : World) (ts : Array TypeId) (t : TypeId),(Builtin.min_ ts t #[.int .i64 p.g,.int .i64 p.l,.int .i64 p.s]).run Tryd.prog w = .ok (.int .i64 (min3 p.g p.l p.s)) w:=fun w ts t => by rw [run_min_int3];rfl
  have hmn:=min3_neg p.g p.l p.s
  clear hc
  rw [jM]
  generalize min3 p.g p.l p.s = m at *
  by_cases hneg : m < 0
  · have HE : Kept ((1 : Int) = (c : Int)):=kp (by rw [← HC.out];unfold countsFault;rw [if_pos (by rcases hmn.1 hneg with h | h | h <;> omega)];rfl)
    clear hmn
    go_enter Tryd.func45,Tryd.ntmps45
    go_wp2_with ((with_reducible refine j4 rfl 24 (.tmp 0) rfl (pgC p) rfl ?_);intro g1 w1 hg1 hk1 hw1;obtain ⟨hc0,hc1,hc2,hc3⟩:=j8 hk1;have HW1:=kp hw1;clear hg1 hk1 hw1)
    go_ret
    exact ⟨uB HE.out,HW1.out⟩
  · have hm0 : 0 ≤ m:=by omega
    have hgs : ¬ (p.g < 0 ∨ p.l < 0 ∨ p.s < 0):=fun h => hneg (hmn.2 h)
    clear hmn hneg
    by_cases hz : p.len = 0
    · have HE : Kept ((1 : Int) = (c : Int)):=kp (by rw [← HC.out];unfold countsFault;rw [if_pos (by omega)];rfl)
      have hzb : ((p.len : Int) == 0) = true:=by simp;omega
      clear hz hgs
      go_enter Tryd.func45,Tryd.ntmps45
      go_wp2_with ((with_reducible refine j4 rfl 24 (.tmp 0) rfl (pgC p) rfl ?_);intro g1 w1 hg1 hk1 hw1;obtain ⟨hc0,hc1,hc2,hc3⟩:=j8 hk1;have HW1:=kp hw1;clear hg1 hk1 hw1)
      go_ret
      exact ⟨uB HE.out,HW1.out⟩
    · have hzb : ((p.len : Int) == 0) = false:=by simp;omega
      by_cases hbig : 16 < p.g ∨ 16 < p.l ∨ 8 < p.s ∨ 16 < p.len
      · have HE : Kept ((4 : Int) = (c : Int)):=kp (by rw [← HC.out];unfold countsFault;rw [if_neg (by omega),if_pos hbig];rfl)
        have hcases : 16 < p.g ∨ (p.g ≤ 16 ∧ 16 < p.l) ∨ (p.g ≤ 16 ∧ p.l ≤ 16 ∧ 8 < p.s) ∨ (p.g ≤ 16 ∧ p.l ≤ 16 ∧ p.s ≤ 8 ∧ 16 < p.len):=by omega
        clear hz hbig hgs
        rcases hcases with h1 | ⟨h1,h2⟩ | ⟨h1,h2,h3⟩ | ⟨h1,h2,h3,h4⟩
        · have b1 : decide (16 < p.g) = true:=by simpa using h1
          go_enter Tryd.func45,Tryd.ntmps45
          go_wp2_with ((with_reducible refine j4 rfl 24 (.tmp 0) rfl (pgC p) rfl ?_);intro g1 w1 hg1 hk1 hw1;obtain ⟨hc0,hc1,hc2,hc3⟩:=j8 hk1;have HW1:=kp hw1;clear hg1 hk1 hw1)
          go_ret
          exact ⟨uB HE.out,HW1.out⟩
        · have b1 : decide (16 < p.g) = false:=by simp;omega
          have b2 : decide (16 < p.l) = true:=by simpa using h2
          go_enter Tryd.func45,Tryd.ntmps45
          go_wp2_with ((with_reducible refine j4 rfl 24 (.tmp 0) rfl (pgC p) rfl ?_);intro g1 w1 hg1 hk1 hw1;obtain ⟨hc0,hc1,hc2,hc3⟩:=j8 hk1;have HW1:=kp hw1;clear hg1 hk1 hw1)
          go_ret
          exact ⟨uB HE.out,HW1.out⟩
        · have b1 : decide (16 < p.g) = false:=by simp;omega
          have b2 : decide (16 < p.l) = false:=by simp;omega
          have b3 : decide (8 < p.s) = true:=by simpa using h3
          go_enter Tryd.func45,Tryd.ntmps45
          go_wp2_with ((with_reducible refine j4 rfl 24 (.tmp 0) rfl (pgC p) rfl ?_);intro g1 w1 hg1 hk1 hw1;obtain ⟨hc0,hc1,hc2,hc3⟩:=j8 hk1;have HW1:=kp hw1;clear hg1 hk1 hw1)
          go_ret
          exact ⟨uB HE.out,HW1.out⟩
        · have b1 : decide (16 < p.g) = false:=by simp;omega
          have b2 : decide (16 < p.l) = false:=by simp;omega
          have b3 : decide (8 < p.s) = false:=by simp;omega
          go_enter Tryd.func45,Tryd.ntmps45
          go_wp2_with ((with_reducible refine j4 rfl 24 (.tmp 0) rfl (pgC p) rfl ?_);intro g1 w1 hg1 hk1 hw1;obtain ⟨hc0,hc1,hc2,hc3⟩:=j8 hk1;have HW1:=kp hw1;clear hg1 hk1 hw1)
          go_ret
          exact ⟨uB HE.out,HW1.out⟩
      · have HE : Kept ((0 : Int) = (c : Int)):=kp (by rw [← HC.out];unfold countsFault;rw [if_neg (by omega),if_neg hbig];rfl)
        have b1 : decide (16 < p.g) = false:=by simp;omega
        have b2 : decide (16 < p.l) = false:=by simp;omega
        have b3 : decide (8 < p.s) = false:=by simp;omega
        have h4 : p.len ≤ 16:=by omega
        clear hz hbig hgs
        go_enter Tryd.func45,Tryd.ntmps45
        go_wp2_with ((with_reducible refine j4 rfl 24 (.tmp 0) rfl (pgC p) rfl ?_);intro g1 w1 hg1 hk1 hw1;obtain ⟨hc0,hc1,hc2,hc3⟩:=j8 hk1;have HW1:=kp hw1;clear hg1 hk1 hw1)
        go_ret
        exact ⟨uB HE.out,HW1.out⟩
theorem zM {p : Pg} {f : Fn} {a a' : Int} {c c' : Nat} (h : Q.fnFault p f = (a,c)) (h' : Q.fnFault p f = (a',c')) : Ending.returned (.tuple #[.int .i64 a',.int .i64 (c' : Int)]) = Ending.returned (.tuple #[.int .i64 a,.int .i64 (c : Int)]):=by
  rw [h] at h'
  injection h' with h1 h2
  rw [h1,h2]
set_option maxRecDepth 100000 in
set_option maxHeartbeats 3200000 in
theorem xT (B : Nat) (p : Pg) (fn : Fn) (a : Int) (c : Nat) (hc : Q.fnFault p fn = (a,c)) (w : World) (hp : p.Ok w B) (hf : fn.Ok w B) (hB : B ≤ w.heap.size) :
    Calls Tryd.prog 46 #[pgA p,.slice fn.A fn.len fn.cap] w fun e w' => e = .returned (.tuple #[.int .i64 a,.int .i64 (c : Int)]) ∧ Below w.heap.size w w':=by
  have HC:=kp hc;have HP:=kp hp;have HF:=kp hf
  have hfl:=hf.nodes.1.len
  have HFl:=kp hfl
  have hfc:=hf.lc;have hfm:=hf.cm
  unfold maxLen at hfm
  have hfm9 : fn.cap ≤ 9223372036854775807:=by omega
  clear hc hp hf hfm
  rw [jM]
  by_cases hz0 : fn.len = 0
  · have HE:=kp (zM (a':=-1) (c':=1) HC.out (by rw [Q.fault_empty p fn (by rw [hfl];exact hz0)]))
    have hzb : ((fn.len : Int) == 0) = true:=by simp;omega
    clear hz0 hfl
    go_enter Tryd.func46,Tryd.ntmps46
    go_wp2_with ((with_reducible refine j4 rfl 24 (.tmp 0) rfl (pgC p) rfl ?_);intro g1 w1 hg1 hk1 hw1;have HW1:=kp hw1;clear hg1 hk1 hw1)
    go_ret2
    exact ⟨HE.out,HW1.out⟩
  · have hzb : ((fn.len : Int) == 0) = false:=by simp;omega
    by_cases h64 : 64 < fn.len
    · have HE:=kp (zM (a':=-1) (c':=4) HC.out (by rw [Q.fault_long p fn (by rw [hfl];exact h64)]))
      clear hz0 hfl
      go_enter Tryd.func46,Tryd.ntmps46
      go_wp2_with ((with_reducible refine j4 rfl 24 (.tmp 0) rfl (pgC p) rfl ?_);intro g1 w1 hg1 hk1 hw1;have HW1:=kp hw1;clear hg1 hk1 hw1)
      go_ret2
      exact ⟨HE.out,HW1.out⟩
    · have h64' : fn.len ≤ 64:=by omega
      have HFl64 : Kept (I64 (fn.len : Int)):=kp ⟨by omega,by omega⟩
      have HZ:=kp hz0
      clear h64 hfl hz0
      go_enter Tryd.func46,Tryd.ntmps46
      go_wp2_with ((with_reducible refine j4 rfl 24 (.tmp 0) rfl (pgC p) rfl ?_);intro g1 w1 hg1 hk1 hw1;have HK1:=kp hk1;have HW1:=kp hw1;have hs1:=hw1.size;clear hg1 hk1 hw1)
      have hB1 : B ≤ w1.heap.size:=by omega
      go_loopw [16] (fun v16 wq => ∃ i : Nat,i ≤ fn.len ∧ v16 = .int .i64 i ∧ (∀ j,j < i → ¬ Q.badNode p fn j) ∧ Below w1.heap.size w1 wq) (fun v16 _ => fn.len - (intOf v16).toNat)
      case atStart => exact ⟨0,by omega,rfl,fun j hj => by omega,Below.refl _ _⟩
      case round =>
        obtain ⟨i,hi,rfl,hpre,hbl⟩:=hrel
        have HPre:=kp hpre;have HBL:=kp hbl
        have HKr:=kp (HK1.out.below hbl HK1.out.lt)
        have hszr:=hbl.size
        have HBw:=kp (HW1.out.trans (hbl.mono hs1))
        have HPr:=kp (HP.out.below (HBw.out.mono hB))
        clear hpre hbl
        by_cases hli : i < fn.len
        · obtain ⟨bd,x,e3,hbb,hy,hxok,hn0,hn1,hn2,hn3⟩:=(HF.out.keep (w':=wr) fun _ hp => (HBw.out.mono hB).cell hp).nodes.get hli
          rw [e3]
          have HXOk:=kp hxok
          obtain ⟨m,hm⟩ : ∃ m,Q.may p.g p.l p.s p.len x fn.len = m:=⟨_,rfl⟩
          have HM:=kp hm
          have HBad : Kept (m = false ↔ Q.badNode p fn i):=kp <| by
            rw [← hm]
            unfold Q.badNode
            rw [HFl.out]
            constructor
            · intro h;exact ⟨x,hy,h⟩
            · rintro ⟨nd,h1,h2⟩
              rw [hy] at h1
              cases h1
              exact h2
          clear hxok hm hy e3
          cases m
          · have HE:=kp (zM HC.out (Q.fault_node p fn i (by rw [HFl.out];exact HZ.out) (by rw [HFl.out];exact h64') (HBad.out.1 rfl) (by rw [HFl.out];exact hli) HPre.out))
            go_wp2_with (first
              | ((with_reducible show Sl 7);go_must (refine j7 rfl 66 rfl (ndC ⟨0,0,0,0⟩) jU ?_);intro g5 w6 hg5 hk6 hw6;have HG5:=kp hg5;have HK6:=kp hk6;have HW6:=kp hw6;clear hg5 hk6 hw6)
              | ((with_reducible show Sn);go_must (refine j5 rfl 66 (.tmp 7) (.tmp 20) rfl g5 (ndC x) rfl rfl _ _ HK6.out jD rfl (jK x) ?_);intro w7 hk7 hg7 hs7
                 obtain ⟨hx0,hx1,hx2,hx3⟩:=jB hk7
                 have HBq7:=kp (HW6.out.grown hg7 HW6.out.size (fun k hk => by cases hk;exact HG5.out))
                 have HB7:=kp (HBL.out.trans (HBq7.out.mono hszr))
                 have HK7:=kp (HKr.out.below HBq7.out HKr.out.lt)
                 have HP7:=kp (HPr.out.below (HBq7.out.mono (Nat.le_trans hB1 hszr)))
                 have hsz7:=HBq7.out.size
                 clear hk7 hg7 hs7 hn0 hn1 hn2 hn3)
              | ((with_reducible show Sl 21);go_must (refine j6 rfl 24 (.tmp 2) rfl g1 rfl _ (pgC p) _ HK7.out Tryd.underlying24 rfl jL ?_))
              | (go_at_call 66;go_must (refine (uE B p x HXOk.out fn.len HFl64.out false HM.out _ HP7.out (by omega)).mono ?_);rintro e9 w9 ⟨rfl,hw9⟩;have HB9:=kp (HB7.out.trans (hw9.mono (Nat.le_trans hszr hsz7)));clear hw9))
            go_ret2
            exact ⟨HE.out,HW1.out.trans (HB9.out.mono hs1)⟩
          · have HNx : Kept (∀ j,j < i + 1 → ¬ Q.badNode p fn j):=kp fun j hj h => by
              by_cases e : j = i
              · subst e
                have:=HBad.out.2 h
                cases this
              · exact HPre.out j (by omega) h
            go_wp2_with (first
              | ((with_reducible show Sl 7);go_must (refine j7 rfl 66 rfl (ndC ⟨0,0,0,0⟩) jU ?_);intro g5 w6 hg5 hk6 hw6;have HG5:=kp hg5;have HK6:=kp hk6;have HW6:=kp hw6;clear hg5 hk6 hw6)
              | ((with_reducible show Sn);go_must (refine j5 rfl 66 (.tmp 7) (.tmp 20) rfl g5 (ndC x) rfl rfl _ _ HK6.out jD rfl (jK x) ?_);intro w7 hk7 hg7 hs7
                 obtain ⟨hx0,hx1,hx2,hx3⟩:=jB hk7
                 have HBq7:=kp (HW6.out.grown hg7 HW6.out.size (fun k hk => by cases hk;exact HG5.out))
                 have HB7:=kp (HBL.out.trans (HBq7.out.mono hszr))
                 have HK7:=kp (HKr.out.below HBq7.out HKr.out.lt)
                 have HP7:=kp (HPr.out.below (HBq7.out.mono (Nat.le_trans hB1 hszr)))
                 have hsz7:=HBq7.out.size
                 clear hk7 hg7 hs7 hn0 hn1 hn2 hn3)
              | ((with_reducible show Sl 21);go_must (refine j6 rfl 24 (.tmp 2) rfl g1 rfl _ (pgC p) _ HK7.out Tryd.underlying24 rfl jL ?_))
              | (go_at_call 66;go_must (refine (uE B p x HXOk.out fn.len HFl64.out true HM.out _ HP7.out (by omega)).mono ?_);rintro e9 w9 ⟨rfl,hw9⟩;have HB9:=kp (HB7.out.trans (hw9.mono (Nat.le_trans hszr hsz7)));clear hw9))
            go_roundw
            case rel => exact ⟨i + 1,by omega,by go_num,HNx.out,HB9.out⟩
            case measure => simp [intOf];omega
        · have HE:=kp (zM HC.out (Q.fault_none p fn (by rw [HFl.out];exact HZ.out) (by rw [HFl.out];exact h64') fun j hj => HPre.out j (by rw [HFl.out] at hj;omega)))
          have hge : fn.len ≤ i:=by omega
          clear hli
          go_wp2
          go_ret2
          exact ⟨HE.out,HBw.out⟩
end Go.Proofs.YtoekiejipdabmaaDoor
