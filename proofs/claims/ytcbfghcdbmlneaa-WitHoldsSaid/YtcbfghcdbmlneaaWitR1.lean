/- What is wrong with a witness, as the document tells it, walked: Check. -/
import Derived.Test.YtcbfghcdbmlneaaPk5
namespace Go.Proofs.Ytcbfghcdbmlneaa
open Go.RowKit
set_option maxRecDepth 100000 in
set_option maxHeartbeats 3200000 in
theorem LZ (B : Nat) (x : Wt) (w : World) (hx : x.Ok w B) (hn : x.len ≤ 5000) (hB : B ≤ w.heap.size) (c : Nat) (hc : x.check = c) :
    Calls Try.prog 11 #[wtA x] w fun e w' => e = .returned (.int .i64 (c : Int)) ∧ Below w.heap.size w w':=by
  have HX:=kp hx;have HC:=kp hc;have HLn:=kp hx.len_
  clear hx hc
  rw [l6]
  by_cases hlong : 4096 < x.len
  · have HE : Kept ((4 : Nat) = c):=kp (by rw [← HC.out];exact (T.check_long (by rw [HLn.out];exact hlong)).symm)
    go_enter Try.func11,Try.ntmps11
    go_wp2_with (first
      | ((with_reducible refine j6 rfl 24 (.tmp 0) rfl (wtC x) rfl ?_);intro g1 w1 hg1 hk1 hw1;have HW1:=kp hw1;obtain ⟨hc0,_,_,_⟩:=jS hk1;clear hg1 hk1 hw1))
    go_ret
    exact ⟨lC (by rw [← HE.out];rfl),HW1.out⟩
  have h4 : x.len ≤ 4096:=by omega
  have HBad : Kept ((∃ y ∈ x.z,¬ M.okP y) → (1 : Nat) = c):=kp (fun h => by rw [← HC.out];exact (T.check_picks (by rw [HLn.out];exact h4) h).symm)
  have HNo : Kept (T.okN x.a x.b x.g = false → (1 : Nat) = c):=kp (fun h => by rw [← HC.out];exact (T.check_nums (by rw [HLn.out];exact h4) h).symm)
  have HYes : Kept ((∀ y ∈ x.z,M.okP y) → T.okN x.a x.b x.g = true → (0 : Nat) = c):=kp (fun h1 h => by rw [← HC.out];exact (T.check_fine (by rw [HLn.out];exact h4) h1 h).symm)
  clear hlong
  go_enter Try.func11,Try.ntmps11
  go_wp2_with (first
    | ((with_reducible refine j6 rfl 24 (.tmp 0) rfl (wtC x) rfl ?_);intro g1 w1 hg1 hk1 hw1;have HK1:=kp hk1;have HW1:=kp hw1;obtain ⟨hc0,_,_,_⟩:=jS hk1;clear hg1 hk1 hw1))
  go_loopw [3] (fun v3 wr => ∃ i : Nat,i ≤ x.len ∧ v3 = .int .i64 i ∧ (∀ (j : Nat) y,j < i → x.z[j]? = some y → M.okP y) ∧ Blk wr g1 24 (wtC x) ∧ Below w.heap.size w wr) (fun v3 _ => x.len - (intOf v3).toNat)
  case atStart => exact ⟨0,by omega,rfl,(fun _ _ h => by omega),HK1.out,HW1.out⟩
  case round =>
    clear HK1 HW1 hc0
    obtain ⟨i,hi,rfl,hbef,hkr,hbw⟩:=hrel
    have HBef:=kp hbef;have HKr:=kp hkr;have HBw:=kp hbw
    have HPr:=kp (HX.out.below (hbw.mono hB)).picks
    obtain ⟨hd0,hd1,hd2,hd3⟩:=jS hkr
    clear hbef hkr hbw
    by_cases hlt : i < x.len
    · obtain ⟨ad,y,hA,hab,hy,h0,hc⟩:=HPr.out.1.field hlt
      have HY:=kp hy
      have c0:=h0 (by omega)
      rw [hA] at hd0
      clear h0 hc hy
      obtain ⟨yw,yb⟩:=y
      replace c0 : wr.cell? (ad.add (i * 2)) = some (.int .i64 yw):=c0
      by_cases hlo : yw < 0
      · have HE : Kept ((1 : Nat) = c):=kp (HBad.out ⟨_,List.mem_of_getElem? HY.out,fun h => by have h1:=h.1;simp only at h1;omega⟩)
        go_wp2
        go_ret
        exact ⟨lC (by rw [← HE.out];rfl),HBw.out⟩
      · by_cases hhi : 7 < yw
        · have HE : Kept ((1 : Nat) = c):=kp (HBad.out ⟨_,List.mem_of_getElem? HY.out,fun h => by have h1:=h.2;simp only at h1;omega⟩)
          go_wp2
          go_ret
          exact ⟨lC (by rw [← HE.out];rfl),HBw.out⟩
        · have HOk : Kept (M.okP (yw,yb)):=kp ⟨by show 0 ≤ yw;omega,by show yw ≤ 7;omega⟩
          go_wp2
          go_roundw
          case rel =>
            refine ⟨i + 1,by omega,by go_num,fun j u hj hu => ?_,HKr.out,HBw.out⟩
            by_cases e : j = i
            · subst e
              rw [HY.out] at hu
              cases hu
              exact HOk.out
            · exact HBef.out j u (by omega) hu
          case measure => simp [intOf];omega
    · have HAll : Kept (∀ y ∈ x.z,M.okP y):=kp (fun y hy => by
        obtain ⟨j,hj⟩:=List.getElem?_of_mem hy
        exact HBef.out j y (by have:=(List.getElem?_eq_some_iff.1 hj).1;have:=HLn.out;omega) hj)
      have hge : x.len ≤ i:=by omega
      clear hlt
      by_cases q0 : x.a < 0
      · have HE : Kept ((1 : Nat) = c):=kp (HNo.out (by unfold T.okN;exact decide_eq_false (by omega)))
        go_wp2
        go_ret
        exact ⟨lC (by rw [← HE.out];rfl),HBw.out⟩
      by_cases q1 : 7 < x.a
      · have HE : Kept ((1 : Nat) = c):=kp (HNo.out (by unfold T.okN;exact decide_eq_false (by omega)))
        go_wp2
        go_ret
        exact ⟨lC (by rw [← HE.out];rfl),HBw.out⟩
      by_cases q2 : x.b < 0
      · have HE : Kept ((1 : Nat) = c):=kp (HNo.out (by unfold T.okN;exact decide_eq_false (by omega)))
        go_wp2
        go_ret
        exact ⟨lC (by rw [← HE.out];rfl),HBw.out⟩
      by_cases q3 : 7 < x.b
      · have HE : Kept ((1 : Nat) = c):=kp (HNo.out (by unfold T.okN;exact decide_eq_false (by omega)))
        go_wp2
        go_ret
        exact ⟨lC (by rw [← HE.out];rfl),HBw.out⟩
      by_cases q4 : x.a = x.b
      · have HE : Kept ((1 : Nat) = c):=kp (HNo.out (by unfold T.okN;exact decide_eq_false (by omega)))
        have hq : (x.a == x.b) = true:=by rw [beq_iff_eq];exact q4
        clear q4
        go_wp2
        go_ret
        exact ⟨lC (by rw [← HE.out];rfl),HBw.out⟩
      have hq : (x.a == x.b) = false:=by rw [beq_eq_false_iff_ne];exact q4
      by_cases q5 : x.g < 0
      · have HE : Kept ((1 : Nat) = c):=kp (HNo.out (by unfold T.okN;exact decide_eq_false (by omega)))
        go_wp2
        go_ret
        exact ⟨lC (by rw [← HE.out];rfl),HBw.out⟩
      by_cases q6 : 15 < x.g
      · have HE : Kept ((1 : Nat) = c):=kp (HNo.out (by unfold T.okN;exact decide_eq_false (by omega)))
        go_wp2
        go_ret
        exact ⟨lC (by rw [← HE.out];rfl),HBw.out⟩
      have HE : Kept ((0 : Nat) = c):=kp (HYes.out HAll.out (T.okN_iff.2 ⟨by omega,by omega,by omega,by omega,q4,by omega,by omega⟩))
      clear q4
      go_wp2
      go_ret
      exact ⟨lC (by rw [← HE.out];rfl),HBw.out⟩
end Go.Proofs.Ytcbfghcdbmlneaa
