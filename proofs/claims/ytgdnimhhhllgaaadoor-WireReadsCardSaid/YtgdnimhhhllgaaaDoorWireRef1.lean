/- The document's own reader, walked: Fail, Num. -/
import Derived.Test.YtgdnimhhhllgaaaDoorWireMath
import Derived.Test.YtgdnimhhhllgaaaDoorCell
import Derived.Test.YtgdnimhhhllgaaaDoorWalk2
import Derived.Test.YtgdnimhhhllgaaaDoorSlice
namespace Go.Proofs.YtgdnimhhhllgaaaDoor
open Go.RowKit

/-- What a reader of the document has in its block. -/
def rdC (A : Option Addr) (n c : Nat) (s : R.St) : List Value := [.slice A n c, .int .i64 (s.at_ : Int), .int .i64 (s.wh : Int), .int .i64 (s.why : Int)]
def Rd (w : World) (g : Nat) (A : Option Addr) (n c : Nat) (s : R.St) : Prop := Blk w g 41 (rdC A n c s)
theorem Rd.cells {w : World} {g : Nat} {A : Option Addr} {n c : Nat} {s : R.St} (h : Rd w g A n c s) :
    w.cell? ⟨g, 0, none⟩ = some (.slice A n c) ∧ w.cell? ⟨g, 1, none⟩ = some (.int .i64 (s.at_ : Int)) ∧ w.cell? ⟨g, 2, none⟩ = some (.int .i64 (s.wh : Int)) ∧ w.cell? ⟨g, 3, none⟩ = some (.int .i64 (s.why : Int)) ∧
      w.frozen? ⟨g, 1, none⟩ = false ∧ w.frozen? ⟨g, 2, none⟩ = false ∧ w.frozen? ⟨g, 3, none⟩ = false :=
  ⟨Blk.cell h 0, Blk.cell h 1, Blk.cell h 2, Blk.cell h 3, Blk.frozen h 1, Blk.frozen h 2, Blk.frozen h 3⟩
theorem Rd.drewN {w : World} {g : Nat} {A : Option Addr} {n c : Nat} {s : R.St} (h : Rd w g A n c s) (k : Nat) : Rd (w.drewN k) g A n c s := h

set_option maxRecDepth 100000 in
set_option maxHeartbeats 800000 in
theorem rd_fail (g : Nat) (A : Option Addr) (n c : Nat) (s : R.St) (e : Nat) (s' : R.St) (hs' : R.fail s e = s') (w : World) (hk : Rd w g A n c s) :
    Calls Tryd.prog 26 #[.pointer (some ⟨g, 0, none⟩), .int .i64 (e : Int)] w fun r w' => r = .returned (.tuple #[]) ∧ Rd w' g A n c s' ∧ w.grownBy w' (some g) := by
  obtain ⟨_, hc1, hc2, hc3, hf1, hf2, hf3⟩ := hk.cells
  have HK := kp hk; have HS := kp hs'
  clear hk hs'
  obtain ⟨at_, wh, why⟩ := s
  simp only at hc1 hc2 hc3
  by_cases h : why = 0
  · have hz : ((why : Int) == 0) = true := by simp; omega
    have HE : Kept (⟨at_, at_, e⟩ = s') := kp <| by rw [← HS.out]; unfold R.fail; rw [if_pos h]
    clear h
    go_enter Tryd.func26, Tryd.ntmps26
    go_wp2
    go_end0
    refine ⟨rfl, ?_, grown_set (grown_set (grown_refl _ _))⟩
    rw [← HE.out]
    exact (HK.out.set 2 _).set 3 _
  · have hz : ((why : Int) == 0) = false := by simp; omega
    have HE : Kept (⟨at_, wh, why⟩ = s') := kp <| by rw [← HS.out]; unfold R.fail; rw [if_neg h]
    clear h
    go_enter Tryd.func26, Tryd.ntmps26
    go_wp2
    go_end0
    exact ⟨rfl, by rw [← HE.out]; exact HK.out, grown_refl _ _⟩

set_option maxRecDepth 100000 in
set_option maxHeartbeats 1600000 in
theorem rd_num (g B : Nat) (A : Option Addr) (n c : Nat) (bs : List Nat) (s : R.St) (hs : R.Ok bs s) (most : Int) (x : Nat) (s' : R.St) (hx : R.num bs s most = (x, s')) (w : World) (hk : Rd w g A n c s)
    (hr : Row byteV w B A n bs) (hb : ∀ x ∈ bs, x < 256) (hnc : n ≤ c) (hm : c ≤ maxLen) (hBg : B ≤ g) (hBw : B ≤ w.heap.size) :
    Calls Tryd.prog 18 #[.pointer (some ⟨g, 0, none⟩), .int .i64 most] w fun r w' => r = .returned (.int .i64 (x : Int)) ∧ Rd w' g A n c s' ∧ w.grownBy w' (some g) ∧ Row byteV w' B A n bs := by
  obtain ⟨hc0, hc1, hc2, hc3, hf1, hf2, hf3⟩ := hk.cells
  have HK := kp hk; have HR := kp hr; have HB := kp hb; have HS := kp hs
  have hlen := hr.len
  have hat := hs.1
  have hgs := hk.lt
  have HX := kp hx
  have HM := kp hm
  unfold maxLen at hm
  clear hk hr hb hs hx
  by_cases h : s.why = 0
  · have hz : ((s.why : Int) != 0) = false := by simp; omega
    obtain ⟨y, hy⟩ : ∃ y, (V.get (bs.drop s.at_)).1 = y := ⟨_, rfl⟩
    obtain ⟨u, hu⟩ : ∃ y, (V.get (bs.drop s.at_)).2.1 = y := ⟨_, rfl⟩
    obtain ⟨e, he⟩ : ∃ y, (V.get (bs.drop s.at_)).2.2 = y := ⟨_, rfl⟩
    have hbd : ∀ x ∈ bs.drop s.at_, x < 256 := fun x hx => HB.out x (List.mem_of_mem_drop hx)
    obtain ⟨hy1, hu1, he1⟩ := V.get_small (bs.drop s.at_) hbd
    rw [hy] at hy1; rw [hu] at hu1; rw [he] at he1
    have HBD := kp hbd
    have HG : Kept (V.get (bs.drop s.at_) = (y, u, e)) := kp <| by rw [← hy, ← hu, ← he]
    have HNum : Kept ((if e = 0 then if most < (y : Int) then (0, R.fail s 4) else (y, ⟨s.at_ + u, s.wh, 0⟩) else (0, R.fail s e)) = (x, s')) := kp <| by
      rw [← HX.out]; unfold R.num; rw [if_pos h, he, hy, hu]
    have HCut := kp (HR.out.cutOpt (l := s.at_) (c := c) (by omega) hnc)
    have HGet : Kept (∀ W : World, Row byteV W B (if c = s.at_ then A else A.map (·.add s.at_)) (n - s.at_) (bs.drop s.at_) → Calls Tryd.prog 35 #[.slice (if c = s.at_ then A else A.map (·.add s.at_)) (n - s.at_) (c - s.at_)] W fun r w' => r = .returned (.tuple #[.int .i64 (y : Int), .int .i64 (u : Int), .int .i64 (e : Int)]) ∧ W = w') := kp <| fun W hW => by
      have := ref_get_any B _ (n - s.at_) (c - s.at_) (bs.drop s.at_) W hW HBD.out (by unfold maxLen; omega)
      rw [HG.out] at this
      exact this
    obtain ⟨at_, wh, why⟩ := s
    simp only at *
    have HW0 : Kept (why = 0) := kp h
    clear hbd hy hu he h
    have hatn : at_ ≤ n := by omega
    have HRd : Kept (∀ k, Rd (w.drewN k) g A n c ⟨at_, wh, why⟩) := kp fun k => HK.out
    by_cases h0 : e = 0
    · have hze : ((e : Int) != 0) = false := by simp; omega
      have hau : at_ + u ≤ n := by
        have h1 := (V.get_once (bs.drop at_) HBD.out (by rw [HG.out]; exact h0)).2.2
        rw [HG.out, List.length_drop] at h1
        simp only at h1
        omega
      have hm9 : c ≤ 9223372036854775807 := by omega
      by_cases hmo : most < (y : Int)
      · have HE := kp ((show (if e = 0 then if most < (y : Int) then ((0 : Nat), R.fail (⟨at_, wh, why⟩ : R.St) 4) else (y, ⟨at_ + u, wh, 0⟩) else (0, R.fail ⟨at_, wh, why⟩ e)) = (0, R.fail ⟨at_, wh, why⟩ 4) by rw [if_pos h0, if_pos hmo]).symm.trans HNum.out)
        go_enter Tryd.func18, Tryd.ntmps18
        go_wp2
        go_quiet ((go_at_call 35; exact quiet_eq (HGet.out _ (HCut.out.drewN _))))
        generalize (if c = at_ then A else A.map (·.add at_)) = A2
        go_wp2_with (go_at_call 26; go_must (refine (rd_fail g A n c ⟨at_, wh, why⟩ 4 _ rfl _ (HRd.out _)).mono ?_); rintro e2 w2 ⟨rfl, hk2, hg2⟩; have HK2 := kp hk2; have HG2 := kp hg2; clear hk2 hg2)
        go_ret
        have h1 := HE.out
        cases h1
        exact ⟨rfl, HK2.out, grown_trans (grown_drews (grown_refl _ _) _) HG2.out, (HR.out.drewN _).turned HG2.out hBw hBg⟩
      · have HE := kp ((show (if e = 0 then if most < (y : Int) then ((0 : Nat), R.fail (⟨at_, wh, why⟩ : R.St) 4) else (y, ⟨at_ + u, wh, 0⟩) else (0, R.fail ⟨at_, wh, why⟩ e)) = (y, ⟨at_ + u, wh, 0⟩) by rw [if_pos h0, if_neg hmo]).symm.trans HNum.out)
        go_enter Tryd.func18, Tryd.ntmps18
        go_wp2
        go_quiet ((go_at_call 35; exact quiet_eq (HGet.out _ (HCut.out.drewN _))))
        generalize (if c = at_ then A else A.map (·.add at_)) = A2
        go_wp2
        go_ret
        have h1 := HE.out
        cases h1
        have hset := HK.out.set 1 (.int .i64 ((at_ + u : Nat) : Int))
        refine ⟨rfl, ?_, grown_set (grown_drews (grown_refl _ _) _), (HR.out.drewN nq).turned (grown_set (grown_refl _ _)) hBw hBg⟩
        have hw0 := HW0.out
        subst hw0
        exact hset
    · have hze : ((e : Int) != 0) = true := by simp; omega
      have HE := kp ((show (if e = 0 then if most < (y : Int) then ((0 : Nat), R.fail (⟨at_, wh, why⟩ : R.St) 4) else (y, ⟨at_ + u, wh, 0⟩) else (0, R.fail ⟨at_, wh, why⟩ e)) = (0, R.fail ⟨at_, wh, why⟩ e) by rw [if_neg h0]).symm.trans HNum.out)
      go_enter Tryd.func18, Tryd.ntmps18
      go_wp2
      go_quiet ((go_at_call 35; exact quiet_eq (HGet.out _ (HCut.out.drewN _))))
      generalize (if c = at_ then A else A.map (·.add at_)) = A2
      go_wp2_with (go_at_call 26; go_must (refine (rd_fail g A n c ⟨at_, wh, why⟩ e _ rfl _ (HRd.out _)).mono ?_); rintro e2 w2 ⟨rfl, hk2, hg2⟩; have HK2 := kp hk2; have HG2 := kp hg2; clear hk2 hg2)
      go_ret
      have h1 := HE.out
      cases h1
      exact ⟨rfl, HK2.out, grown_trans (grown_drews (grown_refl _ _) _) HG2.out, (HR.out.drewN _).turned HG2.out hBw hBg⟩
  · have hz : ((s.why : Int) != 0) = true := by simp; omega
    have HE : Kept ((0, s) = (x, s')) := kp <| by rw [← HX.out, R.num_why h]
    clear h
    go_enter Tryd.func18, Tryd.ntmps18
    go_wp2
    go_ret
    have h1 := HE.out
    cases h1
    exact ⟨rfl, HK.out, grown_refl _ _, HR.out⟩
end Go.Proofs.YtgdnimhhhllgaaaDoor
