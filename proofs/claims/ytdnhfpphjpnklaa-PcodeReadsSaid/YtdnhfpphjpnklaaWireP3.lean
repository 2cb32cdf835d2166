/- The program's reader, walked: New, Left, Fault, Num. -/
import Derived.Test.YtdnhfpphjpnklaaWireP1
import Derived.Test.YtdnhfpphjpnklaaPk5
import Derived.Test.YtdnhfpphjpnklaaPk3
import Derived.Deep.RegionWith
namespace Go.Proofs.Ytdnhfpphjpnklaa
open Go.RowKit

/-- What the program's reader has in its block: its bytes, where it stands, its fault. -/
def pdC (A : Option Addr) (n c : Nat) (s : R.St) : List Value := [.slice A n c, .int .i64 (s.at_ : Int), .int .i64 (s.why : Int)]
def Pd (w : World) (g : Nat) (A : Option Addr) (n c : Nat) (s : R.St) : Prop := Blk w g 73 (pdC A n c s)
theorem Pd.cells {w : World} {g : Nat} {A : Option Addr} {n c : Nat} {s : R.St} (h : Pd w g A n c s) :
    w.cell? ⟨g, 0, none⟩ = some (.slice A n c) ∧ w.cell? ⟨g, 1, none⟩ = some (.int .i64 (s.at_ : Int)) ∧ w.cell? ⟨g, 2, none⟩ = some (.int .i64 (s.why : Int)) ∧ w.frozen? ⟨g, 1, none⟩ = false ∧ w.frozen? ⟨g, 2, none⟩ = false :=
  ⟨Blk.cell h 0, Blk.cell h 1, Blk.cell h 2, Blk.frozen h 1, Blk.frozen h 2⟩
theorem Pd.drewN {w : World} {g : Nat} {A : Option Addr} {n c : Nat} {s : R.St} (h : Pd w g A n c s) (k : Nat) : Pd (w.drewN k) g A n c s := h

set_option maxRecDepth 100000 in
set_option maxHeartbeats 800000 in
theorem pd_new2 (B : Nat) (A : Option Addr) (n c : Nat) (bs : List Nat) (w : World) (hr : Row byteV w B A n bs) (hn : n ≤ 1000000) (hB : B ≤ w.heap.size) :
    Calls Try.prog 13 #[.slice A n c] w fun e w' => ∃ g A1 c1, e = .returned (.pointer (some ⟨g, 0, none⟩)) ∧ w.heap.size ≤ g ∧ Pd w' g A1 n c1 ⟨0, 0, 0⟩ ∧ Row byteV w' g A1 n bs ∧ n ≤ c1 ∧ c1 ≤ maxLen ∧ Below w.heap.size w w' ∧ ∀ ad, A1 = some ad → w.heap.size ≤ ad.block := by
  have HR := kp hr
  have hlen := hr.len
  clear hr
  go_enter Try.func13, Try.ntmps13
  go_wp2_with (first
    | (go_at_call 29; go_must (refine (clone_any B A n c bs w HR.out hn hB).mono ?_); rintro e w1 ⟨v, rfl, hown, hb1⟩
       have HBk := kp hown.block
       obtain ⟨A1, c1, rfl, hc1, hm1, hr1⟩ := Own.readsN hown hlen
       have HR1 := kp hr1; have HB1 := kp hb1; have HM1 := kp hm1
       have hs1 := hb1.size
       clear hown hr1 hb1 hm1)
    | ((with_reducible refine wpList_box_agg rfl 73 (.tmp 5) rfl (pdC A1 n c1 ⟨0, 0, 0⟩) rfl ?_); intro g1 w2 hg1 hk1 hu1; have HK1 := kp hk1; have HU1 := kp hu1; clear hk1 hu1))
  go_ret
  exact ⟨g1, A1, c1, rfl, Nat.le_trans hs1 hg1, HK1.out, (HR1.out.below HU1.out).more hg1, hc1, HM1.out, HB1.out.trans (HU1.out.mono hs1), fun ad e => by subst e; exact (HBk.out ad.block rfl).1⟩

theorem pd_new (B : Nat) (A : Option Addr) (n c : Nat) (bs : List Nat) (w : World) (hr : Row byteV w B A n bs) (hn : n ≤ 1000000) (hB : B ≤ w.heap.size) :
    Calls Try.prog 13 #[.slice A n c] w fun e w' => ∃ g A1 c1, e = .returned (.pointer (some ⟨g, 0, none⟩)) ∧ w.heap.size ≤ g ∧ Pd w' g A1 n c1 ⟨0, 0, 0⟩ ∧ Row byteV w' g A1 n bs ∧ n ≤ c1 ∧ c1 ≤ maxLen ∧ Below w.heap.size w w' :=
  (pd_new2 B A n c bs w hr hn hB).mono fun _ _ ⟨g, A1, c1, h1, h2, h3, h4, h5, h6, h7, _⟩ => ⟨g, A1, c1, h1, h2, h3, h4, h5, h6, h7⟩

set_option maxRecDepth 100000 in
set_option maxHeartbeats 800000 in
theorem pd_left (g : Nat) (A : Option Addr) (n c : Nat) (s : R.St) (w : World) (hk : Pd w g A n c s) (hat : s.at_ ≤ n) (hn : n ≤ 1000000) :
    Calls Try.prog 33 #[.pointer (some ⟨g, 0, none⟩)] w fun e w' => e = .returned (.int .i64 ((n : Int) - (s.at_ : Int))) ∧ ∃ m, w' = w.drewN m := by
  obtain ⟨hc0, hc1, hc2, hf1, hf2⟩ := hk.cells
  clear hk
  go_enter Try.func33, Try.ntmps33
  go_wp2
  go_quiet (fail)
  go_wp2
  go_ret
  exact ⟨rfl, _, rfl⟩

set_option maxRecDepth 100000 in
set_option maxHeartbeats 800000 in
theorem pd_refusal (g : Nat) (A : Option Addr) (n c : Nat) (s : R.St) (m : Int) (w : World) (hk : Pd w g A n c s) (hat : s.at_ ≤ n) (hn : n ≤ 1000000) (e : Nat) (he : (if m < 0 then 1 else if (n : Int) - (s.at_ : Int) < m then 2 else 0) = e) :
    Calls Try.prog 30 #[.pointer (some ⟨g, 0, none⟩), .int .i64 m] w fun r w' => r = .returned (.int .i64 (e : Int)) ∧ ∃ k, w' = w.drewN k := by
  have HK := kp hk; have HE := kp he
  clear hk he
  by_cases h0 : m < 0
  · have HE1 : Kept (1 = e) := kp <| by rw [← HE.out, if_pos h0]
    go_enter Try.func30, Try.ntmps30
    go_wp2
    go_ret
    exact ⟨ret_int (by rw [← HE1.out]; rfl), 0, rfl⟩
  · by_cases h1 : (n : Int) - (s.at_ : Int) < m
    · have HE1 : Kept (2 = e) := kp <| by rw [← HE.out, if_neg h0, if_pos h1]
      go_enter Try.func30, Try.ntmps30
      go_wp2_with (go_at_call 33; go_must (refine (pd_left g A n c s w HK.out hat hn).mono ?_); rintro e w1 ⟨rfl, k, rfl⟩)
      go_ret
      exact ⟨ret_int (by rw [← HE1.out]; rfl), k, rfl⟩
    · have HE1 : Kept (0 = e) := kp <| by rw [← HE.out, if_neg h0, if_neg h1]
      go_enter Try.func30, Try.ntmps30
      go_wp2_with (go_at_call 33; go_must (refine (pd_left g A n c s w HK.out hat hn).mono ?_); rintro e w1 ⟨rfl, k, rfl⟩)
      go_ret
      exact ⟨ret_int (by rw [← HE1.out]; rfl), k, rfl⟩

set_option maxRecDepth 100000 in
set_option maxHeartbeats 1600000 in
theorem pd_num (g B : Nat) (A : Option Addr) (n c : Nat) (bs : List Nat) (s : R.St) (hs : R.Ok bs s) (most : Int) (x : Nat) (s' : R.St) (hx : R.num bs s most = (x, s')) (w : World) (hk : Pd w g A n c s)
    (hr : Row byteV w B A n bs) (hb : ∀ x ∈ bs, x < 256) (hnc : n ≤ c) (hm : c ≤ maxLen) (hBg : B ≤ g) (hBw : B ≤ w.heap.size) :
    Calls Try.prog 31 #[.pointer (some ⟨g, 0, none⟩), .int .i64 most] w fun r w' => r = .returned (.int .i64 (x : Int)) ∧ Pd w' g A n c s' ∧ w.grownBy w' (some g) ∧ Row byteV w' B A n bs := by
  obtain ⟨hc0, hc1, hc2, hf1, hf2⟩ := hk.cells
  have HK := kp hk; have HR := kp hr; have HB := kp hb; have HS := kp hs
  have hlen := hr.len
  have hat := hs.1
  have hgs := hk.lt
  have HX := kp hx
  have HM := kp hm
  unfold maxLen at hm
  clear hk hr hb hs hx
  by_cases h : s.why = 0
  · have hz : ((s.why : Int) != 0) = false := by simp; omega
    obtain ⟨y, hy⟩ : ∃ y, (V.get (bs.drop s.at_)).1 = y := ⟨_, rfl⟩
    obtain ⟨u, hu⟩ : ∃ y, (V.get (bs.drop s.at_)).2.1 = y := ⟨_, rfl⟩
    obtain ⟨e, he⟩ : ∃ y, (V.get (bs.drop s.at_)).2.2 = y := ⟨_, rfl⟩
    have hbd : ∀ x ∈ bs.drop s.at_, x < 256 := fun x hx => HB.out x (List.mem_of_mem_drop hx)
    obtain ⟨hy1, hu1, he1⟩ := V.get_small (bs.drop s.at_) hbd
    rw [hy] at hy1; rw [hu] at hu1; rw [he] at he1
    have HBD := kp hbd
    have HG : Kept (V.get (bs.drop s.at_) = (y, u, e)) := kp <| by rw [← hy, ← hu, ← he]
    have HNum : Kept ((if e = 0 then if most < (y : Int) then (0, R.fail s 4) else (y, ⟨s.at_ + u, s.wh, 0⟩) else (0, R.fail s e)) = (x, s')) := kp <| by
      rw [← HX.out]; unfold R.num; rw [if_pos h, he, hy, hu]
    have HCut := kp (HR.out.cutOpt (l := s.at_) (c := c) (by omega) hnc)
    have HGet : Kept (∀ W : World, Row byteV W B (if c = s.at_ then A else A.map (·.add s.at_)) (n - s.at_) (bs.drop s.at_) → Calls Try.prog 42 #[.slice (if c = s.at_ then A else A.map (·.add s.at_)) (n - s.at_) (c - s.at_)] W fun r w' => r = .returned (.tuple #[.int .u32 (y : Int), .int .i64 (u : Int), .int .i64 (e : Int)]) ∧ W = w') := kp <| fun W hW => by
      have := get_any B _ (n - s.at_) (c - s.at_) (bs.drop s.at_) W hW HBD.out (by unfold maxLen; omega)
      rw [HG.out] at this
      exact this
    obtain ⟨at_, wh, why⟩ := s
    simp only at *
    have HFl : Kept (∀ k, R.fail ⟨at_, wh, why⟩ k = ⟨at_, at_, k⟩) := kp fun k => by unfold R.fail; rw [if_pos h]
    have HW0 : Kept (why = 0) := kp h
    clear hbd hy hu he h
    have hatn : at_ ≤ n := by omega
    by_cases h0 : e = 0
    · have hze : ((e : Int) != 0) = false := by simp; omega
      have hze2 : ((e : Int) == 0) = true := by simp; omega
      have hau : at_ + u ≤ n := by
        have h1 := (V.get_once (bs.drop at_) HBD.out (by rw [HG.out]; exact h0)).2.2
        rw [HG.out, List.length_drop] at h1
        simp only at h1
        omega
      have hm9 : c ≤ 9223372036854775807 := by omega
      by_cases hmo : most < (y : Int)
      · have HE := kp ((show (if e = 0 then if most < (y : Int) then ((0 : Nat), R.fail (⟨at_, wh, why⟩ : R.St) 4) else (y, ⟨at_ + u, wh, 0⟩) else (0, R.fail ⟨at_, wh, why⟩ e)) = (0, ⟨at_, at_, 4⟩) by rw [if_pos h0, if_pos hmo, HFl.out]).symm.trans HNum.out)
        go_enter Try.func31, Try.ntmps31
        go_wp2
        go_quiet ((go_at_call 42; exact quiet_eq (HGet.out _ (HCut.out.drewN _))))
        generalize (if c = at_ then A else A.map (·.add at_)) = A2
        go_wp2
        go_ret
        have h1 := HE.out
        cases h1
        exact ⟨rfl, HK.out.set 2 _, grown_set (grown_drews (grown_refl _ _) _), (HR.out.drewN _).turned (grown_set (grown_refl _ _)) hBw hBg⟩
      · have HE := kp ((show (if e = 0 then if most < (y : Int) then ((0 : Nat), R.fail (⟨at_, wh, why⟩ : R.St) 4) else (y, ⟨at_ + u, wh, 0⟩) else (0, R.fail ⟨at_, wh, why⟩ e)) = (y, ⟨at_ + u, wh, 0⟩) by rw [if_pos h0, if_neg hmo]).symm.trans HNum.out)
        go_enter Try.func31, Try.ntmps31
        go_wp2
        go_quiet ((go_at_call 42; exact quiet_eq (HGet.out _ (HCut.out.drewN _))))
        generalize (if c = at_ then A else A.map (·.add at_)) = A2
        go_wp2
        go_ret
        have h1 := HE.out
        cases h1
        have hset := HK.out.set 1 (.int .i64 ((at_ + u : Nat) : Int))
        refine ⟨rfl, ?_, grown_set (grown_drews (grown_refl _ _) _), (HR.out.drewN nq).turned (grown_set (grown_refl _ _)) hBw hBg⟩
        have hw0 := HW0.out
        subst hw0
        exact hset
    · have hze : ((e : Int) != 0) = true := by simp; omega
      have hze2 : ((e : Int) == 0) = false := by simp; omega
      have HE := kp ((show (if e = 0 then if most < (y : Int) then ((0 : Nat), R.fail (⟨at_, wh, why⟩ : R.St) 4) else (y, ⟨at_ + u, wh, 0⟩) else (0, R.fail ⟨at_, wh, why⟩ e)) = (0, ⟨at_, at_, e⟩) by rw [if_neg h0, HFl.out]).symm.trans HNum.out)
      go_enter Try.func31, Try.ntmps31
      go_wp2
      go_quiet ((go_at_call 42; exact quiet_eq (HGet.out _ (HCut.out.drewN _))))
      generalize (if c = at_ then A else A.map (·.add at_)) = A2
      go_wp2
      go_ret
      have h1 := HE.out
      cases h1
      exact ⟨rfl, HK.out.set 2 _, grown_set (grown_drews (grown_refl _ _) _), (HR.out.drewN _).turned (grown_set (grown_refl _ _)) hBw hBg⟩
  · have hz : ((s.why : Int) != 0) = true := by simp; omega
    have HE : Kept ((0, s) = (x, s')) := kp <| by rw [← HX.out, R.num_why h]
    clear h
    go_enter Try.func31, Try.ntmps31
    go_wp2
    go_ret
    have h1 := HE.out
    cases h1
    exact ⟨rfl, HK.out, grown_refl _ _, HR.out⟩
end Go.Proofs.Ytdnhfpphjpnklaa
