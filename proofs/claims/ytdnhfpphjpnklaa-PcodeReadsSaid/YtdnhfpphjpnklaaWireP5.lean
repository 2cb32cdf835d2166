/- The program's reader, walked: Block, Done, idAbove, Set. -/
import Derived.Test.YtdnhfpphjpnklaaWireP4
import Derived.Test.YtdnhfpphjpnklaaPk7
namespace Go.Proofs.Ytdnhfpphjpnklaa
open Go.RowKit

set_option maxRecDepth 100000 in
set_option maxHeartbeats 800000 in
theorem pd_done (g : Nat) (A : Option Addr) (n c : Nat) (s : R.St) (w : World) (hk : Pd w g A n c s) (hat : s.at_ ≤ n) (hn : n ≤ 1000000) (s' : R.St) (hs' : (if s.why = 0 ∧ s.at_ < n then R.fail s 7 else s) = s') :
    Calls Try.prog 16 #[.pointer (some ⟨g, 0, none⟩)] w fun r w' => r = .returned (.bool (decide (s'.why = 0))) ∧ Pd w' g A n c s' ∧ w.grownBy w' (some g) := by
  obtain ⟨hc0, hc1, hc2, hf1, hf2⟩ := hk.cells
  have HK := kp hk; have HX := kp hs'
  have hgs := hk.lt
  clear hk hs'
  obtain ⟨at_, wh, why⟩ := s
  simp only at *
  by_cases h : why = 0
  · have hz : ((why : Int) == 0) = true := by simp; omega
    by_cases hlt : at_ < n
    · have HE : Kept (⟨at_, at_, 7⟩ = s') := kp <| by rw [← HX.out, if_pos ⟨h, hlt⟩]; unfold R.fail; rw [if_pos h]
      clear h
      go_enter Try.func16, Try.ntmps16
      go_wp2_with (first
        | (go_at_call 33; go_must (refine (pd_left g A n c ⟨at_, wh, why⟩ w HK.out hat hn).mono ?_); rintro r w1 ⟨rfl, j, hw1⟩
           have HK1 : Kept (Pd w1 g A n c ⟨at_, wh, why⟩) := kp (by rw [hw1]; exact HK.out)
           have HG1 : Kept (w.grownBy w1 (some g)) := kp (by rw [hw1]; exact grown_drews (grown_refl _ _) _)
           obtain ⟨hd0, hd1, hd2, he1, he2⟩ := HK1.out.cells
           clear hw1 hc0 hc1 hc2 hf1 hf2))
      go_ret
      have h1 := HE.out
      subst h1
      exact ⟨rfl, HK1.out.set 2 _, grown_set HG1.out⟩
    · have HE : Kept (⟨at_, wh, why⟩ = s') := kp <| by rw [← HX.out, if_neg (fun h1 => hlt h1.2)]
      have h' := h
      clear h
      have hge : n - at_ = 0 := by omega
      go_enter Try.func16, Try.ntmps16
      go_wp2_with (first
        | (go_at_call 33; go_must (refine (pd_left g A n c ⟨at_, wh, why⟩ w HK.out hat hn).mono ?_); rintro r w1 ⟨rfl, j, hw1⟩
           have HK1 : Kept (Pd w1 g A n c ⟨at_, wh, why⟩) := kp (by rw [hw1]; exact HK.out)
           have HG1 : Kept (w.grownBy w1 (some g)) := kp (by rw [hw1]; exact grown_drews (grown_refl _ _) _)
           obtain ⟨hd0, hd1, hd2, he1, he2⟩ := HK1.out.cells
           clear hw1 hc0 hc1 hc2 hf1 hf2))
      go_ret
      have h1 := HE.out
      subst h1
      exact ⟨ret_bool (by rw [decide_eq_true h']), HK1.out, HG1.out⟩
  · have hz : ((why : Int) == 0) = false := by simp; omega
    have HE : Kept (⟨at_, wh, why⟩ = s') := kp <| by rw [← HX.out, if_neg (fun h1 => h h1.1)]
    have HW := kp h
    clear h
    go_enter Try.func16, Try.ntmps16
    go_wp2
    go_ret
    have h1 := HE.out
    subst h1
    exact ⟨ret_bool (by rw [decide_eq_false HW.out]), HK.out, grown_refl _ _⟩

set_option maxRecDepth 100000 in
set_option maxHeartbeats 800000 in
theorem pd_done_why (g : Nat) (A : Option Addr) (n c : Nat) (s : R.St) (w : World) (hk : Pd w g A n c s) (h : s.why ≠ 0) :
    Calls Try.prog 16 #[.pointer (some ⟨g, 0, none⟩)] w fun r w' => r = .returned (.bool false) ∧ w = w' := by
  obtain ⟨hc0, hc1, hc2, hf1, hf2⟩ := hk.cells
  have hz : ((s.why : Int) == 0) = false := by simp; omega
  clear hk h
  go_enter Try.func16, Try.ntmps16
  go_wp2
  go_ret
  exact ⟨rfl, rfl⟩

/-- Where a reader stands when an id has to be above one. -/
def R.above (s s1 : R.St) (x : Nat) (last : Int) : R.St := if s1.why = 0 ∧ (x : Int) ≤ last then ⟨s.at_, s.at_, 5⟩ else s1

/-- The last of the ids, -1 ahead of the first. -/
def lastOf (l : List Nat) : Int := if l = [] then -1 else (l.getLastD 0 : Int)
theorem lastOf_nil : lastOf [] = -1 := rfl
theorem lastOf_snoc (l : List Nat) (x : Nat) : lastOf (l ++ [x]) = (x : Int) := by
  unfold lastOf
  rw [if_neg (by simp)]
  simp [List.getLastD_eq_getLast?]
theorem lastOf_le (l : List Nat) (x : Nat) : (l ≠ [] ∧ x ≤ l.getLastD 0) ↔ (x : Int) ≤ lastOf l := by
  unfold lastOf
  by_cases h : l = []
  · rw [if_pos h]
    constructor
    · intro h1; exact absurd h h1.1
    · intro h1; omega
  · rw [if_neg h]
    constructor
    · intro h1; omega
    · intro h1; exact ⟨h, by omega⟩
/-- A mask whose ids end at the last one. -/
def Upto (l : List Nat) : Prop := S.mask l < 2 ^ (lastOf l + 1).toNat ∧ -1 ≤ lastOf l ∧ lastOf l ≤ 31
theorem upto_nil : Upto [] := ⟨by decide, by decide, by decide⟩
theorem Upto.lt {l : List Nat} (h : Upto l) : S.mask l < 4294967296 := by
  obtain ⟨h1, h2, h3⟩ := h
  have : 2 ^ (lastOf l + 1).toNat ≤ 2 ^ 32 := Nat.pow_le_pow_right (by decide) (by omega)
  omega
theorem Upto.snoc {l : List Nat} (h : Upto l) {x : Nat} (hx : ¬ (x : Int) ≤ lastOf l) (h31 : x ≤ 31) : Upto (l ++ [x]) ∧ S.mask (l ++ [x]) = S.mask l ||| S.one x := by
  obtain ⟨h1, h2, h3⟩ := h
  have hp : 2 ^ (lastOf l + 1).toNat ≤ 2 ^ x := Nat.pow_le_pow_right (by decide) (by omega)
  have hm : S.mask (l ++ [x]) = S.mask l + 2 ^ x := S.mask_snoc l x
  refine ⟨⟨?_, by rw [lastOf_snoc]; omega, by rw [lastOf_snoc]; omega⟩, ?_⟩
  · rw [lastOf_snoc, hm, show ((x : Int) + 1).toNat = x + 1 by omega, Nat.pow_succ]; omega
  · rw [hm, S.one_nat x h31, or_add _ _ (by omega)]
end Go.Proofs.Ytdnhfpphjpnklaa
