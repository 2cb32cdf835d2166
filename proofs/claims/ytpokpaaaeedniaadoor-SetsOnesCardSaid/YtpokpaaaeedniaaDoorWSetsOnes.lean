/- SetsOnes, walked. -/
import Derived.Test.YtpokpaaaeedniaaDoorSetLaw2
namespace Go.Proofs.YtpokpaaaeedniaaDoor
open Go.RowKit

set_option maxRecDepth 1000000 in
set_option maxHeartbeats 1600000 in
theorem walkSetsOnes (a0 : Int) (a1 : Int) (w : World) (w0 : (Lit.int .i64 a0).wf = true) (w1 : (Lit.int .i64 a1).wf = true) (hL : Tab w) :
    Calls Tryd.prog 8 #[.int .i64 a0, .int .i64 a1] w fun e w' => e = .returned (.bool true) ∧ Below w.heap.size w w' := by
  have hi0 := int_i64 w0
  have hi1 := int_i64 w1
  have hs := hL.size
  have HT := kp hL
  have HI0 := kp hi0; have HI1 := kp hi1
  clear w0 w1 hL
  by_cases h : a0 < 0 ∨ 31 < a0
  · have H1 : Kept (S.one a0 = 0) := kp (S.one_out a0 h)
    have H2 : Kept (S.has 0 a0 = false) := kp (S.has_out 0 a0 h)
    have h3 : (decide (a0 < 0) || decide (31 < a0)) = true := by simpa using h
    rcases h with h | h
    · go_enter Tryd.func8, Tryd.ntmps8
      go_wp2_with (first
        | (go_at_call 9; go_must (refine (awake_any _ HT.out hs).mono ?_); rintro e w1 ⟨rfl, hb1⟩; have HB1 := kp hb1; clear hb1)
        | (go_at_call 20; go_must (refine (one_any a0 HI0.out 0 H1.out _).mono ?_); rintro e w' ⟨rfl, rfl⟩)
        | (go_at_call 12; go_must (refine (has_any 0 (by omega) a0 HI0.out false H2.out _).mono ?_); rintro e w' ⟨rfl, rfl⟩))
      go_ret
      exact ⟨rfl, HB1.out⟩
    · have h4 : ¬ a0 < 0 := by omega
      go_enter Tryd.func8, Tryd.ntmps8
      go_wp2_with (first
        | (go_at_call 9; go_must (refine (awake_any _ HT.out hs).mono ?_); rintro e w1 ⟨rfl, hb1⟩; have HB1 := kp hb1; clear hb1)
        | (go_at_call 20; go_must (refine (one_any a0 HI0.out 0 H1.out _).mono ?_); rintro e w' ⟨rfl, rfl⟩)
        | (go_at_call 12; go_must (refine (has_any 0 (by omega) a0 HI0.out false H2.out _).mono ?_); rintro e w' ⟨rfl, rfl⟩))
      go_ret
      exact ⟨rfl, HB1.out⟩
  · obtain ⟨n, rfl⟩ : ∃ n : Nat, a0 = (n : Int) := ⟨a0.toNat, by omega⟩
    have hn : n ≤ 31 := by omega
    obtain ⟨o, ho⟩ : ∃ o, 2 ^ n = o := ⟨_, rfl⟩
    have hp := pow_le31 n hn
    have hol : o < 4294967296 := by omega
    have HO : Kept (S.one (n : Int) = o) := kp <| by rw [S.one_nat n hn, ho]
    have HC : Kept (S.count o = 1) := kp <| by rw [← ho, S.count_one n hn]
    have HLe : Kept (S.least o = (n : Int)) := kp <| by rw [← ho, S.least_one n hn]
    obtain ⟨r, hr⟩ : ∃ r, decide ((n : Int) = a1) = r := ⟨_, rfl⟩
    have HH : Kept (S.has o a1 = r) := kp <| by rw [← ho, S.has_pow n hn, hr]
    have hreq : ((n : Int) == a1) = r := by rw [← hr, Bool.eq_iff_iff]; simp
    obtain ⟨al, hal⟩ : ∃ x, S.all (n : Int) = x := ⟨_, rfl⟩
    obtain ⟨al2, hal2⟩ : ∃ x, S.all ((n + 1 : Nat) : Int) = x := ⟨_, rfl⟩
    have hor : al ||| o = al2 := by rw [← hal, ← ho, ← hal2]; exact S.all_or_one n hn
    have hand : al &&& o = 0 := by rw [← hal, ← ho]; exact S.all_and_one n hn
    have hall : al < 4294967296 := by rw [← hal]; exact S.all_lt _
    have HAl := kp hal
    have HAl2 : Kept (S.all ((n : Int) + 1) = al2) := kp <| by rw [← hal2]; rfl
    have hb1 : (bits .or .u32 (al : Int) (o : Int) == (al2 : Int)) = true := by rw [u32_or_nat al o hall hol, hor]; simp
    have hb2 : (bits .and .u32 (al : Int) (o : Int) == 0) = true := by rw [u32_and_nat al o hall hol, hand]; rfl
    clear ho hr hal hal2 h hor hand
    cases r
    all_goals go_enter Tryd.func8, Tryd.ntmps8
    all_goals go_wp2_with (first
        | (go_at_call 9; go_must (refine (awake_any _ HT.out hs).mono ?_); rintro e w1 ⟨rfl, hb1⟩; have HB1 := kp hb1; clear hb1)
        | (go_at_call 20; go_must (refine (one_any n HI0.out o HO.out _).mono ?_); rintro e w' ⟨rfl, rfl⟩)
        | (go_at_call 16; go_must (refine (count_any o hol 1 HC.out _).mono ?_); rintro e w' ⟨rfl, rfl⟩)
        | (go_at_call 17; go_must (refine (least_any o hol n HLe.out _ (HT.out.below HB1.out hs)).mono ?_); rintro e w' ⟨rfl, rfl⟩)
        | (go_at_call 12; go_must (refine (has_any o hol a1 HI1.out _ HH.out _).mono ?_); rintro e w' ⟨rfl, rfl⟩)
        | (go_at_call_of 21 (Value.int IntKind.i64 (n : Int)); go_must (refine (all_any n (by omega) al HAl.out _).mono ?_); rintro e w' ⟨rfl, rfl⟩)
        | (go_at_call 21; go_must (refine (all_any ((n : Int) + 1) (by omega) al2 HAl2.out _).mono ?_); rintro e w' ⟨rfl, rfl⟩))
    all_goals go_ret
    all_goals exact ⟨rfl, HB1.out⟩
end Go.Proofs.YtpokpaaaeedniaaDoor
