/- VarintSizes, walked. -/
import Derived.Test.YtggfkajihlmndaaLaw1
import Derived.Test.YtggfkajihlmndaaWalk5
namespace Go.Proofs.Ytggfkajihlmndaa
open Go.RowKit

theorem size_times (a : Nat) (h : a < 33554432) (w : World) : Calls Try.prog 12 #[.int .u32 (128 * (a : Int) % 4294967296)] w fun e w' => e = .returned (.int .i64 (V.size (128 * a) : Int)) ∧ w = w' := by
  rw [show 128 * (a : Int) % 4294967296 = ((128 * a : Nat) : Int) by omega]
  exact size_any (128 * a) (by omega) w

set_option maxRecDepth 100000 in
set_option maxHeartbeats 800000 in
theorem walkVarintSizes (a0 a1 : Int) (w0 : (Lit.int .u32 a0).wf = true) (w1 : (Lit.int .u32 a1).wf = true) (w : World) :
    Calls Try.prog 7 #[.int .u32 a0, .int .u32 a1] w fun e w' => e = .returned (.bool true) ∧ Below w.heap.size w w' := by
  have r0 := u32_range a0 w0
  have r1 := u32_range a1 w1
  obtain ⟨a, rfl⟩ := Int.eq_ofNat_of_zero_le r0.1
  obtain ⟨b, rfl⟩ := Int.eq_ofNat_of_zero_le r1.1
  have ha : a < 4294967296 := by omega
  have hb : b < 4294967296 := by omega
  clear w0 w1 r0 r1
  have hz1 := V.size_le a
  have hz2 := V.size_le b
  have hz3 := V.size_le (128 * a)
  have HM1 := Lib.hid (V.size_mono a b)
  have HM2 := Lib.hid (V.size_mono b a)
  by_cases hab : a ≤ b
  · have hm := HM1.out hab
    by_cases h0 : a = 0
    · have hb0 : ((a : Int) == 0) = true := by simp; omega
      clear h0
      go_enter Try.func7, Try.ntmps7
      go_wp2_with (first | (go_at_call 9; go_must (refine (awake_any _).mono ?_); rintro e w1 ⟨rfl, hb1⟩; have HB1 := Lib.hid hb1; clear hb1) | (go_at_call 12; with_reducible refine (size_any a ha _).mono ?_; rintro e w' ⟨rfl, rfl⟩) | (go_at_call 12; with_reducible refine (size_any b hb _).mono ?_; rintro e w' ⟨rfl, rfl⟩))
      go_ret
      exact ⟨rfl, HB1.out⟩
    · have hb0 : ((a : Int) == 0) = false := by simp; omega
      by_cases h25 : a < 33554432
      · have hs : V.size (128 * a) = V.size a + 1 := V.size_128 a h25 h0
        have hb1 : ((V.size (128 * a) : Int) == (V.size a : Int) + 1) = true := by simp; omega
        clear h0 hs
        have hd : decide ((33554432 : Int) ≤ (a : Int)) = false := by simp; omega
        have H25 := Lib.hid h25; clear h25
        go_enter Try.func7, Try.ntmps7
        go_wp2_with (first | (go_at_call 9; go_must (refine (awake_any _).mono ?_); rintro e w1 ⟨rfl, hb1⟩; have HB1 := Lib.hid hb1; clear hb1) | (go_at_call 12; with_reducible refine (size_any a ha _).mono ?_; rintro e w' ⟨rfl, rfl⟩) | (go_at_call 12; with_reducible refine (size_any b hb _).mono ?_; rintro e w' ⟨rfl, rfl⟩) | (go_at_call 12; with_reducible refine (size_times a H25.out _).mono ?_; rintro e w' ⟨rfl, rfl⟩))
        go_ret
        exact ⟨rfl, HB1.out⟩
      · clear h0
        have hd : decide ((33554432 : Int) ≤ (a : Int)) = true := by simp; omega
        have H25 := Lib.hid h25; clear h25
        go_enter Try.func7, Try.ntmps7
        go_wp2_with (first | (go_at_call 9; go_must (refine (awake_any _).mono ?_); rintro e w1 ⟨rfl, hb1⟩; have HB1 := Lib.hid hb1; clear hb1) | (go_at_call 12; with_reducible refine (size_any a ha _).mono ?_; rintro e w' ⟨rfl, rfl⟩) | (go_at_call 12; with_reducible refine (size_any b hb _).mono ?_; rintro e w' ⟨rfl, rfl⟩))
        go_ret
        exact ⟨rfl, HB1.out⟩
  · have hm := HM2.out (by omega)
    have h0 : a ≠ 0 := by omega
    have hb0 : ((a : Int) == 0) = false := by simp; omega
    by_cases h25 : a < 33554432
    · have hs : V.size (128 * a) = V.size a + 1 := V.size_128 a h25 h0
      have hb1 : ((V.size (128 * a) : Int) == (V.size a : Int) + 1) = true := by simp; omega
      clear h0 hs
      have hd : decide ((33554432 : Int) ≤ (a : Int)) = false := by simp; omega
      have H25 := Lib.hid h25; clear h25
      go_enter Try.func7, Try.ntmps7
      go_wp2_with (first | (go_at_call 9; go_must (refine (awake_any _).mono ?_); rintro e w1 ⟨rfl, hb1⟩; have HB1 := Lib.hid hb1; clear hb1) | (go_at_call 12; with_reducible refine (size_any a ha _).mono ?_; rintro e w' ⟨rfl, rfl⟩) | (go_at_call 12; with_reducible refine (size_any b hb _).mono ?_; rintro e w' ⟨rfl, rfl⟩) | (go_at_call 12; with_reducible refine (size_times a H25.out _).mono ?_; rintro e w' ⟨rfl, rfl⟩))
      go_ret
      exact ⟨rfl, HB1.out⟩
    · clear h0
      have hd : decide ((33554432 : Int) ≤ (a : Int)) = true := by simp; omega
      have H25 := Lib.hid h25; clear h25
      go_enter Try.func7, Try.ntmps7
      go_wp2_with (first | (go_at_call 9; go_must (refine (awake_any _).mono ?_); rintro e w1 ⟨rfl, hb1⟩; have HB1 := Lib.hid hb1; clear hb1) | (go_at_call 12; with_reducible refine (size_any a ha _).mono ?_; rintro e w' ⟨rfl, rfl⟩) | (go_at_call 12; with_reducible refine (size_any b hb _).mono ?_; rintro e w' ⟨rfl, rfl⟩))
      go_ret
      exact ⟨rfl, HB1.out⟩
end Go.Proofs.Ytggfkajihlmndaa
