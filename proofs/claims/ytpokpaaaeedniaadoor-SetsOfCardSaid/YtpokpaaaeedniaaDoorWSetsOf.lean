/- SetsOf, walked. -/
import Derived.Test.YtpokpaaaeedniaaDoorSetLaw2
namespace Go.Proofs.YtpokpaaaeedniaaDoor
open Go.RowKit

set_option maxRecDepth 1000000 in
set_option maxHeartbeats 1600000 in
theorem walkSetsOf (a0 : Option Addr) (len0 cap0 : Nat) (z0 : List Int) (a1 : Int) (w : World) (w0 : IsRow .i64 w a0 len0 cap0 z0) (w1 : (Lit.int .i64 a1).wf = true) (hL : Tab w) :
    Calls Tryd.prog 4 #[.slice a0 len0 cap0, .int .i64 a1] w fun e w' => e = .returned (.bool true) ∧ Below w.heap.size w w' := by
  obtain ⟨l, hr, hb, hm, hlc, hcm⟩ := w0.ints
  have HR := kp hr; have HN := kp hb
  have HI := kp (int_i64 w1)
  have hs := hL.size
  have HT := kp hL
  unfold maxLen at hm hcm
  clear w0 w1 hr hb hL
  by_cases h : 300 < len0
  · go_enter Tryd.func4, Tryd.ntmps4
    go_wp2_with fail
    refine (awake_any _ HT.out hs).mono ?_
    rintro e w1 ⟨rfl, hb1⟩
    have HB1 := kp hb1; clear hb1
    have hs1 := HB1.out.size
    go_wp2_with fail
    refine (awake_any _ (HT.out.below HB1.out hs) (by omega)).mono ?_
    rintro e w2 ⟨rfl, hb2⟩
    have HB2 := kp hb2; clear hb2
    go_wp2
    go_ret
    exact ⟨rfl, HB1.out.trans (HB2.out.mono HB1.out.size)⟩
  · obtain ⟨m, hm2⟩ : ∃ m, ofMask l a1 = m := ⟨_, rfl⟩
    obtain ⟨f, hf⟩ : ∃ f, S.first l a1 l.length = f := ⟨_, rfl⟩
    have HM := kp hm2; have HF := kp hf
    clear hm2 hf
    go_enter Tryd.func4, Tryd.ntmps4
    go_wp2_with (first
      | (go_at_call 9; go_must (refine (awake_any _ HT.out hs).mono ?_); rintro e w1 ⟨rfl, hb1⟩; have HB1 := kp hb1; clear hb1)
      | (go_at_call 22; go_must (refine (of_any _ a0 len0 cap0 l a1 _ (HR.out.below HB1.out) HN.out HI.out (by omega) m f HM.out HF.out).mono ?_); rintro e w' ⟨rfl, rfl⟩)
      | (go_at_call 23; go_must (refine (ref_of _ a0 len0 cap0 l a1 _ (HR.out.below HB1.out) HN.out HI.out (by omega) m f HM.out HF.out).mono ?_); rintro e w2 ⟨rfl, k, rfl⟩))
    go_ret
    exact ⟨rfl, below_drewN HB1.out _⟩
end Go.Proofs.YtpokpaaaeedniaaDoor
