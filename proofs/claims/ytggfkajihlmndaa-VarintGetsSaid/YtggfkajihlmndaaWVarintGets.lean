/- VarintGets, walked. -/
import Derived.Test.YtggfkajihlmndaaLaw1
import Derived.Test.YtggfkajihlmndaaWalk5
namespace Go.Proofs.Ytggfkajihlmndaa
open Go.RowKit

set_option maxRecDepth 100000 in
set_option maxHeartbeats 800000 in
theorem walkVarintGets (a0 : Option Addr) (len0 cap0 : Nat) (z0 : List Int) (w : World) (w0 : IsRow .u8 w a0 len0 cap0 z0) :
    Calls Try.prog 4 #[.slice a0 len0 cap0] w fun e w' => e = .returned (.bool true) ∧ Below w.heap.size w w' := by
  obtain ⟨bs, hr, hb, hm, hlc, hcm⟩ := w0.bytes
  have HR := Lib.hid hr
  have HN := Lib.hid hb
  obtain ⟨hs1, hs2, hs3⟩ := V.get_small bs hb
  have hm' := hm
  unfold maxLen at hm'
  clear w0 hr hb hlc hcm
  by_cases h : 2000 < len0
  · go_enter Try.func4, Try.ntmps4
    go_wp2_with fail
    refine (awake_any _).mono ?_
    rintro e w1 ⟨rfl, hb1⟩
    have HB1 := Lib.hid hb1; clear hb1
    go_wp2_with fail
    refine (awake_any _).mono ?_
    rintro e w2 ⟨rfl, hb2⟩
    have HB2 := Lib.hid hb2; clear hb2
    go_wp2
    go_ret
    exact ⟨rfl, HB1.out.trans (HB2.out.mono HB1.out.size)⟩
  · go_enter Try.func4, Try.ntmps4
    go_wp2_with (first | (go_at_call 9; go_must (refine (awake_any _).mono ?_); rintro e w1 ⟨rfl, hb1⟩; have HB1 := Lib.hid hb1; clear hb1) | (go_at_call 14; go_must (refine (get_any _ _ _ _ bs _ (HR.out.below HB1.out) HN.out hm).mono ?_); rintro e w' ⟨rfl, rfl⟩) | (go_at_call 15; go_must (refine (ref_get_any _ _ _ _ bs _ (HR.out.below HB1.out) HN.out hm).mono ?_); rintro e w' ⟨rfl, rfl⟩))
    go_ret
    exact ⟨rfl, HB1.out⟩
end Go.Proofs.Ytggfkajihlmndaa
