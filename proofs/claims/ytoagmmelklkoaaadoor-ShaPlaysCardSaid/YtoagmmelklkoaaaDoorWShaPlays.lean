/- ShaPlays, walked. -/
import Derived.Test.YtoagmmelklkoaaaDoorShaLaw2
import Derived.Test.YtoagmmelklkoaaaDoorShaRef4
namespace Go.Proofs.YtoagmmelklkoaaaDoor
open Go.RowKit

set_option maxRecDepth 1000000 in
set_option maxHeartbeats 1600000 in
theorem walkShaPlays (a0 : Option Addr) (len0 cap0 : Nat) (z0 : List Int) (w : World) (w0 : IsRow .u8 w a0 len0 cap0 z0) (hL : Row wordV w 1 (some ⟨0, 0, none⟩) 64 H.K) :
    Calls Tryd.prog 3 #[.slice a0 len0 cap0] w fun e w' => e = .returned (.bool true) ∧ Below w.heap.size w w' := by
  obtain ⟨bs, hr, hb, hm, hlc, hcm⟩ := w0.bytes
  have HR := kp hr; have HN := kp hb; have HK := kp hL
  have hk1 := keys_size hL
  have hlen0 := hr.len
  have HL0 := kp hlen0
  unfold maxLen at hm hcm
  clear w0 hr hb hL hlen0
  by_cases h : 3000 < len0
  · go_enter Tryd.func3, Tryd.ntmps3
    go_wp2_with fail
    refine (awake_any _ HK.out).mono ?_
    rintro e w1 ⟨rfl, hb1⟩
    have HB1 := kp hb1; clear hb1
    go_wp2_with fail
    refine (awake_any _ (HK.out.below (HB1.out.mono hk1))).mono ?_
    rintro e w2 ⟨rfl, hb2⟩
    have HB2 := kp hb2; clear hb2
    go_wp2
    go_ret
    exact ⟨rfl, HB1.out.trans (HB2.out.mono HB1.out.size)⟩
  · have h0 : len0 ≤ 3000 := by omega
    clear h
    obtain ⟨dig, hdig⟩ : ∃ d, H.digest bs = d := ⟨_, rfl⟩
    have HDig := kp hdig; clear hdig
    have HDL : Kept (dig.length = 32) := kp <| by rw [← HDig.out]; exact digest_len _
    have HLen : Kept (bs.length ≤ 900000000) := kp <| by rw [HL0.out]; omega
    go_enter Tryd.func3, Tryd.ntmps3
    go_wp2_with (first
      | (go_at_call 7; go_must (refine (awake_any _ HK.out).mono ?_); rintro e w1 ⟨rfl, hb1⟩; have HB1 := kp hb1; clear hb1)
      | (go_at_call 8; go_must (refine (of_lit a0 len0 cap0 w.heap.size bs w1 (HR.out.below HB1.out) HB1.out.size HN.out hlc (HK.out.below (HB1.out.mono hk1)) HLen.out dig HDig.out).mono ?_); rintro e w2 ⟨rfl, hw2⟩; have HB2 := kp (HB1.out.trans (hw2.mono HB1.out.size)); clear hw2)
      | (go_at_call 9; go_must (refine (ref_of a0 len0 cap0 bs w2 ((HR.out.below HB2.out).more HB2.out.size) HN.out (by omega) dig HDig.out).mono ?_); rintro e w3 ⟨rfl, hw3⟩; have HB3 := kp (HB2.out.trans (hw3.mono HB2.out.size)); clear hw3)
      | ((with_reducible show wpList _ _ _ (⟨some 16, _, _, _, _, _⟩ :: _) _ _); go_must (refine wpList_eql_dig rfl (.tmp 13) (.tmp 15) _ rfl dig HDL.out rfl rfl ?_)))
    go_ret
    exact ⟨rfl, HB3.out⟩
end Go.Proofs.YtoagmmelklkoaaaDoor
