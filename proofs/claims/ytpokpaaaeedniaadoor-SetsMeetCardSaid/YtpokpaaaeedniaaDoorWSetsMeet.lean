/- SetsMeet, walked. -/
import Derived.Test.YtpokpaaaeedniaaDoorSetLaw2
namespace Go.Proofs.YtpokpaaaeedniaaDoor
open Go.RowKit

set_option maxRecDepth 1000000 in
set_option maxHeartbeats 1600000 in
theorem walkSetsMeet (a0 : Option Addr) (len0 cap0 : Nat) (z0 : List Int) (a1 : Int) (w : World) (w0 : IsRow .u32 w a0 len0 cap0 z0) (w1 : (Lit.int .u32 a1).wf = true) (hL : Tab w) :
    Calls Tryd.prog 6 #[.slice a0 len0 cap0, .int .u32 a1] w fun e w' => e = .returned (.bool true) ∧ Below w.heap.size w w' := by
  obtain ⟨l, hr, hb, hm, hlc, hcm⟩ := w0.words
  obtain ⟨a, rfl, ha⟩ := nat_u32 w1
  have HR : Kept (Row wordV w w.heap.size a0 len0 l) := kp hr
  have HN := kp hb
  have hs := hL.size
  have HT := kp hL
  unfold maxLen at hm hcm
  clear w0 w1 hr hb hL
  by_cases h : 300 < len0
  · go_enter Tryd.func6, Tryd.ntmps6
    go_wp2_with fail
    refine (awake_any _ HT.out hs).mono ?_
    rintro e w1 ⟨rfl, hb1⟩
    have HB1 := kp hb1; clear hb1
    have hs1 := HB1.out.size
    go_wp2_with fail
    refine (awake_any _ (HT.out.below HB1.out hs) (by omega)).mono ?_
    rintro e w2 ⟨rfl, hb2⟩
    have HB2 := kp hb2; clear hb2
    go_wp2
    go_ret
    exact ⟨rfl, HB1.out.trans (HB2.out.mono HB1.out.size)⟩
  · obtain ⟨m, hm2⟩ : ∃ m, S.meet l = m := ⟨_, rfl⟩
    have hmlt : m < 4294967296 := by rw [← hm2]; exact S.meet_lt l
    have HMl : Kept (∀ x ∈ l, S.within m x 32 = true) := kp <| fun x hx => by rw [← hm2]; exact S.meet_within l x hx
    obtain ⟨r, hr⟩ : ∃ r, S.within a m 32 = r := ⟨_, rfl⟩
    have HAll : Kept ((l.all fun x => S.within a x 32) = r) := kp <| by rw [← hr, ← hm2, S.within_meet]
    have HA32 : Kept (S.all 32 = 4294967295) := kp <| by decide
    have hmt : len0 = 0 → m = 4294967295 := fun h0 => by
      rw [← hm2, show l = [] from List.eq_nil_of_length_eq_zero (by rw [HR.out.len, h0])]; rfl
    have HM := kp hm2; have HW := kp hr
    clear hm2 hr
    go_enter Tryd.func6, Tryd.ntmps6
    go_wp2_with (first
      | (go_at_call 9; go_must (refine (awake_any _ HT.out hs).mono ?_); rintro e w1 ⟨rfl, hb1⟩; have HB1 := kp hb1; clear hb1)
      | (go_at_call 24; go_must (refine (meet_any _ a0 len0 cap0 l _ (HR.out.below HB1.out) HN.out (by omega) m HM.out).mono ?_); rintro e w' ⟨rfl, rfl⟩))
    go_loop [6, 7] (fun v6 v7 => ∃ (i : Nat) (b : Bool), i ≤ len0 ∧ v7 = .int .i64 i ∧ v6 = .bool b ∧ ((l.take i).all fun x => S.within a x 32) = b) (fun _ v7 => len0 - (intOf v7).toNat)
    case atStart => exact ⟨0, true, by omega, rfl, rfl, rfl⟩
    case round =>
      obtain ⟨i, b, hi, rfl, rfl, hq⟩ := hrel
      have HQ := kp hq
      clear hq
      by_cases hlt : i < len0
      · obtain ⟨ad, x, rfl, hab, hx, hc⟩ := (HR.out.below HB1.out).get hlt
        rw [wordV_def] at hc
        have hx32 := HN.out x (List.mem_of_getElem? hx)
        have HX : Kept (S.within m x 32 = true) := kp (HMl.out x (List.mem_of_getElem? hx))
        obtain ⟨s, hsx⟩ : ∃ s, S.within a x 32 = s := ⟨_, rfl⟩
        have HNx : Kept (((l.take (i + 1)).all fun x => S.within a x 32) = (b && s)) := kp <| by rw [List.take_add_one, hx, List.all_append, HQ.out]; simp [hsx]
        have HSx := kp hsx
        clear hsx hx hab hmt
        cases b <;> cases s
        all_goals go_wp2_with (first
          | (go_at_call_of 14 (#[Value.int IntKind.u32 (m : Int), Value.int IntKind.u32 (x : Int)]); go_must (refine (within_any m x hmlt hx32 _ HX.out _).mono ?_); rintro e w' ⟨rfl, rfl⟩)
          | (go_at_call_of 14 (#[Value.int IntKind.u32 (a : Int), Value.int IntKind.u32 (x : Int)]); go_must (refine (within_any a x ha hx32 _ HSx.out _).mono ?_); rintro e w' ⟨rfl, rfl⟩))
        all_goals go_round
        case rel => exact ⟨i + 1, _, by omega, by go_num, rfl, HNx.out⟩
        case measure => simp [intOf]; omega
        case rel => exact ⟨i + 1, _, by omega, by go_num, rfl, HNx.out⟩
        case measure => simp [intOf]; omega
        case rel => exact ⟨i + 1, _, by omega, by go_num, rfl, HNx.out⟩
        case measure => simp [intOf]; omega
        case rel => exact ⟨i + 1, _, by omega, by go_num, rfl, HNx.out⟩
        case measure => simp [intOf]; omega
      · have hge : len0 ≤ i := by omega
        have hbr : b = r := by
          rw [← HAll.out, ← HQ.out, List.take_of_length_le (by rw [HR.out.len]; exact hge)]
        subst hbr
        have hbb : (b == b) = true := by cases b <;> rfl
        clear hlt
        by_cases h0 : len0 = 0
        · have hm0 := hmt h0
          subst hm0
          clear hmt
          go_wp2_with (first
            | (go_at_call 14; go_must (refine (within_any a _ ha hmlt _ HW.out _).mono ?_); rintro e w' ⟨rfl, rfl⟩)
            | (go_at_call 21; go_must (refine (all_any 32 (by omega) _ HA32.out _).mono ?_); rintro e w' ⟨rfl, rfl⟩))
          go_ret
          exact ⟨rfl, HB1.out⟩
        · have h00 : 0 < len0 := by omega
          clear hmt
          go_wp2_with (first
            | (go_at_call 14; go_must (refine (within_any a _ ha hmlt _ HW.out _).mono ?_); rintro e w' ⟨rfl, rfl⟩)
            | (go_at_call 21; go_must (refine (all_any 32 (by omega) _ HA32.out _).mono ?_); rintro e w' ⟨rfl, rfl⟩))
          go_ret
          exact ⟨rfl, HB1.out⟩
end Go.Proofs.YtpokpaaaeedniaaDoor
