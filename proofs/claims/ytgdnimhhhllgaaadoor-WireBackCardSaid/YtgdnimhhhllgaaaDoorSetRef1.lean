/- The document's own telling of sets, walked: Has, Within, List. -/
import Derived.Test.YtgdnimhhhllgaaaDoorRows
import Derived.Test.YtgdnimhhhllgaaaDoorArr
import Derived.Test.YtgdnimhhhllgaaaDoorKit
import Derived.Test.YtgdnimhhhllgaaaDoorSetMath
import Derived.Deep.QuietTactic
import Derived.BigQuiet
import Derived.Deep.RegionWith
namespace Go.Proofs.YtgdnimhhhllgaaaDoor
open Go.RowKit


set_option maxRecDepth 100000 in
set_option maxHeartbeats 800000 in
theorem ref_has (m : Nat) (hm : m < 4294967296) (id : Int) (hid : -9223372036854775808 ≤ id ∧ id ≤ 9223372036854775807) (b : Bool) (hb : S.has m id = b) (w : World) :
    Calls Tryd.prog 43 #[.int .u32 (m : Int), .int .i64 id] w fun e w' => e = .returned (.bool b) ∧ w = w' := by
  have HB := kp hb
  obtain ⟨hid1, hid2⟩ := hid
  clear hb
  by_cases h : id < 0 ∨ 31 < id
  · have HF : Kept (false = b) := kp <| by rw [← HB.out, S.has_out m id h]
    by_cases h0 : id < 0
    · clear h
      go_enter Tryd.func43, Tryd.ntmps43
      go_wp2
      go_ret
      exact ⟨ret_bool HF.out, rfl⟩
    · have h1 : 31 < id := h.resolve_left h0
      clear h
      go_enter Tryd.func43, Tryd.ntmps43
      go_wp2
      go_ret
      exact ⟨ret_bool HF.out, rfl⟩
  · obtain ⟨n, rfl⟩ : ∃ n : Nat, id = (n : Int) := ⟨id.toNat, by omega⟩
    have hn : n ≤ 31 := by omega
    have HT : Kept (decide (m / 2 ^ n % 2 = 1) = b) := kp <| by rw [← HB.out, S.has_in m n hn, S.bit_div]
    clear h hid1 hid2
    go_enter Tryd.func43, Tryd.ntmps43
    go_wp2
    go_loop [5, 6] (fun v5 v6 => ∃ k : Nat, k ≤ n ∧ v6 = .int .i64 k ∧ v5 = .int .u64 ((m / 2 ^ k : Nat) : Int)) (fun _ v6 => n - (intOf v6).toNat)
    case atStart => exact ⟨0, by omega, rfl, by simp⟩
    case round =>
      obtain ⟨k, hk, rfl, rfl⟩ := hrel
      have hle : m / 2 ^ k ≤ m := Nat.div_le_self _ _
      have HN : Kept (m / 2 ^ k / 2 = m / 2 ^ (k + 1)) := kp <| by rw [Nat.div_div_eq_div_mul, Nat.pow_succ]
      by_cases hlt : k < n
      · generalize m / 2 ^ k = q at *
        go_wp2
        go_round
        case rel => exact ⟨k + 1, by omega, by go_num, by rw [← HN.out]; go_num⟩
        case measure => simp [intOf]; omega
      · have HQ : Kept (decide (m / 2 ^ k % 2 = 1) = b) := kp <| by rw [show k = n by omega]; exact HT.out
        generalize m / 2 ^ k = q at *
        go_wp2
        go_ret
        refine ⟨ret_bool ?_, rfl⟩
        rw [← HQ.out, Bool.eq_iff_iff]
        simp
        omega

set_option maxRecDepth 100000 in
set_option maxHeartbeats 800000 in
theorem ref_list (m : Nat) (hm : m < 4294967296) (w : World) :
    Calls Tryd.prog 32 #[.int .u32 (m : Int)] w fun e w' => ∃ v, e = .returned v ∧ Own w' w.heap.size 3 v ((S.ids m 32).map natV) ∧ Below w.heap.size w w' := by
  go_enter Tryd.func32, Tryd.ntmps32
  go_wp2
  go_loopw [3, 4] (fun v3 v4 wr => ∃ k : Nat, k ≤ 32 ∧ v4 = .int .i64 k ∧ Own wr w.heap.size 3 v3 ((S.ids m k).map natV) ∧ Below w.heap.size w wr) (fun _ v4 _ => 32 - (intOf v4).toNat)
  case atStart => exact ⟨0, by omega, rfl, Own.nil _ _ _, Below.refl _ _⟩
  case round =>
    obtain ⟨k, hk, rfl, hown, hbl⟩ := hrel
    have hB := hbl.size
    have HOwn := kp hown; have HBL := kp hbl
    have hln := S.ids_len m k
    clear hown hbl
    by_cases hlt : k < 32
    · obtain ⟨x, hx⟩ : ∃ x, m.testBit k = x := ⟨_, rfl⟩
      have HX := kp ((S.has_in m k (by omega)).trans hx)
      have HN : Kept (S.ids m (k + 1) = S.ids m k ++ (if x = true then [k] else [])) := kp <| by rw [S.ids_succ, hx]
      clear hx
      cases x
      · go_wp2_with (go_at_call 43; go_must (refine (ref_has m hm k (by omega) _ HX.out _).mono ?_); rintro e w' ⟨rfl, rfl⟩)
        go_roundw
        case rel => exact ⟨k + 1, by omega, by go_num, by rw [HN.out]; simpa using HOwn.out, HBL.out⟩
        case measure => simp [intOf]; omega
      · generalize hl : S.ids m k = l at *
        have HL := kp hl; clear hl
        go_wp2_with (first
          | (go_at_call 43; go_must (refine (ref_has m hm k (by omega) _ HX.out _).mono ?_); rintro e w' ⟨rfl, rfl⟩)
          | (at_builtin; go_must (refine wpList_append_one rfl (.tmp 12) (.tmp 14) 56 rfl w.heap.size 3 _ _ Tryd.underlying56 int_info rfl _ _ _ _ rfl HOwn.out _ 1 rfl rfl rfl (by simp [maxLen]; omega) (by simp; omega) hB ?_); intro v1 w1 hown1 hg1; have HO1 := kp hown1; clear hown1; have HG1 := kp hg1; clear hg1))
        go_roundw
        case rel => exact ⟨k + 1, by omega, by go_num, by rw [HN.out, List.map_append]; exact HO1.out, HG1.out.below HBL.out HOwn.out hB⟩
        case measure => simp [intOf]; omega
    · have hk2 : 32 ≤ k := by omega
      have HI : Kept (S.ids m k = S.ids m 32) := kp <| by rw [show k = 32 by omega]
      clear hlt hk
      go_wp2
      go_ret
      exact ⟨_, rfl, by rw [← HI.out]; exact HOwn.out, HBL.out⟩
end Go.Proofs.YtgdnimhhhllgaaaDoor
