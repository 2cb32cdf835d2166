/- SetRef1, SetRef2, in one text. -/
import Derived.Test.YtfifnahcobjjdaaDoorRows
import Derived.Test.YtfifnahcobjjdaaDoorArr
import Derived.Test.YtfifnahcobjjdaaDoorKit
import Derived.Test.YtfifnahcobjjdaaDoorPk5
import Derived.Deep.QuietTactic
import Derived.BigQuiet
import Derived.Deep.RegionWith
/- The document's own telling of sets, walked: Has, Within, List. -/
namespace Go.Proofs.YtfifnahcobjjdaaDoor
open Go.RowKit


set_option maxRecDepth 100000 in
set_option maxHeartbeats 800000 in
theorem ref_has (m : Nat) (hm : m < 4294967296) (id : Int) (hid : -9223372036854775808 ≤ id ∧ id ≤ 9223372036854775807) (b : Bool) (hb : S.has m id = b) (w : World) :
    Calls Tryd.prog 21 #[.int .u32 (m : Int), .int .i64 id] w fun e w' => e = .returned (.bool b) ∧ w = w' := by
  have HB := kp hb
  obtain ⟨hid1, hid2⟩ := hid
  clear hb
  by_cases h : id < 0 ∨ 31 < id
  · have HF : Kept (false = b) := kp <| by rw [← HB.out, S.has_out m id h]
    by_cases h0 : id < 0
    · clear h
      go_enter Tryd.func21, Tryd.ntmps21
      go_wp2
      go_ret
      exact ⟨ret_bool HF.out, rfl⟩
    · have h1 : 31 < id := h.resolve_left h0
      clear h
      go_enter Tryd.func21, Tryd.ntmps21
      go_wp2
      go_ret
      exact ⟨ret_bool HF.out, rfl⟩
  · obtain ⟨n, rfl⟩ : ∃ n : Nat, id = (n : Int) := ⟨id.toNat, by omega⟩
    have hn : n ≤ 31 := by omega
    have HT : Kept (decide (m / 2 ^ n % 2 = 1) = b) := kp <| by rw [← HB.out, S.has_in m n hn, S.bit_div]
    clear h hid1 hid2
    go_enter Tryd.func21, Tryd.ntmps21
    go_wp2
    go_loop [5, 6] (fun v5 v6 => ∃ k : Nat, k ≤ n ∧ v6 = .int .i64 k ∧ v5 = .int .u64 ((m / 2 ^ k : Nat) : Int)) (fun _ v6 => n - (intOf v6).toNat)
    case atStart => exact ⟨0, by omega, rfl, by simp⟩
    case round =>
      obtain ⟨k, hk, rfl, rfl⟩ := hrel
      have hle : m / 2 ^ k ≤ m := Nat.div_le_self _ _
      have HN : Kept (m / 2 ^ k / 2 = m / 2 ^ (k + 1)) := kp <| by rw [Nat.div_div_eq_div_mul, Nat.pow_succ]
      by_cases hlt : k < n
      · generalize m / 2 ^ k = q at *
        go_wp2
        go_round
        case rel => exact ⟨k + 1, by omega, by go_num, by rw [← HN.out]; go_num⟩
        case measure => simp [intOf]; omega
      · have HQ : Kept (decide (m / 2 ^ k % 2 = 1) = b) := kp <| by rw [show k = n by omega]; exact HT.out
        generalize m / 2 ^ k = q at *
        go_wp2
        go_ret
        refine ⟨ret_bool ?_, rfl⟩
        rw [← HQ.out, Bool.eq_iff_iff]
        simp
        omega

set_option maxRecDepth 100000 in
set_option maxHeartbeats 800000 in
theorem ref_list (m : Nat) (hm : m < 4294967296) (w : World) :
    Calls Tryd.prog 13 #[.int .u32 (m : Int)] w fun e w' => ∃ v, e = .returned v ∧ Own w' w.heap.size 3 v ((S.ids m 32).map natV) ∧ Below w.heap.size w w' := by
  go_enter Tryd.func13, Tryd.ntmps13
  go_wp2
  go_loopw [3, 4] (fun v3 v4 wr => ∃ k : Nat, k ≤ 32 ∧ v4 = .int .i64 k ∧ Own wr w.heap.size 3 v3 ((S.ids m k).map natV) ∧ Below w.heap.size w wr) (fun _ v4 _ => 32 - (intOf v4).toNat)
  case atStart => exact ⟨0, by omega, rfl, Own.nil _ _ _, Below.refl _ _⟩
  case round =>
    obtain ⟨k, hk, rfl, hown, hbl⟩ := hrel
    have hB := hbl.size
    have HOwn := kp hown; have HBL := kp hbl
    have hln := S.ids_len m k
    clear hown hbl
    by_cases hlt : k < 32
    · obtain ⟨x, hx⟩ : ∃ x, m.testBit k = x := ⟨_, rfl⟩
      have HX := kp ((S.has_in m k (by omega)).trans hx)
      have HN : Kept (S.ids m (k + 1) = S.ids m k ++ (if x = true then [k] else [])) := kp <| by rw [S.ids_succ, hx]
      clear hx
      cases x
      · go_wp2_with (go_at_call 21; go_must (refine (ref_has m hm k (by omega) _ HX.out _).mono ?_); rintro e w' ⟨rfl, rfl⟩)
        go_roundw
        case rel => exact ⟨k + 1, by omega, by go_num, by rw [HN.out]; simpa using HOwn.out, HBL.out⟩
        case measure => simp [intOf]; omega
      · generalize hl : S.ids m k = l at *
        have HL := kp hl; clear hl
        go_wp2_with (first
          | (go_at_call 21; go_must (refine (ref_has m hm k (by omega) _ HX.out _).mono ?_); rintro e w' ⟨rfl, rfl⟩)
          | (at_builtin; go_must (refine wpList_append_one rfl (.tmp 12) (.tmp 14) 31 rfl w.heap.size 3 _ _ Tryd.underlying31 int_info rfl _ _ _ _ rfl HOwn.out _ 1 rfl rfl rfl (by simp [maxLen]; omega) (by simp; omega) hB ?_); intro v1 w1 hown1 hg1; have HO1 := kp hown1; clear hown1; have HG1 := kp hg1; clear hg1))
        go_roundw
        case rel => exact ⟨k + 1, by omega, by go_num, by rw [HN.out, List.map_append]; exact HO1.out, HG1.out.below HBL.out HOwn.out hB⟩
        case measure => simp [intOf]; omega
    · have hk2 : 32 ≤ k := by omega
      have HI : Kept (S.ids m k = S.ids m 32) := kp <| by rw [show k = 32 by omega]
      clear hlt hk
      go_wp2
      go_ret
      exact ⟨_, rfl, by rw [← HI.out]; exact HOwn.out, HBL.out⟩
end Go.Proofs.YtfifnahcobjjdaaDoor

/- The document's own making of sets, walked: Mask, Of. -/
namespace Go.Proofs.YtfifnahcobjjdaaDoor
open Go.RowKit

theorem pow_le31 (k : Nat) (h : k ≤ 31) : 2 ^ k ≤ 2147483648 := Nat.pow_le_pow_right (by decide) h

set_option maxRecDepth 100000 in
set_option maxHeartbeats 800000 in
theorem ref_mask (B : Nat) (A : Option Addr) (n c : Nat) (l : List Nat) (w : World) (hr : Row natV w B A n l) (hl : ∀ x ∈ l, x ≤ 31) (hn : n ≤ 100000) (m : Nat) (hm : S.mask l % 4294967296 = m) :
    Calls Tryd.prog 8 #[.slice A n c] w fun e w' => e = .returned (.int .u32 (m : Int)) ∧ w = w' := by
  have HR := kp hr; have HL := kp hl; have HMm := kp hm
  clear hr hl hm
  go_enter Tryd.func8, Tryd.ntmps8
  go_wp2
  go_loop [3, 4] (fun v3 v4 => ∃ k : Nat, k ≤ n ∧ v4 = .int .i64 k ∧ v3 = .int .u64 ((S.mask (l.take k) : Nat) : Int)) (fun _ v4 => n - (intOf v4).toNat)
  case atStart => exact ⟨0, by omega, rfl, rfl⟩
  case round =>
    obtain ⟨k, hk, rfl, rfl⟩ := hrel
    have hle : S.mask (l.take k) ≤ 214748364800000 := by
      have h1 := S.mask_le (l.take k) fun x hx => HL.out x (List.mem_of_mem_take hx)
      have h2 : (l.take k).length ≤ k := List.length_take_le _ _
      have h3 : (l.take k).length * 2147483648 ≤ 100000 * 2147483648 := Nat.mul_le_mul_right _ (by omega)
      omega
    by_cases hlt : k < n
    · obtain ⟨ad, x, rfl, hab, hx, hc⟩ := HR.out.get hlt
      rw [natV_def] at hc
      have hx31 := HL.out x (List.mem_of_getElem? hx)
      have HN : Kept (S.mask (l.take (k + 1)) = S.mask (l.take k) + 2 ^ x) := kp <| by rw [List.take_add_one, hx]; exact S.mask_snoc _ _
      have hp := pow_le31 x hx31
      clear hx hab
      generalize S.mask (l.take k) = q at *
      go_wp2
      go_loop [5, 6] (fun v5 v6 => ∃ j : Nat, j ≤ x ∧ v6 = .int .i64 j ∧ v5 = .int .u64 ((2 ^ j : Nat) : Int)) (fun _ v6 => x - (intOf v6).toNat)
      case atStart => exact ⟨0, by omega, rfl, rfl⟩
      case round =>
        obtain ⟨j, hj, rfl, rfl⟩ := hrel
        have hp2 := pow_le31 j (by omega)
        have HP : Kept (2 ^ (j + 1) = 2 ^ j * 2) := kp <| Nat.pow_succ 2 j
        by_cases hjx : j < x
        · generalize 2 ^ j = p at *
          go_wp2
          go_round
          case rel => exact ⟨j + 1, by omega, by go_num, by rw [HP.out]; go_num⟩
          case measure => simp [intOf]; omega
        · have HE : Kept (2 ^ j = 2 ^ x) := kp <| by rw [show j = x by omega]
          generalize 2 ^ j = p at *
          go_wp2
          go_round
          case rel => exact ⟨k + 1, by omega, by go_num, by rw [HN.out, ← HE.out]; go_num⟩
          case measure => simp [intOf]; omega
    · have HT : Kept (l.take k = l) := kp <| List.take_of_length_le (by rw [HR.out.len]; omega)
      have HM : Kept (S.mask (l.take k) = S.mask l) := kp <| by rw [HT.out]
      have hge : n ≤ k := by omega
      clear HT hlt
      generalize S.mask (l.take k) = q at *
      go_wp2
      go_ret
      exact ⟨ret_int (by rw [← HMm.out, ← HM.out]; omega), rfl⟩

theorem bad_one (l : List Int) (size x : Int) (i : Nat) (h : l[i]? = some x) (hx : x < 0 ∨ size ≤ x ∨ 31 < x) : S.bad l size i = 1 := by
  unfold S.bad
  simp only [List.getD_eq_getElem?_getD, h, Option.getD_some]
  rw [if_pos hx]
theorem bad_five (l : List Int) (size x y : Int) (i : Nat) (h : l[i]? = some x) (hx : ¬ (x < 0 ∨ size ≤ x ∨ 31 < x)) (h0 : 0 < i) (hy : l[i - 1]? = some y) (hxy : x ≤ y) : S.bad l size i = 5 := by
  unfold S.bad
  simp only [List.getD_eq_getElem?_getD, h, hy, Option.getD_some]
  rw [if_neg hx, if_pos ⟨h0, hxy⟩]
theorem bad_none (l : List Int) (size x : Int) (i : Nat) (h : l[i]? = some x) (hx : ¬ (x < 0 ∨ size ≤ x ∨ 31 < x)) (hy : ¬ (0 < i ∧ x ≤ l.getD (i - 1) 0)) : S.bad l size i = 0 := by
  unfold S.bad
  simp only [List.getD_eq_getElem?_getD, h, Option.getD_some] at *
  rw [if_neg hx, if_neg hy]
theorem bad_zero (l : List Int) (size x : Int) (i : Nat) (h : l[i]? = some x) (hb : S.bad l size i = 0) : 0 ≤ x ∧ x < size ∧ x ≤ 31 := by
  unfold S.bad at hb
  simp only [List.getD_eq_getElem?_getD, h, Option.getD_some] at hb
  split at hb
  · cases hb
  · omega
theorem first_at (l : List Int) (size : Int) (n i : Nat) (h0 : S.first l size i = 0) (hi : i < n) (hb : S.bad l size i ≠ 0) : S.first l size n = S.bad l size i := by
  have h1 : S.first l size (i + 1) = S.bad l size i := by simp only [S.first]; rw [if_pos h0]
  have := S.first_stays l size (i + 1) (by rw [h1]; exact hb) (n - (i + 1))
  rw [show i + 1 + (n - (i + 1)) = n by omega] at this
  rw [this, h1]
/-- What Of answers. -/
def ofMask (l : List Int) (size : Int) : Nat := if S.first l size l.length = 0 then S.mask (l.map Int.toNat) % 4294967296 else 0
end Go.Proofs.YtfifnahcobjjdaaDoor
