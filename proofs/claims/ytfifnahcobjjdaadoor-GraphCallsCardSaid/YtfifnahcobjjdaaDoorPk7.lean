/- SetP1, SetP2, SetP3, in one text. -/
import Derived.Test.YtfifnahcobjjdaaDoorPk5
import Derived.Test.YtfifnahcobjjdaaDoorPk6
import Derived.Laws.BitsAllLaws
import Derived.Test.YtfifnahcobjjdaaDoorArr2
import Derived.Test.YtfifnahcobjjdaaDoorCell
/- The program's functions on sets, walked: One, All, Has, Within, rest. -/
namespace Go.Proofs.YtfifnahcobjjdaaDoor
open Go.RowKit

theorem pow_cast (n : Nat) : (2 : Int) ^ n = ((2 ^ n : Nat) : Int) := (Int.natCast_pow 2 n).symm
theorem ne_cast (x : Nat) : (((x : Nat) : Int) != 0) = decide (x ≠ 0) := by rw [Bool.eq_iff_iff]; simp
theorem eq_cast (x : Nat) : (((x : Nat) : Int) == 0) = decide (x = 0) := by rw [Bool.eq_iff_iff]; simp

set_option maxRecDepth 100000 in
set_option maxHeartbeats 800000 in
theorem one_any (id : Int) (hid : -9223372036854775808 ≤ id ∧ id ≤ 9223372036854775807) (m : Nat) (hm : S.one id = m) (w : World) :
    Calls Tryd.prog 20 #[.int .i64 id] w fun e w' => e = .returned (.int .u32 (m : Int)) ∧ w = w' := by
  have HM := kp hm; clear hm
  obtain ⟨hid1, hid2⟩ := hid
  by_cases h : id < 0
  · have HF : Kept (0 = m) := kp <| by rw [← HM.out, S.one_out id (.inl h)]
    go_enter Tryd.func20, Tryd.ntmps20
    go_wp2
    go_ret
    exact ⟨ret_int (by rw [← HF.out]; rfl), rfl⟩
  · by_cases h2 : 31 < id
    · have HF : Kept (0 = m) := kp <| by rw [← HM.out, S.one_out id (.inr h2)]
      go_enter Tryd.func20, Tryd.ntmps20
      go_wp2
      go_ret
      exact ⟨ret_int (by rw [← HF.out]; rfl), rfl⟩
    · obtain ⟨n, rfl⟩ : ∃ n : Nat, id = (n : Int) := ⟨id.toNat, by omega⟩
      have hn : n ≤ 31 := by omega
      have HF : Kept (2 ^ n = m) := kp <| by rw [← HM.out, S.one_nat n hn]
      have hp := pow_le31 n hn
      clear h h2 hid1 hid2
      go_enter Tryd.func20, Tryd.ntmps20
      go_wp2
      go_ret
      refine ⟨ret_int ?_, rfl⟩
      rw [← HF.out, pow_cast]
      generalize 2 ^ n = p at *
      omega

set_option maxRecDepth 100000 in
set_option maxHeartbeats 800000 in
theorem rest_any (m : Nat) (hm : m < 4294967296) (h0 : m ≠ 0) (r : Nat) (hr : S.rest m = r) (w : World) :
    Calls Tryd.prog 29 #[.int .u32 (m : Int)] w fun e w' => e = .returned (.int .u32 (r : Int)) ∧ w = w' := by
  have HA : Kept ((m &&& (m - 1)) = r) := kp <| by rw [← hr]; rfl
  have HBits : Kept (bits .and .u32 (m : Int) ((m : Int) - 1) = ((m &&& (m - 1) : Nat) : Int)) := kp <| by rw [← u32_and_nat m (m - 1) hm (by omega)]; congr 1; omega
  clear hr
  go_enter Tryd.func29, Tryd.ntmps29
  go_wp2
  go_ret
  refine ⟨ret_int ?_, rfl⟩
  rw [← HA.out]
  exact HBits.out
end Go.Proofs.YtfifnahcobjjdaaDoor

/- The program's functions on sets, walked: TrailingZeros32, Least, Count, List. -/
namespace Go.Proofs.YtfifnahcobjjdaaDoor
open Go.RowKit

theorem mul_mod_div (p a b c : Nat) (A B C : Int) (hA : A = (a : Int)) (hB : B = (b : Int)) (hC : C = (c : Int)) : ((p : Int) * A % B / C).toNat = p * a % b / c := by
  rw [hA, hB, hC, ← Int.natCast_mul, ← Int.natCast_emod, ← Int.natCast_ediv, Int.toNat_natCast]
/-- The table by which the lowest bit is told. -/
def bruijn : List Nat := [0, 1, 28, 2, 29, 14, 24, 3, 30, 22, 20, 15, 25, 17, 4, 8, 31, 27, 13, 23, 21, 19, 16, 7, 26, 12, 18, 6, 11, 5, 10, 9]
/-- The world holds that table. -/
def Tab (w : World) : Prop := Row byteV w 1 (some ⟨0, 0, none⟩) 32 bruijn
theorem Tab.below {w w' : World} {B : Nat} (h : Tab w) (hb : Below B w w') (hB : 1 ≤ B) : Tab w' := Row.below h (hb.mono hB)
theorem Tab.size {w : World} (h : Tab w) : 1 ≤ w.heap.size := by
  obtain ⟨ad, x, e, hb, _, hc⟩ := Row.get h (k := 0) (by omega)
  have := cell_block hc
  omega
theorem bruijn_at : ∀ k, k ≤ 31 → bruijn[2 ^ k * 125613361 % 4294967296 / 134217728]? = some k ∧ 2 ^ k * 125613361 % 4294967296 / 134217728 < 32 := by decide

set_option maxRecDepth 100000 in
set_option maxHeartbeats 800000 in
theorem trailing_any (m : Nat) (hm : m < 4294967296) (h0 : m ≠ 0) (k : Nat) (hk : k ≤ 31) (hl : (m &&& (4294967296 - m)) = 2 ^ k) (w : World) (ht : Tab w) :
    Calls Tryd.prog 36 #[.int .u32 (m : Int)] w fun e w' => e = .returned (.int .i64 (k : Int)) ∧ w = w' := by
  have HBits : Kept (bits .and .u32 (m : Int) ((4294967296 - m : Nat) : Int) = ((2 ^ k : Nat) : Int)) := kp <| by rw [u32_and_nat m (4294967296 - m) hm (by omega), hl]
  obtain ⟨hb1, hb2⟩ := bruijn_at k hk
  obtain ⟨j, hj⟩ : ∃ j, 2 ^ k * 125613361 % 4294967296 / 134217728 = j := ⟨_, rfl⟩
  rw [hj] at hb1 hb2
  obtain ⟨ad, x, e1, _, hx, hc⟩ := Row.get ht hb2
  cases e1
  rw [hb1] at hx
  cases hx
  rw [byteV_def] at hc
  have hp := pow_le31 k hk
  have hneg : -(m : Int) % 4294967296 = ((4294967296 - m : Nat) : Int) := by omega
  have he : (bits .and .u32 (m : Int) (-(m : Int) % 4294967296) * 125613361 % 4294967296 / 134217728).toNat = j := by
    rw [hneg, HBits.out, ← hj]
    generalize 2 ^ k = p
    exact mul_mod_div p 125613361 4294967296 134217728 125613361 4294967296 134217728 rfl rfl rfl
  have hadd := add_start 0 j
  have hcell : w.cell? ⟨0, (bits .and .u32 (m : Int) (-(m : Int) % 4294967296) * 125613361 % 4294967296 / 134217728).toNat, none⟩ = some (.int .u8 (k : Int)) := by rw [he, ← hadd]; exact hc
  clear hb1 hl hj ht hneg he hadd hc hb2 HBits
  have hz : ((m : Int) == 0) = false := by simpa using h0
  go_enter Tryd.func36, Tryd.ntmps36
  go_wp2
  go_ret
  exact ⟨rfl, rfl⟩

set_option maxRecDepth 100000 in
set_option maxHeartbeats 800000 in
theorem least_any (m : Nat) (hm : m < 4294967296) (r : Int) (hr : S.least m = r) (w : World) (ht : Tab w) :
    Calls Tryd.prog 30 #[.int .u32 (m : Int)] w fun e w' => e = .returned (.int .i64 r) ∧ w = w' := by
  by_cases h0 : m = 0
  · subst h0
    have HR : Kept (-1 = r) := kp <| by rw [← hr]; unfold S.least; rw [S.ids_zero]
    clear hr
    go_enter Tryd.func30, Tryd.ntmps30
    go_wp2
    go_ret
    exact ⟨ret_int HR.out, rfl⟩
  · obtain ⟨k, hk, hi, hn, _⟩ := S.low m h0 hm
    have HR : Kept ((k : Int) = r) := kp <| by rw [← hr, S.least_low m k _ hi]
    have HN := kp hn; have HT := kp ht
    clear hi hr hn ht
    have hb : ((m : Int) == 0) = false := by simpa using h0
    go_enter Tryd.func30, Tryd.ntmps30
    go_wp2_with (go_at_call 36; go_must (refine (trailing_any m hm h0 k hk HN.out _ HT.out).mono ?_); rintro e w' ⟨rfl, rfl⟩)
    go_ret
    exact ⟨ret_int HR.out, rfl⟩

set_option maxRecDepth 100000 in
set_option maxHeartbeats 800000 in
theorem count_any (m : Nat) (hm : m < 4294967296) (n : Nat) (hn : S.count m = n) (w : World) :
    Calls Tryd.prog 28 #[.int .u32 (m : Int)] w fun e w' => e = .returned (.int .i64 (n : Int)) ∧ w = w' := by
  have hn32 : n ≤ 32 := by rw [← hn]; exact S.count_le m
  have HN := kp hn; clear hn
  go_enter Tryd.func28, Tryd.ntmps28
  go_wp2
  go_loop [0, 3] (fun v0 v3 => ∃ q k : Nat, q < 4294967296 ∧ v0 = .int .u32 (q : Int) ∧ v3 = .int .i64 (k : Int) ∧ k ≤ 32 ∧ k + S.count q = n) (fun v0 _ => (intOf v0).toNat)
  case atStart => exact ⟨m, 0, hm, rfl, rfl, by omega, by rw [HN.out]; omega⟩
  case round =>
    obtain ⟨q, k, hq, rfl, rfl, hk, hkq⟩ := hrel
    by_cases h0 : q = 0
    · subst h0
      have HE : Kept (k = n) := kp <| by rw [← hkq, S.count_zero]; rfl
      clear hkq
      go_wp2
      go_ret
      exact ⟨ret_int (by rw [HE.out]), rfl⟩
    · have hb : ((q : Int) != 0) = true := by simpa using h0
      obtain ⟨_, _, _, _, hlt⟩ := S.low q h0 hq
      have hc := S.count_rest q h0 hq
      have hc2 := S.count_le q
      obtain ⟨r, hr⟩ : ∃ r, S.rest q = r := ⟨_, rfl⟩
      rw [hr] at hlt hc
      have HR := kp hr
      have HC : Kept (k + 1 + S.count r = n) := kp <| by omega
      have HC32 : Kept (k + 1 ≤ 32) := kp <| by have := HC.out; omega
      clear hc hr hc2 hkq
      go_wp2_with (go_at_call 29; go_must (refine (rest_any q hq h0 r HR.out _).mono ?_); rintro e w' ⟨rfl, rfl⟩)
      go_round
      case rel => exact ⟨r, k + 1, by omega, rfl, by go_num, HC32.out, HC.out⟩
      case measure => simp [intOf]; omega
set_option maxRecDepth 100000 in
set_option maxHeartbeats 800000 in
theorem list_any (m : Nat) (hm : m < 4294967296) (w : World) (ht : Tab w) (hw : 1 ≤ w.heap.size) :
    Calls Tryd.prog 19 #[.int .u32 (m : Int)] w fun e w' => ∃ v, e = .returned v ∧ Own w' w.heap.size 3 v ((S.ids m 32).map natV) ∧ Below w.heap.size w w' := by
  have hcl := S.count_le m
  obtain ⟨n, hn⟩ : ∃ n, S.count m = n := ⟨_, rfl⟩
  rw [hn] at hcl
  have HN := kp hn; have HT := kp ht
  clear hn ht
  go_enter Tryd.func19, Tryd.ntmps19
  go_wp2_with (first
    | (go_at_call 28; go_must (refine (count_any m hm n HN.out _).mono ?_); rintro e w' ⟨rfl, rfl⟩)
    | ((with_reducible show wpList _ _ _ (⟨some 6, _, _, _, _, _⟩ :: _) _ _); go_must (refine wpList_make_blk rfl 31 (.const (.int .i64 0)) (.tmp 5) rfl 3 (.int .i64 0) 8 Tryd.underlying31 int_info rfl .i64 .i64 0 n rfl rfl (by omega) (by omega) (by omega) ?_); intro g1 w1 hg1 hk1 hw1; have HO1 : Kept (Own w1 w.heap.size 3 (.slice (some ⟨g1, 0, none⟩) 0 n) []) := kp (Blk.own (xs := []) hk1 hg1 (by simp) (by simp) (by simp [maxLen]; omega) (by simp)); have HW1 := kp hw1; clear hg1 hk1 hw1))
  go_loopw [0, 3] (fun v0 v3 wr => ∃ (q : Nat) (l : List Nat), q < 4294967296 ∧ v0 = .int .u32 (q : Int) ∧ S.ids m 32 = l ++ S.ids q 32 ∧ l.length ≤ 32 ∧ Own wr w.heap.size 3 v3 (l.map natV) ∧ Below w.heap.size w wr) (fun v0 _ _ => (intOf v0).toNat)
  case atStart => exact ⟨m, [], hm, rfl, rfl, by simp, HO1.out, HW1.out⟩
  case round =>
    clear HO1 HW1
    obtain ⟨q, l, hq, rfl, hl, hll, hown, hbl⟩ := hrel
    have hB := hbl.size
    have HOwn := kp hown; have HBL := kp hbl; have HL := kp hl
    clear hown hbl hl
    by_cases h0 : q = 0
    · subst h0
      have HE : Kept (l = S.ids m 32) := kp <| by rw [HL.out, S.ids_zero, List.append_nil]
      go_wp2
      go_ret
      exact ⟨_, rfl, by rw [← HE.out]; exact HOwn.out, HBL.out⟩
    · have hb : ((q : Int) != 0) = true := by simpa using h0
      obtain ⟨k, hk, hi, hn, hlt⟩ := S.low q h0 hq
      have hls := S.least_low q k _ hi
      obtain ⟨r, hr⟩ : ∃ r, S.rest q = r := ⟨_, rfl⟩
      have HS := kp hls
      have HN2 : Kept (S.ids m 32 = (l ++ [k]) ++ S.ids r 32) := kp <| by rw [HL.out, hi, hr]; simp
      have hlen : l.length + 1 ≤ 32 := by
        have h1 := S.ids_len m 32
        rw [HN2.out] at h1
        simp at h1
        omega
      rw [hr] at hlt
      have HR := kp hr
      have HTw : Kept (Tab wr) := kp <| HT.out.below HBL.out hw
      clear hi hn hls hr
      go_wp2_with (first
        | (go_at_call 30; go_must (refine (least_any q hq k HS.out _ HTw.out).mono ?_); rintro e w' ⟨rfl, rfl⟩)
        | (at_builtin; go_must (refine wpList_append_one rfl (.tmp 11) (.tmp 14) 31 rfl w.heap.size 3 _ _ Tryd.underlying31 int_info rfl _ _ _ _ rfl HOwn.out _ 1 rfl rfl rfl (by simp [maxLen]; omega) (by simp; omega) hB ?_); intro v1 w1 hown1 hg1; have HO1 := kp hown1; clear hown1; have HG1 := kp hg1; clear hg1)
        | (go_at_call 29; go_must (refine (rest_any q hq h0 r HR.out _).mono ?_); rintro e w' ⟨rfl, rfl⟩))
      go_roundw
      case rel => exact ⟨r, l ++ [k], by omega, rfl, HN2.out, by simp; omega, by rw [List.map_append]; exact HO1.out, HG1.out.below HBL.out HOwn.out hB⟩
      case measure => simp [intOf]; omega
end Go.Proofs.YtfifnahcobjjdaaDoor

/- The program's functions on sets, walked: Of, Meet. -/
namespace Go.Proofs.YtfifnahcobjjdaaDoor
open Go.RowKit

theorem or_lt32 (a b : Nat) (ha : a < 4294967296) (hb : b < 4294967296) : a ||| b < 4294967296 := Nat.or_lt_two_pow (n := 32) ha hb
/-- What lies in a rising list above all of a mask's ids is added by or. -/
theorem or_add (m x : Nat) (hm : m < 2 ^ x) : m ||| 2 ^ x = m + 2 ^ x := by
  have := Nat.two_pow_add_eq_or_of_lt hm 1
  rw [Nat.mul_one] at this
  rw [Nat.or_comm, ← this, Nat.add_comm]
/-- As far as a list has no fault: its mask is below what may come next. -/
theorem mask_bound (l : List Int) (size : Int) : ∀ n, n ≤ l.length → S.first l size n = 0 → S.mask ((l.take n).map Int.toNat) < 4294967296 ∧ ∀ x, l[n]? = some x → S.bad l size n = 0 → S.mask ((l.take n).map Int.toNat) < 2 ^ x.toNat
  | 0, _, _ => by
    refine ⟨by simp [S.mask], fun x _ _ => ?_⟩
    have : 0 < 2 ^ x.toNat := Nat.pow_pos (by decide)
    simpa [S.mask] using this
  | n + 1, hn, hf => by
    have h0 : S.first l size n = 0 := by
      by_cases h : S.first l size n = 0
      · exact h
      · simp only [S.first] at hf; rwa [if_neg h] at hf
    have hb : S.bad l size n = 0 := by simp only [S.first] at hf; rwa [if_pos h0] at hf
    have hnl : n < l.length := by omega
    obtain ⟨h1, h2⟩ := mask_bound l size n (by omega) h0
    have hx := List.getElem?_eq_getElem hnl
    have h3 := h2 _ hx hb
    obtain ⟨b1, b2, b3⟩ := bad_zero l size _ n hx hb
    have e : S.mask ((l.take (n + 1)).map Int.toNat) = S.mask ((l.take n).map Int.toNat) + 2 ^ (l[n].toNat) := by
      rw [List.take_add_one, hx, List.map_append]; exact S.mask_snoc _ _
    rw [e]
    have hp : 2 ^ l[n].toNat ≤ 2147483648 := pow_le31 _ (by omega)
    refine ⟨by omega, fun y hy hby => ?_⟩
    have hlt : l[n] < y := by
      unfold S.bad at hby
      simp only [List.getD_eq_getElem?_getD, hy, Option.getD_some, Nat.add_sub_cancel, hx] at hby
      split at hby
      · cases hby
      · split at hby
        · cases hby
        · omega
    have hle : 2 ^ (l[n].toNat + 1) ≤ 2 ^ y.toNat := Nat.pow_le_pow_right (by decide) (by omega)
    rw [Nat.pow_succ] at hle
    omega
theorem mask_or (l : List Int) (size x : Int) (n : Nat) (hn : n ≤ l.length) (h0 : S.first l size n = 0) (hx : l[n]? = some x) (hb : S.bad l size n = 0) :
    S.mask ((l.take (n + 1)).map Int.toNat) = S.mask ((l.take n).map Int.toNat) ||| S.one x := by
  have h3 := (mask_bound l size n hn h0).2 x hx hb
  obtain ⟨b1, b2, b3⟩ := bad_zero l size x n hx hb
  obtain ⟨k, rfl⟩ : ∃ k : Nat, x = (k : Int) := ⟨x.toNat, by omega⟩
  rw [Int.toNat_natCast] at h3
  rw [S.one_nat k (by omega), or_add _ _ h3, List.take_add_one, hx, List.map_append]
  exact S.mask_snoc _ _
end Go.Proofs.YtfifnahcobjjdaaDoor
