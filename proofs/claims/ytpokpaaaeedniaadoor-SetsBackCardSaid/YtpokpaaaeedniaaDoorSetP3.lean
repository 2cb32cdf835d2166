/- The program's functions on sets, walked: Of, Meet. -/
import Derived.Test.YtpokpaaaeedniaaDoorSetP1
namespace Go.Proofs.YtpokpaaaeedniaaDoor
open Go.RowKit

theorem or_lt32 (a b : Nat) (ha : a < 4294967296) (hb : b < 4294967296) : a ||| b < 4294967296 := Nat.or_lt_two_pow (n := 32) ha hb
/-- What lies in a rising list above all of a mask's ids is added by or. -/
theorem or_add (m x : Nat) (hm : m < 2 ^ x) : m ||| 2 ^ x = m + 2 ^ x := by
  have := Nat.two_pow_add_eq_or_of_lt hm 1
  rw [Nat.mul_one] at this
  rw [Nat.or_comm, ← this, Nat.add_comm]
/-- As far as a list has no fault: its mask is below what may come next. -/
theorem mask_bound (l : List Int) (size : Int) : ∀ n, n ≤ l.length → S.first l size n = 0 → S.mask ((l.take n).map Int.toNat) < 4294967296 ∧ ∀ x, l[n]? = some x → S.bad l size n = 0 → S.mask ((l.take n).map Int.toNat) < 2 ^ x.toNat
  | 0, _, _ => by
    refine ⟨by simp [S.mask], fun x _ _ => ?_⟩
    have : 0 < 2 ^ x.toNat := Nat.pow_pos (by decide)
    simpa [S.mask] using this
  | n + 1, hn, hf => by
    have h0 : S.first l size n = 0 := by
      by_cases h : S.first l size n = 0
      · exact h
      · simp only [S.first] at hf; rwa [if_neg h] at hf
    have hb : S.bad l size n = 0 := by simp only [S.first] at hf; rwa [if_pos h0] at hf
    have hnl : n < l.length := by omega
    obtain ⟨h1, h2⟩ := mask_bound l size n (by omega) h0
    have hx := List.getElem?_eq_getElem hnl
    have h3 := h2 _ hx hb
    obtain ⟨b1, b2, b3⟩ := bad_zero l size _ n hx hb
    have e : S.mask ((l.take (n + 1)).map Int.toNat) = S.mask ((l.take n).map Int.toNat) + 2 ^ (l[n].toNat) := by
      rw [List.take_add_one, hx, List.map_append]; exact S.mask_snoc _ _
    rw [e]
    have hp : 2 ^ l[n].toNat ≤ 2147483648 := pow_le31 _ (by omega)
    refine ⟨by omega, fun y hy hby => ?_⟩
    have hlt : l[n] < y := by
      unfold S.bad at hby
      simp only [List.getD_eq_getElem?_getD, hy, Option.getD_some, Nat.add_sub_cancel, hx] at hby
      split at hby
      · cases hby
      · split at hby
        · cases hby
        · omega
    have hle : 2 ^ (l[n].toNat + 1) ≤ 2 ^ y.toNat := Nat.pow_le_pow_right (by decide) (by omega)
    rw [Nat.pow_succ] at hle
    omega
theorem mask_or (l : List Int) (size x : Int) (n : Nat) (hn : n ≤ l.length) (h0 : S.first l size n = 0) (hx : l[n]? = some x) (hb : S.bad l size n = 0) :
    S.mask ((l.take (n + 1)).map Int.toNat) = S.mask ((l.take n).map Int.toNat) ||| S.one x := by
  have h3 := (mask_bound l size n hn h0).2 x hx hb
  obtain ⟨b1, b2, b3⟩ := bad_zero l size x n hx hb
  obtain ⟨k, rfl⟩ : ∃ k : Nat, x = (k : Int) := ⟨x.toNat, by omega⟩
  rw [Int.toNat_natCast] at h3
  rw [S.one_nat k (by omega), or_add _ _ h3, List.take_add_one, hx, List.map_append]
  exact S.mask_snoc _ _

set_option maxRecDepth 100000 in
set_option maxHeartbeats 1600000 in
theorem of_any (B : Nat) (A : Option Addr) (n c : Nat) (l : List Int) (size : Int) (w : World) (hr : Row intV w B A n l) (hl : ∀ x ∈ l, -9223372036854775808 ≤ x ∧ x ≤ 9223372036854775807) (hs : -9223372036854775808 ≤ size ∧ size ≤ 9223372036854775807) (hn : n ≤ 100000) (m e : Nat) (hm : ofMask l size = m) (he : S.first l size l.length = e) :
    Calls Tryd.prog 22 #[.slice A n c, .int .i64 size] w fun r w' => r = .returned (.tuple #[.int .u32 (m : Int), .int .i64 (e : Int)]) ∧ w = w' := by
  have HR := kp hr; have HL := kp hl; have HM := kp hm; have HE := kp he; have HS := kp hs
  obtain ⟨hs1, hs2⟩ := hs
  have hln := hr.len
  have HLn := kp hln
  obtain ⟨al, hal⟩ : ∃ al, S.all size = al := ⟨_, rfl⟩
  have hall : al < 4294967296 := by rw [← hal]; exact S.all_lt size
  have HAl := kp hal
  clear hr hl hm he hln hal
  go_enter Tryd.func22, Tryd.ntmps22
  go_wp2_with (go_at_call 21; go_must (refine (all_any size HS.out al HAl.out _).mono ?_); rintro e' w' ⟨rfl, rfl⟩)
  go_loop [6, 14] (fun v6 v14 => ∃ (i q : Nat), i ≤ n ∧ v14 = .int .i64 i ∧ v6 = .int .u32 (q : Int) ∧ S.first l size i = 0 ∧ S.mask ((l.take i).map Int.toNat) = q) (fun _ v14 => n - (intOf v14).toNat)
  case atStart => exact ⟨0, 0, by omega, rfl, rfl, rfl, rfl⟩
  case round =>
    obtain ⟨i, q, hi, rfl, rfl, hf, hq⟩ := hrel
    have hqlt : q < 4294967296 := by rw [← hq]; exact (mask_bound l size i (by rw [HLn.out]; exact hi) hf).1
    have HF := kp hf; have HQ := kp hq
    clear hf hq
    by_cases hlt : i < n
    · obtain ⟨ad, x, rfl, hab, hx, hc⟩ := HR.out.get hlt
      rw [intV_def] at hc
      have hx64 := HL.out x (List.mem_of_getElem? hx)
      have HX64 := kp hx64
      obtain ⟨hx1, hx2⟩ := hx64
      have HX := kp hx
      clear hx hab
      have hbad : ∀ b : Nat, b ≠ 0 → S.bad l size i = b → (0 = m ∧ b = e) := fun b hb h => by
        have h1 := first_at l size l.length i HF.out (by rw [HLn.out]; exact hlt) (by rw [h]; exact hb)
        refine ⟨?_, by rw [← HE.out, h1, h]⟩
        rw [← HM.out]
        unfold ofMask
        rw [if_neg (by rw [h1, h]; exact hb)]
      have HBad := kp hbad
      clear hbad
      by_cases h1 : x < 0 ∨ size ≤ x ∨ 31 < x
      · have HB := kp (HBad.out 1 (by decide) (bad_one l size x i HX.out h1))
        have HHas : Kept (S.has al x = false) := kp <| by rw [← HAl.out]; exact S.has_all_not size x h1
        clear h1
        go_wp2_with (go_at_call 12; go_must (refine (has_any al hall x HX64.out false HHas.out _).mono ?_); rintro e' w' ⟨rfl, rfl⟩)
        go_ret2
        exact ⟨by rw [← HB.out.1, ← HB.out.2]; rfl, rfl⟩
      · have HOk := kp h1
        have HHas : Kept (S.has al x = true) := kp <| by rw [← HAl.out]; exact S.has_all size x (by omega) (by omega) (by omega)
        clear h1
        by_cases hi0 : 0 < i
        · obtain ⟨_, y, e1, _, hy, hcy⟩ := HR.out.get (k := i - 1) (by omega)
          cases e1
          rw [intV_def] at hcy
          have HY := kp hy
          clear hy
          have hyr := HL.out y (List.mem_of_getElem? HY.out)
          obtain ⟨hy1, hy2⟩ := hyr
          by_cases hxy : x ≤ y
          · have HB := kp (HBad.out 5 (by decide) (bad_five l size x y i HX.out HOk.out hi0 HY.out hxy))
            go_wp2_with (go_at_call 12; go_must (refine (has_any al hall x HX64.out true HHas.out _).mono ?_); rintro e' w' ⟨rfl, rfl⟩)
            go_ret2
            exact ⟨by rw [← HB.out.1, ← HB.out.2]; rfl, rfl⟩
          · have HB := kp (bad_none l size x i HX.out HOk.out (by rw [List.getD_eq_getElem?_getD, HY.out]; simp; omega))
            obtain ⟨o, ho⟩ : ∃ o, S.one x = o := ⟨_, rfl⟩
            have holt : o < 4294967296 := by rw [← ho]; exact S.one_lt x
            have HN : Kept (S.mask ((l.take (i + 1)).map Int.toNat) = q ||| o) := kp <| by rw [mask_or l size x i (by rw [HLn.out]; omega) HF.out HX.out HB.out, HQ.out, ho]
            have HBt : Kept (bits .or .u32 (q : Int) (o : Int) = ((q ||| o : Nat) : Int)) := kp <| u32_or_nat q o hqlt holt
            have HO := kp ho
            clear ho
            go_wp2_with (first
              | (go_at_call 12; go_must (refine (has_any al hall x HX64.out true HHas.out _).mono ?_); rintro e' w' ⟨rfl, rfl⟩)
              | (go_at_call 20; go_must (refine (one_any x HX64.out o HO.out _).mono ?_); rintro e' w' ⟨rfl, rfl⟩))
            go_round
            case rel => exact ⟨i + 1, q ||| o, by omega, by go_num, by rw [HBt.out], by simp only [S.first]; rw [if_pos HF.out]; exact HB.out, HN.out⟩
            case measure => simp [intOf]; omega
        · have HB := kp (bad_none l size x i HX.out HOk.out (by omega))
          have hi00 : decide (0 < (i : Int)) = false := by simpa using hi0
          obtain ⟨o, ho⟩ : ∃ o, S.one x = o := ⟨_, rfl⟩
          have holt : o < 4294967296 := by rw [← ho]; exact S.one_lt x
          have HN : Kept (S.mask ((l.take (i + 1)).map Int.toNat) = q ||| o) := kp <| by rw [mask_or l size x i (by rw [HLn.out]; omega) HF.out HX.out HB.out, HQ.out, ho]
          have HBt : Kept (bits .or .u32 (q : Int) (o : Int) = ((q ||| o : Nat) : Int)) := kp <| u32_or_nat q o hqlt holt
          have HO := kp ho
          clear ho
          go_wp2_with (first
            | (go_at_call 12; go_must (refine (has_any al hall x HX64.out true HHas.out _).mono ?_); rintro e' w' ⟨rfl, rfl⟩)
            | (go_at_call 20; go_must (refine (one_any x HX64.out o HO.out _).mono ?_); rintro e' w' ⟨rfl, rfl⟩))
          go_round
          case rel => exact ⟨i + 1, q ||| o, by omega, by go_num, by rw [HBt.out], by simp only [S.first]; rw [if_pos HF.out]; exact HB.out, HN.out⟩
          case measure => simp [intOf]; omega
    · have hge : n ≤ i := by omega
      have HF2 : Kept (S.first l size l.length = 0) := kp <| by rw [HLn.out, show n = i by omega]; exact HF.out
      have HEe : Kept ((0 : Nat) = e) := kp <| by rw [← HE.out, HF2.out]
      have HMm : Kept (q = m) := kp <| by
        rw [← HM.out]; unfold ofMask; rw [if_pos HF2.out]
        have h1 := HQ.out
        rw [List.take_of_length_le (by rw [HLn.out]; exact hge)] at h1
        rw [h1, Nat.mod_eq_of_lt hqlt]
      clear hlt
      go_wp2
      go_ret2
      exact ⟨by rw [← HEe.out, HMm.out]; rfl, rfl⟩

set_option maxRecDepth 100000 in
set_option maxHeartbeats 800000 in
theorem meet_any (B : Nat) (A : Option Addr) (n c : Nat) (l : List Nat) (w : World) (hr : Row wordV w B A n l) (hl : ∀ x ∈ l, x < 4294967296) (hn : n ≤ 100000) (m : Nat) (hm : S.meet l = m) :
    Calls Tryd.prog 24 #[.slice A n c] w fun e w' => e = .returned (.int .u32 (m : Int)) ∧ w = w' := by
  have HR := kp hr; have HL := kp hl; have HM := kp hm
  have HAll : Kept (S.all 32 = 4294967295) := kp <| by decide
  clear hr hl hm
  go_enter Tryd.func24, Tryd.ntmps24
  go_wp2_with (go_at_call 21; go_must (refine (all_any 32 (by omega) _ HAll.out _).mono ?_); rintro e' w' ⟨rfl, rfl⟩)
  go_loop [3, 9] (fun v3 v9 => ∃ (i q : Nat), i ≤ n ∧ v9 = .int .i64 i ∧ v3 = .int .u32 (q : Int) ∧ q < 4294967296 ∧ S.meet (l.take i) = q) (fun _ v9 => n - (intOf v9).toNat)
  case atStart => exact ⟨0, 4294967295, by omega, rfl, rfl, by decide, rfl⟩
  case round =>
    obtain ⟨i, q, hi, rfl, rfl, hqlt, hq⟩ := hrel
    have HQ := kp hq
    clear hq
    by_cases hlt : i < n
    · obtain ⟨ad, x, rfl, hab, hx, hc⟩ := HR.out.get hlt
      rw [wordV_def] at hc
      have hx32 := HL.out x (List.mem_of_getElem? hx)
      have HN : Kept (S.meet (l.take (i + 1)) = q &&& x) := kp <| by rw [List.take_add_one, hx, ← HQ.out]; exact S.meet_snoc _ _
      have HBt : Kept (bits .and .u32 (q : Int) (x : Int) = ((q &&& x : Nat) : Int)) := kp <| u32_and_nat q x hqlt hx32
      have hnew : q &&& x < 4294967296 := Nat.lt_of_le_of_lt Nat.and_le_left hqlt
      have HNew := kp hnew
      clear hx hab hnew
      go_wp2
      go_round
      case rel => exact ⟨i + 1, q &&& x, by omega, by go_num, by rw [HBt.out], HNew.out, HN.out⟩
      case measure => simp [intOf]; omega
    · have HE : Kept (q = m) := kp <| by rw [← HM.out, ← HQ.out, List.take_of_length_le (by rw [HR.out.len]; omega)]
      have hge : n ≤ i := by omega
      clear hlt
      go_wp2
      go_ret
      exact ⟨ret_int (by rw [HE.out]), rfl⟩
end Go.Proofs.YtpokpaaaeedniaaDoor
