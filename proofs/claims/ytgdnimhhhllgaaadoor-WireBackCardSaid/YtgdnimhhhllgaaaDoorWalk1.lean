/- What the functions of varint do, walked. -/
import Derived.Test.YtgdnimhhhllgaaaDoorRows
import Derived.Test.YtgdnimhhhllgaaaDoorMath1
import Derived.Test.YtgdnimhhhllgaaaDoorBase
namespace Go.Proofs.YtgdnimhhhllgaaaDoor
open Go.RowKit

set_option maxHeartbeats 400000 in
theorem size_any (n : Nat) (hn : n < 4294967296) (w : World) :
    Calls Tryd.prog 44 #[.int .u32 (n : Int)] w fun e w' => e = .returned (.int .i64 (V.size n : Int)) ∧ w = w' := by
  go_enter Tryd.func44, Tryd.ntmps44
  go_wp2
  go_loop [0, 4] (fun v0 v4 => ∃ k : Nat, k ≤ 5 ∧ v4 = .int .i64 k ∧ v0 = .int .u32 (V.left n k : Int) ∧ (k = 0 ∨ V.left n k ≠ 0)) (fun _ v4 => 5 - (intOf v4).toNat)
  case atStart => exact ⟨0, by omega, rfl, by rw [V.left_zero], .inl rfl⟩
  case round =>
    obtain ⟨k, hk, rfl, rfl, hz⟩ := hrel
    have hl := V.left_lt n k hn
    by_cases hlt : k < 5
    · have hs := V.left_succ n k
      have hat := V.size_at n k hlt hn hz
      generalize V.left n k = m at *
      have HS := Lib.hid hs; clear hs
      have HA := Lib.hid hat; clear hat
      have HZ := Lib.hid hz; clear hz
      by_cases h0 : m / 128 = 0
      · have hb : ((m : Int) / 128 == 0) = true := by simp; omega
        have HH := Lib.hid h0; clear h0
        go_wp2
        go_ret
        exact ⟨ret_int (by rw [HA.out HH.out]; omega), rfl⟩
      · have hb : ((m : Int) / 128 == 0) = false := by simp; omega
        have HH := Lib.hid h0; clear h0
        go_wp2
        go_round
        case rel => exact ⟨k + 1, by omega, by go_num, by rw [HS.out]; go_num, .inr (by rw [HS.out]; exact HH.out)⟩
        case measure => simp [intOf]; omega
    · have : k = 5 := by omega
      subst this
      rw [V.left_five n hn] at hz
      simp at hz
set_option maxRecDepth 100000 in
set_option maxHeartbeats 400000 in
theorem get_any (B : Nat) (A : Option Addr) (n c : Nat) (bs : List Nat) (w : World) (hr : Row byteV w B A n bs) (hb : ∀ x ∈ bs, x < 256) (hn : n ≤ maxLen) :
    Calls Tryd.prog 34 #[.slice A n c] w fun e w' => e = .returned (.tuple #[.int .u32 ((V.get bs).1 : Int), .int .i64 ((V.get bs).2.1 : Int), .int .i64 ((V.get bs).2.2 : Int)]) ∧ w = w' := by
  unfold maxLen at hn
  have HR := Lib.hid hr; clear hr
  have HB := Lib.hid hb; clear hb
  go_enter Tryd.func34, Tryd.ntmps34
  go_wp2
  go_loop [5, 10] (fun v5 v10 => ∃ k acc : Nat, k ≤ n ∧ k ≤ 4 ∧ acc < 128 ^ k ∧ v10 = .int .i64 k ∧ v5 = .int .u32 acc ∧ V.get bs = V.go k acc (bs.drop k)) (fun _ v10 => n - (intOf v10).toNat)
  case atStart => exact ⟨0, 0, by omega, by omega, by simp, rfl, rfl, rfl⟩
  case round =>
    obtain ⟨k, acc, hk, hk4, hacc, rfl, rfl, hg⟩ := hrel
    have HG := Lib.hid hg; clear hg
    have HA := Lib.hid hacc; clear hacc
    by_cases hlt : k < n
    · obtain ⟨ad, x, rfl, hab, hx, hc⟩ := HR.out.get hlt
      rw [byteV_def] at hc
      have hx8 : x < 256 := HB.out x (List.mem_of_getElem? hx)
      have HX := Lib.hid hx; clear hx
      have hdrop : bs.drop k = x :: bs.drop (k + 1) := by
        obtain ⟨hl, e⟩ := List.getElem?_eq_some_iff.1 HX.out
        rw [List.drop_eq_getElem_cons hl, e]
      rw [hdrop] at HG
      clear hdrop
      have HS := Lib.hid (V.acc_step k acc x HA.out)
      by_cases h15 : k = 4 ∧ 15 < x
      · have HF := Lib.hid (HG.out.trans (V.go_long _ _ _ _ h15))
        obtain ⟨h4, h15⟩ := h15
        have hb : ((k : Int) == 4) = true := by simp; omega
        clear h4
        go_wp2
        go_ret3
        exact ⟨by rw [HF.out]; rfl, rfl⟩
      · have HO := Lib.hid (V.or_step k acc x hk4 HA.out hx8 h15)
        by_cases h0 : 0 < k ∧ x = 0
        · have HF := Lib.hid (HG.out.trans (V.go_form _ _ _ _ h15 h0))
          obtain ⟨h0k, rfl⟩ := h0
          clear h15
          have h15 : ¬ 15 < (0 : Int) := by omega
          by_cases h4 : k = 4
          · have hb : ((k : Int) == 4) = true := by simp; omega
            clear h4
            go_wp2
            go_ret3
            exact ⟨by rw [HF.out]; rfl, rfl⟩
          · have hb : ((k : Int) == 4) = false := by simp; omega
            clear h4
            go_wp2
            go_ret3
            exact ⟨by rw [HF.out]; rfl, rfl⟩
        · by_cases h128 : x < 128
          · have HF := Lib.hid (HG.out.trans (V.go_last _ _ _ _ h15 h0 h128))
            have HM := Lib.hid (Nat.mod_eq_of_lt h128)
            by_cases hk0 : 0 < k
            · have hx0 : ((x : Int) == 0) = false := by simp; omega
              clear h0
              by_cases h4 : k = 4
              · have hb : ((k : Int) == 4) = true := by simp; omega
                have h15' : ¬ 15 < (x : Int) := by omega
                clear h4 h15
                go_wp2
                go_ret3
                exact ⟨by rw [HF.out, HO.out, HM.out]; rfl, rfl⟩
              · have hb : ((k : Int) == 4) = false := by simp; omega
                clear h4 h15
                go_wp2
                go_ret3
                exact ⟨by rw [HF.out, HO.out, HM.out]; rfl, rfl⟩
            · have hb : ((k : Int) == 4) = false := by simp; omega
              clear h0 h15
              go_wp2
              go_ret3
              exact ⟨by rw [HF.out, HO.out, HM.out]; rfl, rfl⟩
          · have hb : ((k : Int) == 4) = false := by simp; omega
            have HF := Lib.hid (HG.out.trans (V.go_on _ _ _ _ h15 h128))
            have HM : Hid (x % 128 = x - 128) := by show x % 128 = x - 128; omega
            have HK : Hid (k + 1 ≤ 4) := by show k + 1 ≤ 4; omega
            have hx0 : ((x : Int) == 0) = false := by simp; omega
            clear h0 h15
            by_cases hk0 : 0 < k
            all_goals
              go_wp2
              go_round
              case rel => exact ⟨k + 1, acc + (x - 128) * 128 ^ k, by omega, HK.out, by rw [← HM.out]; exact HS.out, by go_num, by rw [HO.out, HM.out], HF.out⟩
              case measure => simp [intOf]; omega
    · have hke : k = n := by omega
      have hnil : V.get bs = (0, 0, 2) := by
        rw [HG.out, List.drop_of_length_le (by rw [HR.out.len]; omega), V.go_nil]
      have HF := Lib.hid hnil
      clear hnil hke
      go_wp2
      go_ret3
      exact ⟨by rw [HF.out]; rfl, rfl⟩
end Go.Proofs.YtgdnimhhhllgaaaDoor