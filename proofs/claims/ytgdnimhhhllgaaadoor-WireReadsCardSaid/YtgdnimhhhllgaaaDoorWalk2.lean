/- What the document's own functions for varint do, walked. -/
import Derived.Test.YtgdnimhhhllgaaaDoorRows
import Derived.Test.YtgdnimhhhllgaaaDoorMath1
import Derived.Test.YtgdnimhhhllgaaaDoorBase
namespace Go.Proofs.YtgdnimhhhllgaaaDoor
open Go.RowKit

theorem add_byte (m : Nat) : (128 : Int) + (m : Int) % 128 = ((m % 128 + 128 : Nat) : Int) := by omega
theorem pow_step (k : Nat) : ((128 ^ k : Nat) : Int) * 128 = ((128 ^ (k + 1) : Nat) : Int) := by rw [Nat.pow_succ, Int.natCast_mul]; rfl
theorem acc_eq (acc x p y : Nat) (h : x % 128 = y) : (acc : Int) + (p : Int) * ((x : Int) % 128) = ((acc + y * p : Nat) : Int) := by
  rw [← h, Int.natCast_add, Int.natCast_mul, Int.natCast_emod, Int.mul_comm]; rfl
theorem part_bound (p x : Nat) (hp : p ≤ 268435456) : 0 ≤ (p : Int) * ((x : Int) % 128) ∧ (p : Int) * ((x : Int) % 128) ≤ 34091302912 := by
  have h := Nat.mul_le_mul hp (by omega : x % 128 ≤ 127)
  have e : (p : Int) * ((x : Int) % 128) = ((p * (x % 128) : Nat) : Int) := by rw [Int.natCast_mul, Int.natCast_emod]; rfl
  rw [e]; omega

set_option maxRecDepth 100000 in
set_option maxHeartbeats 800000 in
theorem ref_get_any (B : Nat) (A : Option Addr) (n c : Nat) (bs : List Nat) (w : World) (hr : Row byteV w B A n bs) (hb : ∀ x ∈ bs, x < 256) (hn : n ≤ maxLen) :
    Calls Tryd.prog 35 #[.slice A n c] w fun e w' => e = .returned (.tuple #[.int .i64 ((V.get bs).1 : Int), .int .i64 ((V.get bs).2.1 : Int), .int .i64 ((V.get bs).2.2 : Int)]) ∧ w = w' := by
  unfold maxLen at hn
  have HR := Lib.hid hr; clear hr
  have HB := Lib.hid hb; clear hb
  go_enter Tryd.func35, Tryd.ntmps35
  go_wp2
  go_loop [5, 6, 7] (fun v5 v6 v7 => ∃ k acc p : Nat, k ≤ n ∧ k ≤ 4 ∧ acc < 128 ^ k ∧ v7 = .int .i64 k ∧ v5 = .int .i64 acc ∧ v6 = .int .i64 p ∧ p = 128 ^ k ∧ V.get bs = V.go k acc (bs.drop k)) (fun _ _ v7 => n - (intOf v7).toNat)
  case atStart => exact ⟨0, 0, 1, by omega, by omega, by simp, rfl, rfl, rfl, by simp, rfl⟩
  case round =>
    obtain ⟨k, acc, p, hk, hk4, hacc, rfl, rfl, rfl, hp, hg⟩ := hrel
    have hp1 : p ≤ 268435456 := by rw [hp]; exact V.pow_le k hk4
    have ha1 : acc < 268435456 := by omega
    have HG := Lib.hid hg; clear hg
    have HA := Lib.hid hacc; clear hacc
    have HP := Lib.hid hp; clear hp
    by_cases hlt : k < n
    · obtain ⟨ad, x, rfl, hab, hx, hc⟩ := HR.out.get hlt
      rw [byteV_def] at hc
      have hx8 : x < 256 := HB.out x (List.mem_of_getElem? hx)
      have HX := Lib.hid hx; clear hx
      have hdrop : bs.drop k = x :: bs.drop (k + 1) := by
        obtain ⟨hl, e⟩ := List.getElem?_eq_some_iff.1 HX.out
        rw [List.drop_eq_getElem_cons hl, e]
      rw [hdrop] at HG
      clear hdrop
      have HS := Lib.hid (V.acc_step k acc x HA.out)
      obtain ⟨hq0, hq1⟩ := part_bound p x hp1
      by_cases h15 : k = 4 ∧ 15 < x
      · have HF := Lib.hid (HG.out.trans (V.go_long _ _ _ _ h15))
        obtain ⟨h4, h15⟩ := h15
        have hb : ((k : Int) == 4) = true := by simp; omega
        clear h4
        go_wp2
        go_ret3
        exact ⟨by rw [HF.out]; rfl, rfl⟩
      · by_cases h0 : 0 < k ∧ x = 0
        · have HF := Lib.hid (HG.out.trans (V.go_form _ _ _ _ h15 h0))
          obtain ⟨h0k, rfl⟩ := h0
          clear h15
          have h15 : ¬ 15 < (0 : Int) := by omega
          by_cases h4 : k = 4
          · have hb : ((k : Int) == 4) = true := by simp; omega
            clear h4
            go_wp2
            go_ret3
            exact ⟨by rw [HF.out]; rfl, rfl⟩
          · have hb : ((k : Int) == 4) = false := by simp; omega
            clear h4
            go_wp2
            go_ret3
            exact ⟨by rw [HF.out]; rfl, rfl⟩
        · by_cases h128 : x < 128
          · have HF := Lib.hid (HG.out.trans (V.go_last _ _ _ _ h15 h0 h128))
            have HO := Lib.hid (acc_eq acc x p x (Nat.mod_eq_of_lt h128))
            by_cases hk0 : 0 < k
            · have hx0 : ((x : Int) == 0) = false := by simp; omega
              clear h0
              by_cases h4 : k = 4
              · have hb : ((k : Int) == 4) = true := by simp; omega
                have h15' : ¬ 15 < (x : Int) := by omega
                clear h4 h15
                go_wp2
                go_ret3
                exact ⟨by rw [HF.out, ← HP.out, ← HO.out]; rfl, rfl⟩
              · have hb : ((k : Int) == 4) = false := by simp; omega
                clear h4 h15
                go_wp2
                go_ret3
                exact ⟨by rw [HF.out, ← HP.out, ← HO.out]; rfl, rfl⟩
            · have hb : ((k : Int) == 4) = false := by simp; omega
              clear h0 h15
              go_wp2
              go_ret3
              exact ⟨by rw [HF.out, ← HP.out, ← HO.out]; rfl, rfl⟩
          · have hb : ((k : Int) == 4) = false := by simp; omega
            have HF := Lib.hid (HG.out.trans (V.go_on _ _ _ _ h15 h128))
            have hm : x % 128 = x - 128 := by omega
            have HM := Lib.hid hm
            have HO := Lib.hid (acc_eq acc x p (x - 128) hm)
            have HK : Hid (k + 1 ≤ 4) := by show k + 1 ≤ 4; omega
            have hx0 : ((x : Int) == 0) = false := by simp; omega
            clear h0 h15 hm
            by_cases hk0 : 0 < k
            all_goals
              go_wp2
              go_round
              case rel => exact ⟨k + 1, acc + (x - 128) * 128 ^ k, p * 128, by omega, HK.out, by rw [← HM.out]; exact HS.out, by go_num, by rw [HO.out, HP.out], by go_num, by rw [HP.out, Nat.pow_succ], HF.out⟩
              case measure => simp [intOf]; omega
    · have hke : k = n := by omega
      have hnil : V.get bs = (0, 0, 2) := by
        rw [HG.out, List.drop_of_length_le (by rw [HR.out.len]; omega), V.go_nil]
      have HF := Lib.hid hnil
      clear hnil hke
      go_wp2
      go_ret3
      exact ⟨by rw [HF.out]; rfl, rfl⟩
end Go.Proofs.YtgdnimhhhllgaaaDoor
