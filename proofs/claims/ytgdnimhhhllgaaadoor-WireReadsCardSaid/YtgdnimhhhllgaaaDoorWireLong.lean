/- How long what came in is, walked. -/
import Derived.Test.YtgdnimhhhllgaaaDoorWireItem
namespace Go.Proofs.YtgdnimhhhllgaaaDoor
open Go.RowKit

def partLen (x : Item) : Nat := min x.len 601
def tot (l : List Item) : Nat := l.length + (l.map partLen).sum
theorem sum_take (l : List Item) (i : Nat) : ((l.take i).map partLen).sum ≤ (l.map partLen).sum := by
  conv => rhs; rw [← List.take_append_drop i l, List.map_append, List.sum_append]
  omega
theorem sum_snoc (l : List Item) (i : Nat) (x : Item) (h : l[i]? = some x) : ((l.take (i + 1)).map partLen).sum = ((l.take i).map partLen).sum + partLen x := by
  rw [List.take_add_one, h, List.map_append, List.sum_append]; simp

set_option maxRecDepth 100000 in
set_option maxHeartbeats 800000 in
theorem long_any (B : Nat) (A : Option Addr) (n c : Nat) (l : List Item) (w : World) (hi : Items w B A n l) (hn : n ≤ maxLen) (r : Bool) (hr : decide (600 < tot l) = r) :
    Calls Tryd.prog 8 #[.slice A n c] w fun e w' => e = .returned (.bool r) ∧ w = w' := by
  have HI := kp hi; have HR := kp hr
  have hln := hi.1.len
  have HLn := kp hln
  unfold maxLen at hn
  have hn2 : n ≤ 9223372036854775807 := by omega
  clear hi hr hln hn
  go_enter Tryd.func8, Tryd.ntmps8
  go_wp2
  go_loop [3, 4] (fun v3 v4 => ∃ i m : Nat, i ≤ n ∧ (i = 0 ∨ m ≤ 1201) ∧ v4 = .int .i64 i ∧ v3 = .int .i64 (m : Int) ∧ m = n + ((l.take i).map partLen).sum) (fun _ v4 => n - (intOf v4).toNat)
  case atStart => exact ⟨0, n, by omega, .inl rfl, rfl, rfl, rfl⟩
  case round =>
    obtain ⟨i, m, hin, hb, rfl, rfl, hm⟩ := hrel
    have HM := kp hm
    have hmn : n ≤ m := by omega
    clear hm
    by_cases hlt : i < n ∧ m ≤ 600
    · obtain ⟨h1, h2⟩ := hlt
      obtain ⟨ad, x, rfl, hab, hx, hok, _, _, hc2, _⟩ := HI.out.get h1
      have HN : Kept (m + partLen x = n + ((l.take (i + 1)).map partLen).sum) := kp <| by rw [sum_snoc l i x hx, HM.out]; omega
      have hlx := hok.lc
      have hcx := hok.cm
      unfold maxLen at hcx
      have hcx2 : x.len ≤ 9223372036854775807 := by omega
      obtain ⟨p, hp⟩ : ∃ p, partLen x = p := ⟨_, rfl⟩
      have hp2 : p = min x.len 601 := by rw [← hp]; rfl
      rw [hp] at HN
      clear hx hok hcx hp
      go_wp2
      all_goals go_round
      case rel => exact ⟨i + 1, m + p, by omega, .inr (by omega), by go_num, by go_num, HN.out⟩
      case measure => simp [intOf]; omega
    · have HE : Kept (decide ((600 : Int) < (m : Int)) = r) := kp <| by
        rw [← HR.out, Bool.eq_iff_iff]
        simp only [decide_eq_true_iff]
        have h1 := HM.out
        have h2 := sum_take l i
        unfold tot
        by_cases h3 : i < n
        · have : 600 < m := by omega
          have := HLn.out
          omega
        · rw [List.take_of_length_le (by rw [HLn.out]; omega)] at h1
          have := HLn.out
          omega
      go_wp2
      all_goals go_ret
      all_goals exact ⟨ret_bool (by rw [← HE.out] <;> first | (simp; done) | (simp; omega)), rfl⟩
end Go.Proofs.YtgdnimhhhllgaaaDoor
