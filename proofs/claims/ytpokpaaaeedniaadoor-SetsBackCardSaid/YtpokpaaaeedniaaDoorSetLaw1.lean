/- What the statements of sets begin with, walked: same, awake. -/
import Derived.Test.YtpokpaaaeedniaaDoorSetP2
import Derived.Test.YtpokpaaaeedniaaDoorSetP3
import Derived.BigQuiet
import Derived.Deep.QuietTactic
namespace Go.Proofs.YtpokpaaaeedniaaDoor
open Go.RowKit

theorem take_diff {α : Type} [BEq α] (a b : List α) (i : Nat) (x y : α) (hx : a[i]? = some x) (hy : b[i]? = some y) (h : x ≠ y) : a ≠ b := by
  rintro rfl
  rw [hx] at hy
  exact h (Option.some.inj hy)

set_option maxRecDepth 100000 in
set_option maxHeartbeats 800000 in
theorem same_any (B : Nat) (A A2 : Option Addr) (n n2 c c2 : Nat) (a b : List Nat) (w : World) (ha : Row natV w B A n a) (hb : Row natV w B A2 n2 b) (hn : n ≤ 100000) (hn2 : n2 ≤ 100000) (r : Bool) (hr : decide (a = b) = r) :
    Calls Tryd.prog 18 #[.slice A n c, .slice A2 n2 c2] w fun e w' => e = .returned (.bool r) ∧ ∃ k, w' = w.drewN k := by
  have HA := kp ha; have HB := kp hb; have HR := kp hr
  by_cases hne : n = n2
  · subst hne
    clear ha hb hr
    go_enter Tryd.func18, Tryd.ntmps18
    go_wp2
    go_loopw [5] (fun v5 wr => ∃ (i d : Nat), i ≤ n ∧ v5 = .int .i64 i ∧ a.take i = b.take i ∧ wr = w.drewN d) (fun v5 _ => n - (intOf v5).toNat)
    case atStart => exact ⟨0, 0, by omega, rfl, rfl, rfl⟩
    case round =>
      obtain ⟨i, d, hi, rfl, hf, hw⟩ := hrel
      have HF := kp hf; have HW := kp hw
      by_cases hlt : i < n
      · obtain ⟨ad, x, rfl, hab, hx, hc0⟩ := HA.out.get hlt
        obtain ⟨ad2, y, rfl, hab2, hy, hd0⟩ := HB.out.get hlt
        have hc : wr.cell? (ad.add i) = some (.int .i64 (x : Int)) := by rw [hw]; exact hc0
        have hd : wr.cell? (ad2.add i) = some (.int .i64 (y : Int)) := by rw [hw]; exact hd0
        by_cases hxy : x = y
        · have HN : Kept (a.take (i + 1) = b.take (i + 1)) := kp <| by rw [List.take_add_one, List.take_add_one, HF.out, hx, hy, hxy]
          clear hf hw hx hy hc0 hd0 hab hab2
          subst hxy
          go_wp2
          go_quiet (fail)
          go_wp2
          go_roundw
          case rel => exact ⟨i + 1, _, by omega, by go_num, HN.out, by rw [HW.out, World.drewN_drewN]⟩
          case measure => simp [intOf]; omega
        · have HN : Kept (false = r) := kp <| by rw [← HR.out, decide_eq_false (take_diff a b i x y hx hy hxy)]
          clear hf hw hx hy hc0 hd0 hab hab2
          have hi2 : ((x : Int) != (y : Int)) = true := by rw [bne_iff_ne]; omega
          go_wp2
          go_quiet (fail)
          go_wp2
          go_ret
          exact ⟨ret_bool HN.out, _, by rw [HW.out, World.drewN_drewN]⟩
      · have HN : Kept (true = r) := kp <| by
          rw [← HR.out]
          have h1 := HF.out
          rw [List.take_of_length_le (by rw [HA.out.len]; omega), List.take_of_length_le (by rw [HB.out.len]; omega)] at h1
          rw [decide_eq_true h1]
        have hge : n ≤ i := by omega
        clear hf hw hlt
        go_wp2
        go_ret
        exact ⟨ret_bool HN.out, d, HW.out⟩
  · have HN : Kept (false = r) := kp <| by
      rw [← HR.out, decide_eq_false]
      rintro rfl
      exact hne (by rw [← ha.len, ← hb.len])
    have hi2 : ((n : Int) != (n2 : Int)) = true := by rw [bne_iff_ne]; omega
    clear ha hb hr
    go_enter Tryd.func18, Tryd.ntmps18
    go_wp2
    go_ret
    exact ⟨ret_bool HN.out, 0, rfl⟩

theorem ids_13 : S.ids 13 32 = [0, 2, 3] := by decide
theorem of_21 : ofMask [2, 1] 9 = 0 ∧ S.first [2, 1] 9 2 = 5 := by decide

set_option maxRecDepth 100000 in
set_option maxHeartbeats 800000 in
theorem awake_any (w : World) (ht : Tab w) (hw : 1 ≤ w.heap.size) : Calls Tryd.prog 9 #[] w fun e w' => e = .returned (.bool true) ∧ Below w.heap.size w w' := by
  have HL := kp (Row.made intV w [2, 1] #[.int .i64 2, .int .i64 1] rfl 3)
  have HB : Kept (∀ x ∈ [(2 : Int), 1], -9223372036854775808 ≤ x ∧ x ≤ 9223372036854775807) := kp <| by simp
  have HT := kp ht
  clear ht
  go_enter Tryd.func9, Tryd.ntmps9
  go_wp2_with (first
    | (go_at_call 22; go_must (refine (of_any _ _ _ _ [2, 1] 9 _ HL.out HB.out (by omega) (by simp) 0 5 of_21.1 of_21.2).mono ?_); rintro e' w' ⟨rfl, rfl⟩
       have HB1 : Kept (Below w.heap.size w (w.alloc (.cells #[.int .i64 2, .int .i64 1] 3))) := kp ((Below.refl _ _).alloc (Nat.le_refl _) _)
       have hs1 : w.heap.size + 1 = (w.alloc (.cells #[.int .i64 2, .int .i64 1] 3)).heap.size := by simp
       generalize w.alloc (.cells #[.int .i64 2, .int .i64 1] 3) = w1 at *)
    | (go_at_call 19; go_must (refine (list_any 13 (by omega) w1 (HT.out.below HB1.out hw) (by omega)).mono ?_); rintro e' w2 ⟨v, rfl, hown, hb2⟩
       rw [ids_13] at hown
       obtain ⟨A2, c2, rfl, hc2, hm2, hr2⟩ := Own.readsN hown (n := 3) rfl
       obtain ⟨ad0, x0, rfl, _, hx0, hq0⟩ := hr2.get (k := 0) (by omega)
       obtain ⟨ad1, x1, e1, _, hx1, hq1⟩ := hr2.get (k := 1) (by omega)
       obtain ⟨ad2, x2, e2, _, hx2, hq2⟩ := hr2.get (k := 2) (by omega)
       cases e1; cases e2
       cases hx0; cases hx1; cases hx2
       have hq00 : w2.cell? ad0 = some (.int .i64 0) := by simpa [Addr.add, natV] using hq0
       have hq11 : w2.cell? ⟨ad0.block, ad0.off + 1, none⟩ = some (.int .i64 2) := by simpa [Addr.add, natV] using hq1
       have hq22 : w2.cell? ⟨ad0.block, ad0.off + 2, none⟩ = some (.int .i64 3) := by simpa [Addr.add, natV] using hq2
       clear hq0 hq1 hq2
       have HB2 := kp (HB1.out.trans (hb2.mono (by omega)))
       clear hown hb2 hr2 hm2))
  go_ret
  exact ⟨rfl, HB2.out⟩
end Go.Proofs.YtpokpaaaeedniaaDoor
