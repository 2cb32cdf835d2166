/- The document's own making of sets, walked: Mask, Of. -/
import Derived.Test.YtpokpaaaeedniaaDoorSetRef1
namespace Go.Proofs.YtpokpaaaeedniaaDoor
open Go.RowKit

theorem pow_le31 (k : Nat) (h : k ≤ 31) : 2 ^ k ≤ 2147483648 := Nat.pow_le_pow_right (by decide) h

set_option maxRecDepth 100000 in
set_option maxHeartbeats 800000 in
theorem ref_mask (B : Nat) (A : Option Addr) (n c : Nat) (l : List Nat) (w : World) (hr : Row natV w B A n l) (hl : ∀ x ∈ l, x ≤ 31) (hn : n ≤ 100000) (m : Nat) (hm : S.mask l % 4294967296 = m) :
    Calls Tryd.prog 11 #[.slice A n c] w fun e w' => e = .returned (.int .u32 (m : Int)) ∧ w = w' := by
  have HR := kp hr; have HL := kp hl; have HMm := kp hm
  clear hr hl hm
  go_enter Tryd.func11, Tryd.ntmps11
  go_wp2
  go_loop [3, 4] (fun v3 v4 => ∃ k : Nat, k ≤ n ∧ v4 = .int .i64 k ∧ v3 = .int .u64 ((S.mask (l.take k) : Nat) : Int)) (fun _ v4 => n - (intOf v4).toNat)
  case atStart => exact ⟨0, by omega, rfl, rfl⟩
  case round =>
    obtain ⟨k, hk, rfl, rfl⟩ := hrel
    have hle : S.mask (l.take k) ≤ 214748364800000 := by
      have h1 := S.mask_le (l.take k) fun x hx => HL.out x (List.mem_of_mem_take hx)
      have h2 : (l.take k).length ≤ k := List.length_take_le _ _
      have h3 : (l.take k).length * 2147483648 ≤ 100000 * 2147483648 := Nat.mul_le_mul_right _ (by omega)
      omega
    by_cases hlt : k < n
    · obtain ⟨ad, x, rfl, hab, hx, hc⟩ := HR.out.get hlt
      rw [natV_def] at hc
      have hx31 := HL.out x (List.mem_of_getElem? hx)
      have HN : Kept (S.mask (l.take (k + 1)) = S.mask (l.take k) + 2 ^ x) := kp <| by rw [List.take_add_one, hx]; exact S.mask_snoc _ _
      have hp := pow_le31 x hx31
      clear hx hab
      generalize S.mask (l.take k) = q at *
      go_wp2
      go_loop [5, 6] (fun v5 v6 => ∃ j : Nat, j ≤ x ∧ v6 = .int .i64 j ∧ v5 = .int .u64 ((2 ^ j : Nat) : Int)) (fun _ v6 => x - (intOf v6).toNat)
      case atStart => exact ⟨0, by omega, rfl, rfl⟩
      case round =>
        obtain ⟨j, hj, rfl, rfl⟩ := hrel
        have hp2 := pow_le31 j (by omega)
        have HP : Kept (2 ^ (j + 1) = 2 ^ j * 2) := kp <| Nat.pow_succ 2 j
        by_cases hjx : j < x
        · generalize 2 ^ j = p at *
          go_wp2
          go_round
          case rel => exact ⟨j + 1, by omega, by go_num, by rw [HP.out]; go_num⟩
          case measure => simp [intOf]; omega
        · have HE : Kept (2 ^ j = 2 ^ x) := kp <| by rw [show j = x by omega]
          generalize 2 ^ j = p at *
          go_wp2
          go_round
          case rel => exact ⟨k + 1, by omega, by go_num, by rw [HN.out, ← HE.out]; go_num⟩
          case measure => simp [intOf]; omega
    · have HT : Kept (l.take k = l) := kp <| List.take_of_length_le (by rw [HR.out.len]; omega)
      have HM : Kept (S.mask (l.take k) = S.mask l) := kp <| by rw [HT.out]
      have hge : n ≤ k := by omega
      clear HT hlt
      generalize S.mask (l.take k) = q at *
      go_wp2
      go_ret
      exact ⟨ret_int (by rw [← HMm.out, ← HM.out]; omega), rfl⟩

theorem bad_one (l : List Int) (size x : Int) (i : Nat) (h : l[i]? = some x) (hx : x < 0 ∨ size ≤ x ∨ 31 < x) : S.bad l size i = 1 := by
  unfold S.bad
  simp only [List.getD_eq_getElem?_getD, h, Option.getD_some]
  rw [if_pos hx]
theorem bad_five (l : List Int) (size x y : Int) (i : Nat) (h : l[i]? = some x) (hx : ¬ (x < 0 ∨ size ≤ x ∨ 31 < x)) (h0 : 0 < i) (hy : l[i - 1]? = some y) (hxy : x ≤ y) : S.bad l size i = 5 := by
  unfold S.bad
  simp only [List.getD_eq_getElem?_getD, h, hy, Option.getD_some]
  rw [if_neg hx, if_pos ⟨h0, hxy⟩]
theorem bad_none (l : List Int) (size x : Int) (i : Nat) (h : l[i]? = some x) (hx : ¬ (x < 0 ∨ size ≤ x ∨ 31 < x)) (hy : ¬ (0 < i ∧ x ≤ l.getD (i - 1) 0)) : S.bad l size i = 0 := by
  unfold S.bad
  simp only [List.getD_eq_getElem?_getD, h, Option.getD_some] at *
  rw [if_neg hx, if_neg hy]
theorem bad_zero (l : List Int) (size x : Int) (i : Nat) (h : l[i]? = some x) (hb : S.bad l size i = 0) : 0 ≤ x ∧ x < size ∧ x ≤ 31 := by
  unfold S.bad at hb
  simp only [List.getD_eq_getElem?_getD, h, Option.getD_some] at hb
  split at hb
  · cases hb
  · omega
theorem first_at (l : List Int) (size : Int) (n i : Nat) (h0 : S.first l size i = 0) (hi : i < n) (hb : S.bad l size i ≠ 0) : S.first l size n = S.bad l size i := by
  have h1 : S.first l size (i + 1) = S.bad l size i := by simp only [S.first]; rw [if_pos h0]
  have := S.first_stays l size (i + 1) (by rw [h1]; exact hb) (n - (i + 1))
  rw [show i + 1 + (n - (i + 1)) = n by omega] at this
  rw [this, h1]
/-- What Of answers. -/
def ofMask (l : List Int) (size : Int) : Nat := if S.first l size l.length = 0 then S.mask (l.map Int.toNat) % 4294967296 else 0

set_option maxRecDepth 100000 in
set_option maxHeartbeats 1600000 in
theorem ref_of (B : Nat) (A : Option Addr) (n c : Nat) (l : List Int) (size : Int) (w : World) (hr : Row intV w B A n l) (hl : ∀ x ∈ l, -9223372036854775808 ≤ x ∧ x ≤ 9223372036854775807) (hs : -9223372036854775808 ≤ size ∧ size ≤ 9223372036854775807) (hn : n ≤ 100000) (m e : Nat) (hm : ofMask l size = m) (he : S.first l size l.length = e) :
    Calls Tryd.prog 23 #[.slice A n c, .int .i64 size] w fun r w' => r = .returned (.tuple #[.int .u32 (m : Int), .int .i64 (e : Int)]) ∧ ∃ k, w' = w.drewN k := by
  have HR := kp hr; have HL := kp hl; have HM := kp hm; have HE := kp he
  obtain ⟨hs1, hs2⟩ := hs
  have hln := hr.len
  have HLn := kp hln
  clear hr hl hm he hln
  go_enter Tryd.func23, Tryd.ntmps23
  go_wp2
  go_loopw [6] (fun v6 wr => ∃ (i d : Nat), i ≤ n ∧ v6 = .int .i64 i ∧ S.first l size i = 0 ∧ wr = w.drewN d) (fun v6 _ => n - (intOf v6).toNat)
  case atStart => exact ⟨0, 0, by omega, rfl, rfl, rfl⟩
  case round =>
    obtain ⟨i, d, hi, rfl, hf, hw⟩ := hrel
    have HF := kp hf; have HW := kp hw
    by_cases hlt : i < n
    · obtain ⟨ad, x, rfl, hab, hx, hc0⟩ := HR.out.get hlt
      have hc : wr.cell? (ad.add i) = some (.int .i64 x) := by rw [hw]; exact hc0
      have hx64 := HL.out x (List.mem_of_getElem? hx)
      obtain ⟨hx1, hx2⟩ := hx64
      have HX := kp hx
      clear hf hw hx hc0 hab
      have hbad : ∀ b : Nat, b ≠ 0 → S.bad l size i = b → (0 = m ∧ b = e) := fun b hb h => by
        have h1 := first_at l size l.length i HF.out (by rw [HLn.out]; exact hlt) (by rw [h]; exact hb)
        refine ⟨?_, by rw [← HE.out, h1, h]⟩
        rw [← HM.out]
        unfold ofMask
        rw [if_neg (by rw [h1, h]; exact hb)]
      have HBad := kp hbad
      clear hbad
      by_cases h1 : x < 0
      · have HB := kp (HBad.out 1 (by decide) (bad_one l size x i HX.out (.inl h1)))
        go_wp2
        go_ret2
        exact ⟨by rw [← HB.out.1, ← HB.out.2]; rfl, d, HW.out⟩
      · by_cases h2 : size ≤ x
        · have HB := kp (HBad.out 1 (by decide) (bad_one l size x i HX.out (.inr (.inl h2))))
          go_wp2
          go_ret2
          exact ⟨by rw [← HB.out.1, ← HB.out.2]; rfl, d, HW.out⟩
        · by_cases h3 : 31 < x
          · have HB := kp (HBad.out 1 (by decide) (bad_one l size x i HX.out (.inr (.inr h3))))
            go_wp2
            go_ret2
            exact ⟨by rw [← HB.out.1, ← HB.out.2]; rfl, d, HW.out⟩
          · have hok : ¬ (x < 0 ∨ size ≤ x ∨ 31 < x) := by omega
            have HOk := kp hok; clear hok
            have hge0 : 0 ≤ x := by omega
            have hlts : x < size := by omega
            have hle31 : x ≤ 31 := by omega
            clear h1 h2 h3
            by_cases hi0 : 0 < i
            · obtain ⟨_, y, e1, _, hy, hcy0⟩ := HR.out.get (k := i - 1) (by omega)
              cases e1
              have hcy : wr.cell? (ad.add (i - 1)) = some (.int .i64 y) := by rw [HW.out]; exact hcy0
              have HY := kp hy
              clear hcy0 hy
              by_cases hxy : x ≤ y
              · have HB := kp (HBad.out 5 (by decide) (bad_five l size x y i HX.out HOk.out hi0 HY.out hxy))
                go_wp2
                go_quiet (fail)
                go_wp2
                go_ret2
                exact ⟨by rw [← HB.out.1, ← HB.out.2]; rfl, _, by rw [HW.out, World.drewN_drewN]⟩
              · have HB := kp (bad_none l size x i HX.out HOk.out (by rw [List.getD_eq_getElem?_getD, HY.out]; simp; omega))
                go_wp2
                go_quiet (fail)
                go_wp2
                go_roundw
                case rel => exact ⟨i + 1, _, by omega, by go_num, by simp only [S.first]; rw [if_pos HF.out]; exact HB.out, by rw [HW.out, World.drewN_drewN]⟩
                case measure => simp [intOf]; omega
            · have HB := kp (bad_none l size x i HX.out HOk.out (by omega))
              have hi00 : decide (0 < (i : Int)) = false := by simpa using hi0
              go_wp2
              go_quiet (fail)
              go_wp2
              go_roundw
              case rel => exact ⟨i + 1, _, by omega, by go_num, by simp only [S.first]; rw [if_pos HF.out]; exact HB.out, by rw [HW.out, World.drewN_drewN]⟩
              case measure => simp [intOf]; omega
    · have hge : n ≤ i := by omega
      have HF2 : Kept (S.first l size l.length = 0) := kp <| by rw [HLn.out, show n = i by omega]; exact HF.out
      have HEe : Kept ((0 : Nat) = e) := kp <| by rw [← HE.out, HF2.out]
      have HMm : Kept (S.mask (l.map Int.toNat) % 4294967296 = m) := kp <| by rw [← HM.out]; unfold ofMask; rw [if_pos HF2.out]
      have HAll : Kept (∀ x ∈ l, 0 ≤ x ∧ x ≤ 31) := kp <| fun x hx => by
        obtain ⟨k, hk, rfl⟩ := List.getElem_of_mem hx
        have hb := S.first_zero l size l.length HF2.out k hk
        have := bad_zero l size _ k (List.getElem?_eq_getElem hk) hb
        exact ⟨this.1, this.2.2⟩
      have HRn : Kept (Row natV wr B A n (l.map Int.toNat)) := kp <| by
        rw [HW.out]
        refine ⟨by rw [List.length_map]; exact HR.out.len, fun h0 => ?_⟩
        obtain ⟨ad, e1, hb, hc⟩ := HR.out.cells h0
        refine ⟨ad, e1, hb, fun k hk => ?_⟩
        have hkl : k < l.length := by rw [HR.out.len]; exact hk
        show w.cell? (ad.add k) = _
        rw [hc k hk, List.getElem?_map, List.getElem?_eq_getElem hkl]
        have := (HAll.out _ (List.getElem_mem hkl)).1
        simp [intV, natV, Int.toNat_of_nonneg this]
      have HLe : Kept (∀ x ∈ l.map Int.toNat, x ≤ 31) := kp <| fun x hx => by
        obtain ⟨y, hy, rfl⟩ := List.mem_map.1 hx
        have := HAll.out y hy
        omega
      clear hf hw hlt
      go_wp2_with (go_at_call 11; go_must (refine (ref_mask B A n c _ wr HRn.out HLe.out hn m HMm.out).mono ?_); rintro e' w' ⟨rfl, rfl⟩)
      go_ret2
      exact ⟨by rw [← HEe.out]; rfl, d, HW.out⟩
end Go.Proofs.YtpokpaaaeedniaaDoor
