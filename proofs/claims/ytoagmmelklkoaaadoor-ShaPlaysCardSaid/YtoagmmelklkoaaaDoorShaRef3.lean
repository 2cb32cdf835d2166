/- What the document's own padding makes, walked. -/
import Derived.Test.YtoagmmelklkoaaaDoorShaRef2
namespace Go.Proofs.YtoagmmelklkoaaaDoor
open Go.RowKit

theorem one_byteV (b : Nat) : (byteV b).oneCell' = true := rfl
theorem one_wordV (b : Nat) : (wordV b).oneCell' = true := rfl
theorem be_lens (k n : Nat) : (H.be k n).length = k := H.be_len k n

set_option maxRecDepth 100000 in
set_option maxHeartbeats 800000 in
theorem ref_padded (A : Option Addr) (n c : Nat) (bs : List Nat) (w : World) (hr : Row byteV w w.heap.size A n bs) (hn : n ≤ 100000) :
    Calls Tryd.prog 15 #[.slice A n c] w fun e w' => ∃ v, e = .returned v ∧ Own w' w.heap.size 5 v ((H.pad bs).map byteV) ∧ Below w.heap.size w w' := by
  have HR := Lib.hid hr
  have HL := Lib.hid hr.len
  have HO0 := Lib.hid (Own.new w w.heap.size 5 [] (Nat.le_refl _) (by simp [maxLen]))
  have HB0 : Hid (Below w.heap.size w (w.alloc (.cells #[] 5))) := (Below.refl _ _).alloc (Nat.le_refl _) _
  clear hr
  go_enter Tryd.func15, Tryd.ntmps15
  go_wp2_with (first
    | (at_builtin; have HO1' := HO1; go_must (refine wpList_append_one rfl (.tmp 10) (.tmp 11) 22 rfl w.heap.size 5 _ _ Tryd.underlying22 byte_info rfl _ _ _ _ rfl HO1.out _ 1 rfl rfl rfl (by have := HL.out; simp [maxLen]; omega) (by have := HL.out; simp; omega) (by have := HG1.out.size; simp at this; omega) ?_); intro v2 w2 hown2 hg2; have HO2 := Lib.hid hown2; clear hown2; have HG2 := Lib.hid hg2; clear hg2)
    | (at_builtin; go_must (refine wpList_append_row rfl (.tmp 7) (.tmp 8) 22 rfl w.heap.size 5 _ _ Tryd.underlying22 byte_info rfl _ _ _ rfl HO0.out A _ c _ _ rfl ((HR.out.below HB0.out).vals) (ones _ one_byteV _) (by simp [maxLen]; omega) (by simp; omega) (by simp) ?_); intro v1 w1 hown1 hg1; have HO1 := Lib.hid hown1; clear hown1; have HG1 := Lib.hid hg1; clear hg1))
  have HB1 : Hid (Below w.heap.size w w1) := HG1.out.below HB0.out HO0.out (by simp)
  have HB2 : Hid (Below w.heap.size w w2) := HG2.out.below HB1.out HO1.out HB1.out.size
  have HO3 : Hid (Own w2 w.heap.size 5 v2 ((bs ++ [128] ++ List.replicate 0 0).map byteV)) := by
    have h := HO2.out
    rw [show bs ++ [128] ++ List.replicate 0 0 = bs ++ [128] by simp, List.map_append]
    exact h
  clear HO0 HB0 HG1 HG2 HO1 HO2
  go_loopw [3] (fun v3 wr => ∃ j : Nat, j ≤ H.zeros n ∧ Own wr w.heap.size 5 v3 ((bs ++ [128] ++ List.replicate j 0).map byteV) ∧ Below w.heap.size w wr) (fun v3 _ => match v3 with | .slice _ l _ => n + 1 + H.zeros n - l | _ => 0)
  case atStart => exact ⟨0, by omega, HO3.out, HB2.out⟩
  case round =>
    obtain ⟨j, hj, hown, hbl⟩ := hrel
    have hlen : (bs ++ [128] ++ List.replicate j 0).length = n + 1 + j := by simp [HL.out]; omega
    obtain ⟨A3, c3, rfl, hlc, hcm, hr3⟩ := hown.bytesN hlen
    have hz : H.zeros n < 64 := Nat.mod_lt _ (by omega)
    have HOwn := Lib.hid hown; have HBL := Lib.hid hbl
    have hB := hbl.size
    clear hown hbl hr3 hlen
    by_cases hlt : j < H.zeros n
    · have ht : (((n : Int) + 1 + j) % 64 != 56) = true := by rw [bne_iff_ne]; unfold H.zeros at *; omega
      go_wp2_with (at_builtin; go_must (refine wpList_append_one rfl (.tmp 17) (.tmp 18) 22 rfl w.heap.size 5 _ _ Tryd.underlying22 byte_info rfl wr _ _ _ rfl HOwn.out _ 1 rfl rfl rfl (by have := HL.out; simp [maxLen]; omega) (by have := HL.out; simp; omega) hB ?_); intro v4 w4 hown4 hg4; have HO4 := Lib.hid hown4; clear hown4; have HG4 := Lib.hid hg4; clear hg4)
      have HO5 : Hid (Own w4 w.heap.size 5 v4 ((bs ++ [128] ++ List.replicate (j + 1) 0).map byteV)) := by
        have h := HO4.out
        rw [List.replicate_succ', ← List.append_assoc, List.map_append (l₂ := [0])]
        exact h
      have hlen5 : (bs ++ [128] ++ List.replicate (j + 1) 0).length = n + 1 + (j + 1) := by simp [HL.out]; omega
      obtain ⟨A5, c5, rfl, _, _, _⟩ := HO5.out.bytesN hlen5
      go_roundw
      case rel => exact ⟨j + 1, by omega, HO5.out, HG4.out.below HBL.out HOwn.out hB⟩
      case measure => simp only []; omega
    · have hje : j = H.zeros n := by omega
      have ht : (((n : Int) + 1 + j) % 64 != 56) = false := by rw [hje, bne_eq_false_iff_eq]; unfold H.zeros at *; omega
      have HJ := Lib.hid hje
      clear hje hlt
      go_wp2
      go_loopw [4, 5, 6] (fun v4 v5 v6 wq => ∃ i : Nat, i ≤ 8 ∧ v6 = .int .i64 i ∧ v4 = .int .i64 ((8 * n / 256 ^ i : Nat) : Int) ∧ Own wq w.heap.size 5 v5 ((H.be i (8 * n)).map byteV) ∧ Below wr.heap.size wr wq) (fun _ _ v6 _ => 8 - (intOf v6).toNat)
      case atStart => exact ⟨0, by omega, rfl, by simp, Own.nil _ _ _, Below.refl _ _⟩
      case round =>
        obtain ⟨i, hi, rfl, rfl, hown, hbl⟩ := hrel
        have hdiv : 8 * n / 256 ^ i ≤ 800000 := Nat.le_trans (Nat.div_le_self _ _) (by omega)
        have hnext : 8 * n / 256 ^ i / 256 = 8 * n / 256 ^ (i + 1) := by rw [Nat.pow_succ, Nat.div_div_eq_div_mul]
        have hcons := H.be_cons i (8 * n)
        have hbl8 := be_lens i (8 * n)
        have hB2 : w.heap.size ≤ wr.heap.size := Nat.le_trans hB hbl.size
        generalize 8 * n / 256 ^ i = q at *
        have HNext := Lib.hid hnext
        have HCons := Lib.hid hcons
        have HBL2 := Lib.hid hbl
        have HOwn2 := Lib.hid hown
        have HLen8 := Lib.hid hbl8
        clear hnext hcons hbl hbl8 hown
        by_cases hi8 : i < 8
        · obtain ⟨A6, c6, rfl, _, _, hr6⟩ := HOwn2.out.bytesN HLen8.out
          have HR6 := Lib.hid hr6
          have HN6 := Lib.hid (Own.new wr wr.heap.size 5 [byteV (q % 256)] (Nat.le_refl _) (by simp [maxLen]))
          clear hr6
          go_wp2_with (at_builtin; go_must (refine wpList_append_row rfl (.tmp 30) (.tmp 31) 22 rfl w.heap.size 5 _ _ Tryd.underlying22 byte_info rfl _ _ _ rfl (HN6.out.less hB2) A6 _ c6 _ _ rfl ((HR6.out.below ((Below.refl _ _).alloc (Nat.le_refl _) _)).vals) (ones _ one_byteV _) (by simp [maxLen]; omega) (by simp; omega) (by simp; omega) ?_); intro v7 w7 hown7 hg7; have HO7 := Lib.hid hown7; clear hown7; have HG7 := Lib.hid hg7; clear hg7)
          go_roundw
          case rel => exact ⟨i + 1, by omega, by go_num, by rw [← HNext.out]; go_num, by rw [HCons.out, List.map_cons]; exact HO7.out, (((Below.refl _ _).alloc (Nat.le_refl _) _).trans (HG7.out.below (Below.refl _ _) HN6.out (by simp)) |> fun h => HBL2.out.trans (h.mono HBL2.out.size))⟩
          case measure => simp [intOf]; omega
        · have hie : i = 8 := by omega
          subst hie
          have HO3' := Lib.hid (HOwn.out.below HBL2.out (Nat.le_refl _))
          obtain ⟨A6, c6, rfl, _, _, hr6⟩ := HOwn2.out.bytesN HLen8.out
          have HR6 := Lib.hid hr6
          clear hr6
          go_wp2_with (at_builtin; go_must (refine wpList_append_row rfl (.tmp 35) (.tmp 36) 22 rfl w.heap.size 5 _ _ Tryd.underlying22 byte_info rfl _ _ _ rfl HO3'.out A6 _ c6 _ _ rfl HR6.out.vals (ones _ one_byteV _) (by have := HL.out; simp [maxLen]; omega) (by have := HL.out; simp; omega) hB2 ?_); intro v7 w7 hown7 hg7; have HO7 := Lib.hid hown7; clear hown7; have HG7 := Lib.hid hg7; clear hg7)
          go_ret
          refine ⟨v7, rfl, ?_, HG7.out.below (HBL.out.trans (HBL2.out.mono HBL.out.size)) HO3'.out hB2⟩
          have h := HO7.out
          rw [← List.map_append] at h
          unfold H.pad
          rw [HL.out, ← HJ.out]
          exact h
end Go.Proofs.YtoagmmelklkoaaaDoor
