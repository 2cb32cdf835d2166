/- What the program digests behind all that came, walked. -/
import Derived.Test.YtoagmmelklkoaaaDoorShaP5
namespace Go.Proofs.YtoagmmelklkoaaaDoor
open Go.RowKit

/-- What is digested behind so many bytes. -/
def endL (cnt : Nat) : List Nat := 128 :: List.replicate (H.zeros cnt) 0 ++ H.be 8 (8 * cnt)
theorem pad_end (bs : List Nat) : H.pad bs = bs ++ endL bs.length := by simp [H.pad, endL]
theorem endL_len (cnt : Nat) : (endL cnt).length = 9 + H.zeros cnt := by simp [endL, H.be_len]; omega
theorem endL_byte (cnt : Nat) : ∀ x ∈ endL cnt, x < 256 := by
  intro x hx
  simp only [endL, List.cons_append, List.mem_cons, List.mem_append] at hx
  rcases hx with hx | hx | hx
  · omega
  · have := (List.mem_replicate.1 hx).2; omega
  · exact H.be_byte _ _ x hx
/-- The first i of a number's bytes. -/
theorem be_front (n : Nat) : ∀ (k i : Nat), i < k → (H.be k n).take (i + 1) = (H.be k n).take i ++ [n / 256 ^ (k - 1 - i) % 256]
  | 0, i, h => by omega
  | k + 1, 0, _ => by rw [H.be_cons]; simp
  | k + 1, i + 1, h => by
    rw [H.be_cons, List.take_succ_cons, List.take_succ_cons, be_front n k i (by omega), List.cons_append, show k + 1 - 1 - (i + 1) = k - 1 - i by omega]

theorem pow_shift (i : Nat) (hi : i < 8) : 2 ^ (56 - 8 * i) = 256 ^ (8 - 1 - i) := by
  rw [show 56 - 8 * i = 8 * (8 - 1 - i) by omega, Nat.pow_mul]

set_option maxRecDepth 1000000 in
set_option maxHeartbeats 1600000 in
theorem ending_any (cnt : Nat) (hc : cnt ≤ 2000000000) (w : World) :
    Calls Tryd.prog 18 #[.int .u64 (cnt : Int)] w fun e w' => ∃ v, e = .returned v ∧ Own w' w.heap.size 5 v ((endL cnt).map byteV) ∧ Below w.heap.size w w' := by
  obtain ⟨z, hz⟩ : ∃ z, z = H.zeros cnt := ⟨_, rfl⟩
  have HZ := kp hz
  have hz64 : z < 64 := by rw [hz]; exact Nat.mod_lt _ (by omega)
  have hzi : (64 - ((cnt : Int) + 1 + 8) % 64) % 64 = (z : Int) := by rw [hz]; unfold H.zeros; omega
  clear hz
  go_enter Tryd.func18, Tryd.ntmps18
  go_wp2_with (first
    | ((with_reducible show wpList _ _ _ (⟨some 19, _, _, _, _, _⟩ :: _) _ _); go_must (refine wpList_make_blk rfl 22 (.tmp 15) (.tmp 18) rfl 5 (.int .u8 0) 1 Tryd.underlying22 byte_info rfl .u64 .u64 (1 + z) (1 + z + 8) rfl rfl (by omega) (by omega) (by omega) ?_); intro g1 w1 hg1 hk1 hw1; have HG1 := kp hg1; have HK1 := kp hk1; have HW1 := kp hw1; clear hg1 hk1 hw1
       have hc0 : w1.cell? ⟨g1, 0, none⟩ = some (.int .u8 0) := (HK1.out.cell 0).trans (by rw [List.getElem?_replicate, if_pos (by omega)])
       have hf0 := HK1.out.frozen 0))
  clear hc0 hf0 hzi
  have HO1 : Kept (Own (w1.setCell ⟨g1, 0, none⟩ (.int .u8 128)) w.heap.size 5 (.slice (some ⟨g1, 0, none⟩) (1 + z) (1 + z + 8)) ((128 :: List.replicate z 0 ++ (H.be 8 (8 * cnt)).take 0).map byteV)) := kp <| by
    have h := (HK1.out.set 0 (.int .u8 128)).own (B := w.heap.size) (xs := (128 :: List.replicate z 0).map byteV) (cap := 1 + z + 8) HG1.out (by simp) (by simp; omega) (by unfold maxLen; omega) (by
      rw [show 1 + z + 8 = (z + 8) + 1 by omega, List.replicate_succ, List.set_cons_zero, List.map_cons, List.length_cons, List.take_succ_cons, List.length_map, List.length_replicate, List.take_replicate, show min z (z + 8) = z by omega, List.map_replicate]; rfl)
    rw [show ((128 :: List.replicate z 0).map byteV).length = 1 + z by simp; omega] at h
    rw [List.take_zero, List.append_nil]
    exact h
  have HB1 : Kept (Below w.heap.size w (w1.setCell ⟨g1, 0, none⟩ (.int .u8 128))) := kp <| HW1.out.setCell HG1.out _
  go_loopw [5, 22] (fun v5 v22 wr => ∃ i : Nat, i ≤ 8 ∧ v22 = .int .i64 i ∧ Own wr w.heap.size 5 v5 ((128 :: List.replicate z 0 ++ (H.be 8 (8 * cnt)).take i).map byteV) ∧ Below w.heap.size w wr) (fun _ v22 _ => 8 - (intOf v22).toNat)
  case atStart => exact ⟨0, by omega, rfl, HO1.out, HB1.out⟩
  case round =>
    clear HO1 HB1
    obtain ⟨i, hi, rfl, hown, hbl⟩ := hrel
    have hB := hbl.size
    have HOwn := kp hown; have HBL := kp hbl
    clear hown hbl
    by_cases hlt : i < 8
    · have HF := kp (be_front (8 * cnt) 8 i hlt)
      have HP := kp (pow_shift i hlt)
      have hl8 : (H.be 8 (8 * cnt)).length = 8 := H.be_len _ _
      have HL8 := kp hl8; clear hl8
      go_wp2_with (at_builtin; go_must (refine wpList_append_one rfl (.tmp 25) (.tmp 33) 22 rfl w.heap.size 5 _ _ Tryd.underlying22 byte_info rfl wr _ _ _ rfl HOwn.out _ 1 rfl rfl rfl (by simp [maxLen, HL8.out]; omega) (by simp [HL8.out]; omega) hB ?_); intro v2 w2 hown2 hg2; have HO2 := kp hown2; clear hown2; have HG2 := kp hg2; clear hg2)
      go_roundw
      case rel =>
        refine ⟨i + 1, by omega, by go_num, ?_, HG2.out.below HBL.out HOwn.out hB⟩
        have h := HO2.out
        rw [HF.out, ← HP.out, ← List.append_assoc, List.map_append (l₂ := [_])]
        exact h
      case measure => simp [intOf]; omega
    · have hi8 : 8 ≤ i := by omega
      have HI : Kept ((H.be 8 (8 * cnt)).take i = H.be 8 (8 * cnt)) := kp <| List.take_of_length_le (by rw [H.be_len]; exact hi8)
      clear hlt hi
      go_wp2
      go_ret
      refine ⟨_, rfl, ?_, HBL.out⟩
      have h := HOwn.out
      rw [HI.out, HZ.out] at h
      exact h
end Go.Proofs.YtoagmmelklkoaaaDoor
