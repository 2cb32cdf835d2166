/- What the program's digest of all that came is, walked. -/
import Derived.Test.YtoagmmelklkoaaaDoorShaP6
namespace Go.Proofs.YtoagmmelklkoaaaDoor
open Go.RowKit

theorem be4_at (x j : Nat) (h : j < 4) : (H.be 4 x)[j]? = some (x / 256 ^ (3 - j) % 256) := by
  have hj : j = 0 ∨ j = 1 ∨ j = 2 ∨ j = 3 := by omega
  rcases hj with rfl | rfl | rfl | rfl <;> simp [H.be, Nat.div_div_eq_div_mul]
theorem flat_at : ∀ (ws : List Nat) (i x : Nat), ws[i / 4]? = some x → (ws.flatMap (H.be 4))[i]? = some (x / 256 ^ (3 - i % 4) % 256)
  | [], i, x, h => by simp at h
  | y :: r, i, x, h => by
    rw [List.flatMap_cons]
    have hl : (H.be 4 y).length = 4 := H.be_len _ _
    by_cases hi : i < 4
    · rw [show i / 4 = 0 by omega] at h
      cases h
      rw [List.getElem?_append_left (by omega), be4_at _ _ hi, show i % 4 = i by omega]
    · rw [List.getElem?_append_right (by omega), hl, flat_at r (i - 4) x (by rw [show (i - 4) / 4 = i / 4 - 1 by omega]; rw [show i / 4 = (i / 4 - 1) + 1 by omega] at h; simpa using h), show (i - 4) % 4 = i % 4 by omega]
theorem flat_len : ∀ (ws : List Nat), (ws.flatMap (H.be 4)).length = 4 * ws.length
  | [] => rfl
  | y :: r => by rw [List.flatMap_cons, List.length_append, flat_len r, H.be_len, List.length_cons]; omega
/-- The bytes, as far as they were made. -/
def digP (dig : List Nat) (i : Nat) : List Nat := dig.take i ++ List.replicate (32 - i) 0
theorem digP_len (dig : List Nat) (i : Nat) (hd : dig.length = 32) (hi : i ≤ 32) : (digP dig i).length = 32 := by simp [digP, hd]; omega
theorem digP_next (dig : List Nat) (i : Nat) (hd : dig.length = 32) (hi : i < 32) : (digP dig i)[i]? = some 0 := by
  unfold digP
  rw [List.getElem?_append_right (by rw [List.length_take, hd]; omega), List.length_take, hd, List.getElem?_replicate, if_pos (by omega)]
theorem digP_set (dig : List Nat) (i d : Nat) (hd : dig.length = 32) (hi : i < 32) (h : dig[i]? = some d) : (digP dig i).set i d = digP dig (i + 1) := by
  unfold digP
  rw [List.set_append_right _ _ (by rw [List.length_take, hd]; omega), List.length_take, hd, show i - min i 32 = 0 by omega, show 32 - i = (32 - (i + 1)) + 1 by omega, List.replicate_succ, List.set_cons_zero, List.take_add_one, h]
  simp
theorem shift_byte (x i : Nat) : x / 2 ^ (24 - 8 * (i % 4)) % 256 = x / 256 ^ (3 - i % 4) % 256 := by
  rw [show 24 - 8 * (i % 4) = 8 * (3 - i % 4) by omega, Nat.pow_mul]

theorem zero32 : (Tryd.prog.info? 24).map (·.zero) = some (some (.agg ((List.replicate 32 0).map byteV).toArray)) := by kernel_rfl
theorem size32 : (Tryd.prog.info? 24).map (·.size) = some 32 := by kernel_rfl
theorem zeroSt : (Tryd.prog.info? 48).map (·.zero) = some (some (.agg (stC (List.replicate 8 0) (List.replicate 64 0) 0).toArray)) := by kernel_rfl
theorem sizeSt : (Tryd.prog.info? 48).map (·.size) = some 73 := by kernel_rfl
theorem one_st (ws blk : List Nat) (cnt : Nat) : ∀ u ∈ stC ws blk cnt, u.oneCell' = true := by
  intro u hu
  simp only [stC, List.mem_append, List.mem_map, List.mem_singleton] at hu
  rcases hu with ⟨_, _, rfl⟩ | ⟨_, _, rfl⟩ | rfl <;> rfl

set_option maxRecDepth 1000000 in
set_option maxHeartbeats 4000000 in
theorem sum_any (g : Nat) (bs : List Nat) (w : World) (hs : Holds w g bs) (hk : Row wordV w 1 (some ⟨0, 0, none⟩) 64 H.K) (hg : 1 ≤ g) (hm : bs.length ≤ 900000000) (dig : List Nat) (hdig : H.digest bs = dig) :
    Calls Tryd.prog 12 #[.pointer (some ⟨g, 0, none⟩)] w fun e w' => e = .returned (.agg (dig.map byteV).toArray) ∧ Below w.heap.size w w' := by
  obtain ⟨ws0, blk0, hM0, hB0⟩ := hs
  have HM0 := kp hM0; have HB0 := kp hB0; have HK := kp hk; have HDig := kp hdig
  have hgw := hB0.lt
  clear hM0 hB0 hk hdig
  go_enter Tryd.func12, Tryd.ntmps12
  go_wp2_with (first
    | ((with_reducible show wpList _ _ _ (⟨some 2, _, _, _, _, _⟩ :: _) _ _); go_must (refine wpList_alloc_zero rfl 24 rfl _ zero32 ?_); intro g2 w2 hg2 hk2 hw2; have HG2 := kp hg2; have HK2 := kp hk2; have HW2 := kp hw2; clear hg2 hk2 hw2
       have HB2 : Kept (Blk w2 g 48 (stC ws0 blk0 bs.length)) := kp <| HB0.out.below HW2.out hgw)
    | ((with_reducible show wpList _ _ _ (⟨some 8, _, _, _, _, _⟩ :: _) _ _); go_must (refine wpList_load_blk rfl 48 (.tmp 7) rfl g rfl 48 _ _ HB2.out Tryd.underlying48 rfl (sizeSt.trans (by rw [stC_len _ _ _ HM0.out.wlen HM0.out.len])) ?_))
    | ((with_reducible show wpList _ _ _ (⟨some 3, _, _, _, _, _⟩ :: _) _ _); go_must (refine wpList_alloc_zero rfl 48 rfl _ zeroSt ?_); intro g3 w3 hg3 hk3 hw3; have HG3 := kp hg3; have HK3 := kp hk3; have HW3 := kp hw3; clear hg3 hk3 hw3)
    | ((with_reducible refine wpList_store_blk rfl 48 (.tmp 3) (.tmp 8) rfl g3 _ rfl rfl 48 _ HK3.out (sizeSt.trans (by rw [stC_len _ _ _ HM0.out.wlen HM0.out.len])) (by rw [stC_len _ _ _ HM0.out.wlen HM0.out.len, stC_len _ _ _ (by simp) (by simp)]) (one_st _ _ _) ?_); intro w4 hk4 hw4 hz4; have HK4 := kp hk4; have HW4 := kp hw4; clear hk4 hw4 hz4
       have HB4 : Kept (Blk w4 g 48 (stC ws0 blk0 bs.length)) := kp <| (HB2.out.below HW3.out HB2.out.lt).grown HW4.out (by intro e; cases e; have := HG3.out; have := HB2.out.lt; omega)
       have HBel4 : Kept (Below w.heap.size w w4) := kp <| (HW2.out.trans (HW3.out.mono HW2.out.size)).grown HW4.out (Nat.le_trans HW2.out.size HW3.out.size) (by intro k e; cases e; exact Nat.le_trans HW2.out.size HG3.out)
       have hg34 : g3 < w4.heap.size := HK4.out.lt
       have hg31 : 1 ≤ g3 := by have := HG3.out; have := HW2.out.size; omega
       have hg23 : g2 < g3 := by have := HG3.out; have := HK2.out.lt; omega
       have HZ2 : Kept (Blk w4 g2 24 ((List.replicate 32 0).map byteV)) := kp <| (HK2.out.below HW3.out HK2.out.lt).grown HW4.out (by intro e; cases e; omega)
       have hcc := (HB4.out.cell 72).trans (stC_cnt ws0 blk0 _ HM0.out.wlen HM0.out.len))
    | (go_at_call 18; go_must (refine (ending_any bs.length (by omega) _).mono ?_); rintro e w5 ⟨v5, rfl, hown5, hb5⟩
       clear hcc
       obtain ⟨A5, c5, rfl, hlc5, _, hr5⟩ := hown5.bytesN (endL_len bs.length)
       have hob := hown5.block
       have HOB : Kept (∀ ad, A5 = some ad → ad.block ≠ g3) := kp <| by
         intro ad e e2
         subst e
         have := (hob ad.block rfl).1
         omega
       have HR5 := kp hr5; have HBel5 : Kept (Below w.heap.size w w5) := kp <| HBel4.out.trans (hb5.mono HBel4.out.size)
       have HS5 : Kept (Holds w5 g3 bs) := kp ⟨ws0, blk0, HM0.out, HK4.out.below hb5 hg34⟩
       have HW45 := kp hb5
       clear hown5 hob hr5 hb5)
    | (go_at_call 11; go_must (refine (write_any g3 bs (endL bs.length) A5 (9 + H.zeros bs.length) c5 w5.heap.size w5 HS5.out HR5.out (Nat.le_refl _) (endL_byte _) (fun ad _ e => HOB.out ad e) (HK.out.below (HBel5.out.mono (by omega))) hg31 hlc5 (by have : H.zeros bs.length < 64 := Nat.mod_lt _ (by decide); omega)).mono ?_); rintro e w6 ⟨rfl, hs6, hg6⟩; have HS6 := kp hs6; have HG6 := kp hg6; clear hs6 hg6)
    | ((with_reducible show wpList _ _ _ (⟨some 15, _, _, _, _, _⟩ :: _) _ _); go_must (refine wpList_build_zero rfl 24 rfl _ 32 5 Tryd.underlying24 (by rw [size1b]; rfl) zero32 ?_))
    | ((with_reducible show wpList _ _ _ (⟨some 4, _, _, _, _, _⟩ :: _) _ _); go_must (refine wpList_alloc_zero rfl 24 rfl _ zero32 ?_); intro g7 w7 hg7 hk7 hw7; have HG7 := kp hg7; have HK7 := kp hk7; have HW7 := kp hw7; clear hg7 hk7 hw7)
    | ((with_reducible refine wpList_store_blk rfl 24 (.tmp 4) (.tmp 15) rfl g7 _ rfl rfl 24 _ HK7.out (size32.trans (by simp)) (by simp) (ones _ one_byteV _) ?_); intro w8 hk8 hw8 hz8; have HK8 := kp hk8; have HW8 := kp hw8; clear hk8 hw8 hz8))
  obtain ⟨ws6, blk6, hM6, hB6⟩ := HS6.out
  have HFl : Kept (ws6.flatMap (H.be 4) = dig) := kp <| by
    rw [← HDig.out, hM6.words, ← pad_end]; rfl
  have hl8 := hM6.wlen
  have HL8 := kp hl8
  have HDL : Kept (dig.length = 32) := kp <| by rw [← HFl.out, flat_len, hl8]
  have HLT := kp hM6.wlt
  have hg67 : g3 < g7 := by have := hB6.lt; have := HG7.out; omega
  have HB8 : Kept (Blk w8 g3 48 (stC ws6 blk6 (bs ++ endL bs.length).length)) := kp <| (hB6.below HW7.out hB6.lt).grown HW8.out (by intro e; cases e; omega)
  have HZ8 : Kept (Blk w8 g2 24 ((List.replicate 32 0).map byteV)) := kp <| (((HZ2.out.below HW45.out (by omega)).grown HG6.out (by intro e; cases e; omega)).below HW7.out (by have := hB6.lt; omega)).grown HW8.out (by intro e; cases e; omega)
  have HBel8 : Kept (Below w.heap.size w w8) := kp <| by
    have h6 : Below w.heap.size w w6 := HBel5.out.grown HG6.out HBel5.out.size (by intro k e; cases e; have := HG3.out; have := HW2.out.size; omega)
    have h7 : Below w.heap.size w w7 := h6.trans (HW7.out.mono h6.size)
    exact h7.grown HW8.out h7.size (by intro k e; cases e; have := HG7.out; have := h6.size; omega)
  have hwg3 : w.heap.size ≤ g3 := by have := HG3.out; have := HW2.out.size; omega
  clear hM6 hB6 hl8
  generalize (bs ++ endL bs.length).length = cnt6 at HB8
  go_loopw [16] (fun v16 wr => ∃ i : Nat, i ≤ 32 ∧ v16 = .int .i64 i ∧ Blk wr g7 24 ((digP dig i).map byteV) ∧ Blk wr g3 48 (stC ws6 blk6 cnt6) ∧ Blk wr g2 24 ((List.replicate 32 0).map byteV) ∧ Below w.heap.size w wr) (fun v16 _ => 32 - (intOf v16).toNat)
  case atStart => exact ⟨0, by omega, rfl, HK8.out, HB8.out, HZ8.out, HBel8.out⟩
  case round =>
    clear HK8 HB8 HZ8 HBel8
    obtain ⟨i, hi, rfl, hb7, hb3, hb2, hbl⟩ := hrel
    have HB7 := kp hb7; have HB3 := kp hb3; have HB2 := kp hb2; have HBL := kp hbl
    clear hb7 hb3 hb2 hbl
    by_cases hlt : i < 32
    · obtain ⟨x, hx⟩ : ∃ x, ws6[i / 4]? = some x := ⟨_, List.getElem?_eq_getElem (by rw [HL8.out]; omega)⟩
      have hx32 : x < 4294967296 := HLT.out x (List.mem_of_getElem? hx)
      have HD : Kept (dig[i]? = some (x / 2 ^ (24 - 8 * (i % 4)) % 256)) := kp <| by rw [shift_byte, ← HFl.out]; exact flat_at ws6 i x hx
      have hc3 := (HB3.out.cell (i / 4)).trans (stC_word ws6 blk6 cnt6 (i / 4) x hx)
      have hc7 : wr.cell? ⟨g7, i, none⟩ = some (.int .u8 0) := (HB7.out.cell i).trans (map_at (f := byteV) (digP_next dig i HDL.out hlt))
      have hf7 := HB7.out.frozen i
      clear hx
      go_wp2
      go_roundw
      case rel =>
        refine ⟨i + 1, by omega, by go_num, ?_, HB3.out.other _ _ (by simp; omega), HB2.out.other _ _ (by simp; omega), HBL.out.setCell (by simp; omega) _⟩
        have h := HB7.out.set i (byteV (x / 2 ^ (24 - 8 * (i % 4)) % 256))
        rw [← List.map_set, digP_set dig i _ HDL.out hlt HD.out] at h
        exact h
      case measure => simp [intOf]; omega
    · have hi32 : 32 ≤ i := by omega
      have HI : Kept (digP dig i = dig) := kp <| by unfold digP; rw [show 32 - i = 0 by omega, List.take_of_length_le (by rw [HDL.out]; exact hi32)]; simp
      clear hlt hi
      go_wp2_with (first
        | ((with_reducible show wpList _ _ _ (⟨some 33, _, _, _, _, _⟩ :: _) _ _); go_must (refine wpList_load_blk rfl 24 (.tmp 4) rfl g7 rfl 24 (dig.map byteV) _ (by have h := HB7.out; rw [HI.out] at h; exact h) Tryd.underlying24 rfl (size32.trans (by rw [List.length_map, HDL.out])) ?_))
        | ((with_reducible refine wpList_store_blk rfl 24 (.tmp 2) (.tmp 33) rfl g2 _ rfl rfl 24 _ HB2.out (size32.trans (by rw [List.length_map, HDL.out])) (by simp [HDL.out]) (ones _ one_byteV _) ?_); intro w9 hk9 hw9 hz9; have HK9 := kp hk9; have HW9 := kp hw9; clear hk9 hw9 hz9))
      refine bodyPost_ret (results_blk (P := Tryd.prog) (fn := Tryd.f12) rfl _ _ g2 24 (dig.map byteV) (.array 32 5) rfl HK9.out Tryd.underlying24 rfl (size32.trans (by rw [List.length_map, HDL.out]))) rfl ⟨rfl, ?_⟩
      exact HBL.out.grown HW9.out HBL.out.size (by intro k e; cases e; have := HG2.out; omega)
end Go.Proofs.YtoagmmelklkoaaaDoor
