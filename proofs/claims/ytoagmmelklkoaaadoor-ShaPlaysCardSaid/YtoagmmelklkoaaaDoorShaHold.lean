/- What a digest on its way holds, on plain numbers. -/
import Derived.Test.YtoagmmelklkoaaaDoorShaMath
import Derived.Laws.CopyOwn
namespace Go.Proofs.YtoagmmelklkoaaaDoor.H

/-- The blocks of a row that goes on are the same. -/
theorem blocks_more (bs cs : List Nat) (l : List Nat) : ∀ k, 64 * k ≤ bs.length → blocks (bs ++ cs) k l = blocks bs k l
  | 0, _ => rfl
  | k + 1, h => by
    simp only [blocks]
    rw [blocks_more bs cs l k (by omega)]
    congr 1
    rw [List.drop_append_of_le_length (by omega), List.take_append_of_le_length (by rw [List.length_drop]; omega)]

/-- These words, and this block with the rest, are what is held when bs came. -/
structure HoldM (bs ws blk : List Nat) : Prop where
  len : blk.length = 64
  byte : ∀ x ∈ blk, x < 256
  rest : blk.take (bs.length % 64) = bs.drop (64 * (bs.length / 64))
  words : ws = blocks bs (bs.length / 64) L0

theorem hold_nil : HoldM [] L0 (List.replicate 64 0) := ⟨by simp, by intro x hx; have := (List.mem_replicate.1 hx).2; omega, by simp, rfl⟩
theorem HoldM.wlen {bs ws blk : List Nat} (h : HoldM bs ws blk) : ws.length = 8 := by rw [h.words]; exact blocks_len _ _
theorem HoldM.wlt {bs ws blk : List Nat} (h : HoldM bs ws blk) : ∀ x ∈ ws, x < 4294967296 := by rw [h.words]; exact blocks_lt _ _

theorem splice_len (blk cs : List Nat) (at_ : Nat) (h : at_ + cs.length ≤ blk.length) : (splice blk at_ cs).length = blk.length := by
  simp [splice]; omega
theorem splice_byte (blk cs : List Nat) (at_ : Nat) (hb : ∀ x ∈ blk, x < 256) (hc : ∀ x ∈ cs, x < 256) : ∀ x ∈ splice blk at_ cs, x < 256 := by
  intro x hx
  simp only [splice, List.mem_append] at hx
  rcases hx with hx | hx | hx
  · exact hb x (List.mem_of_mem_take hx)
  · exact hc x hx
  · exact hb x (List.mem_of_mem_drop hx)
theorem splice_take (blk cs : List Nat) (at_ : Nat) (h : at_ + cs.length ≤ blk.length) : (splice blk at_ cs).take (at_ + cs.length) = blk.take at_ ++ cs := by
  unfold splice
  rw [← List.append_assoc, List.take_append_of_le_length (by simp; omega), List.take_of_length_le (by simp; omega)]
theorem HoldM.rest_more {bs ws blk : List Nat} (h : HoldM bs ws blk) (cs : List Nat) (hc : bs.length % 64 + cs.length ≤ 64) :
    (splice blk (bs.length % 64) cs).take (bs.length % 64 + cs.length) = (bs ++ cs).drop (64 * (bs.length / 64)) := by
  rw [splice_take _ _ _ (by rw [h.len]; exact hc), h.rest, List.drop_append_of_le_length (by omega)]
theorem HoldM.part {bs ws blk : List Nat} (h : HoldM bs ws blk) (cs : List Nat) (hc : bs.length % 64 + cs.length < 64) (hb : ∀ x ∈ cs, x < 256) : HoldM (bs ++ cs) ws (splice blk (bs.length % 64) cs) := by
  have h1 : (bs ++ cs).length / 64 = bs.length / 64 := by rw [List.length_append]; omega
  have h2 : (bs ++ cs).length % 64 = bs.length % 64 + cs.length := by rw [List.length_append]; omega
  refine ⟨by rw [splice_len _ _ _ (by rw [h.len]; omega), h.len], splice_byte _ _ _ h.byte hb, ?_, ?_⟩
  · rw [h1, h2]; exact h.rest_more cs (by omega)
  · rw [h1, blocks_more _ _ _ _ (by omega)]; exact h.words
theorem HoldM.full {bs ws blk : List Nat} (h : HoldM bs ws blk) (cs : List Nat) (hc : bs.length % 64 + cs.length = 64) (hb : ∀ x ∈ cs, x < 256) :
    HoldM (bs ++ cs) (block ws (splice blk (bs.length % 64) cs)) (splice blk (bs.length % 64) cs) := by
  have h1 : (bs ++ cs).length / 64 = bs.length / 64 + 1 := by rw [List.length_append]; omega
  have h2 : (bs ++ cs).length % 64 = 0 := by rw [List.length_append]; omega
  have hl : (splice blk (bs.length % 64) cs).length = 64 := by rw [splice_len _ _ _ (by rw [h.len]; omega), h.len]
  refine ⟨hl, splice_byte _ _ _ h.byte hb, ?_, ?_⟩
  · rw [h1, h2, List.take_zero, List.drop_of_length_le (by rw [List.length_append]; omega)]
  · rw [h1]
    simp only [blocks]
    rw [blocks_more _ _ _ _ (by omega), ← h.words]
    congr 1
    have := h.rest_more cs (by omega)
    rw [hc, List.take_of_length_le (by omega)] at this
    rw [this, List.take_of_length_le (by rw [List.length_drop, List.length_append]; omega)]
end Go.Proofs.YtoagmmelklkoaaaDoor.H
namespace Go.Proofs.YtoagmmelklkoaaaDoor
theorem digest_len (bs : List Nat) : (H.digest bs).length = 32 := by
  unfold H.digest
  generalize (H.pad bs).length / 64 = k
  have h8 : (H.blocks (H.pad bs) k H.L0).length = 8 := H.blocks_len _ _
  generalize H.blocks (H.pad bs) k H.L0 = l at h8
  have hf : ∀ l : List Nat, (l.flatMap (H.be 4)).length = 4 * l.length := by
    intro l
    induction l with
    | nil => rfl
    | cons y r ih => rw [List.flatMap_cons, List.length_append, ih, H.be_len, List.length_cons]; omega
  rw [hf, h8]
end Go.Proofs.YtoagmmelklkoaaaDoor
