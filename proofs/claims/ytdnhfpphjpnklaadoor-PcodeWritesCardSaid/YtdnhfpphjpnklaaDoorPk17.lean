/- ShaP7, ShaP8, in one text. -/
import Derived.Test.YtdnhfpphjpnklaaDoorPk16
/- What the program's digest of all that came is, walked. -/
namespace Go.Proofs.YtdnhfpphjpnklaaDoor
open Go.RowKit

theorem be4_at (x j : Nat) (h : j < 4) : (H.be 4 x)[j]? = some (x / 256 ^ (3 - j) % 256) := by
  have hj : j = 0 ∨ j = 1 ∨ j = 2 ∨ j = 3 := by omega
  rcases hj with rfl | rfl | rfl | rfl <;> simp [H.be, Nat.div_div_eq_div_mul]
theorem flat_at : ∀ (ws : List Nat) (i x : Nat), ws[i / 4]? = some x → (ws.flatMap (H.be 4))[i]? = some (x / 256 ^ (3 - i % 4) % 256)
  | [], i, x, h => by simp at h
  | y :: r, i, x, h => by
    rw [List.flatMap_cons]
    have hl : (H.be 4 y).length = 4 := H.be_len _ _
    by_cases hi : i < 4
    · rw [show i / 4 = 0 by omega] at h
      cases h
      rw [List.getElem?_append_left (by omega), be4_at _ _ hi, show i % 4 = i by omega]
    · rw [List.getElem?_append_right (by omega), hl, flat_at r (i - 4) x (by rw [show (i - 4) / 4 = i / 4 - 1 by omega]; rw [show i / 4 = (i / 4 - 1) + 1 by omega] at h; simpa using h), show (i - 4) % 4 = i % 4 by omega]
theorem flat_len : ∀ (ws : List Nat), (ws.flatMap (H.be 4)).length = 4 * ws.length
  | [] => rfl
  | y :: r => by rw [List.flatMap_cons, List.length_append, flat_len r, H.be_len, List.length_cons]; omega
/-- The bytes, as far as they were made. -/
def digP (dig : List Nat) (i : Nat) : List Nat := dig.take i ++ List.replicate (32 - i) 0
theorem digP_len (dig : List Nat) (i : Nat) (hd : dig.length = 32) (hi : i ≤ 32) : (digP dig i).length = 32 := by simp [digP, hd]; omega
theorem digP_next (dig : List Nat) (i : Nat) (hd : dig.length = 32) (hi : i < 32) : (digP dig i)[i]? = some 0 := by
  unfold digP
  rw [List.getElem?_append_right (by rw [List.length_take, hd]; omega), List.length_take, hd, List.getElem?_replicate, if_pos (by omega)]
theorem digP_set (dig : List Nat) (i d : Nat) (hd : dig.length = 32) (hi : i < 32) (h : dig[i]? = some d) : (digP dig i).set i d = digP dig (i + 1) := by
  unfold digP
  rw [List.set_append_right _ _ (by rw [List.length_take, hd]; omega), List.length_take, hd, show i - min i 32 = 0 by omega, show 32 - i = (32 - (i + 1)) + 1 by omega, List.replicate_succ, List.set_cons_zero, List.take_add_one, h]
  simp
theorem shift_byte (x i : Nat) : x / 2 ^ (24 - 8 * (i % 4)) % 256 = x / 256 ^ (3 - i % 4) % 256 := by
  rw [show 24 - 8 * (i % 4) = 8 * (3 - i % 4) by omega, Nat.pow_mul]

theorem zero32 : (Tryd.prog.info? 31).map (·.zero) = some (some (.agg ((List.replicate 32 0).map byteV).toArray)) := by kernel_rfl
theorem size32 : (Tryd.prog.info? 31).map (·.size) = some 32 := by kernel_rfl
theorem zeroSt : (Tryd.prog.info? 90).map (·.zero) = some (some (.agg (stC (List.replicate 8 0) (List.replicate 64 0) 0).toArray)) := by kernel_rfl
theorem sizeSt : (Tryd.prog.info? 90).map (·.size) = some 73 := by kernel_rfl
theorem one_st (ws blk : List Nat) (cnt : Nat) : ∀ u ∈ stC ws blk cnt, u.oneCell' = true := by
  intro u hu
  simp only [stC, List.mem_append, List.mem_map, List.mem_singleton] at hu
  rcases hu with ⟨_, _, rfl⟩ | ⟨_, _, rfl⟩ | rfl <;> rfl

set_option maxRecDepth 1000000 in
set_option maxHeartbeats 4000000 in
theorem sum_any (g : Nat) (bs : List Nat) (w : World) (hs : Holds w g bs) (hk : Row wordV w 1 (some ⟨0, 0, none⟩) 64 H.K) (hg : 1 ≤ g) (hm : bs.length ≤ 900000000) (dig : List Nat) (hdig : H.digest bs = dig) :
    Calls Tryd.prog 33 #[.pointer (some ⟨g, 0, none⟩)] w fun e w' => e = .returned (.agg (dig.map byteV).toArray) ∧ Below w.heap.size w w' := by
  obtain ⟨ws0, blk0, hM0, hB0⟩ := hs
  have HM0 := kp hM0; have HB0 := kp hB0; have HK := kp hk; have HDig := kp hdig
  have hgw := hB0.lt
  clear hM0 hB0 hk hdig
  go_enter Tryd.func33, Tryd.ntmps33
  go_wp2_with (first
    | ((with_reducible show wpList _ _ _ (⟨some 2, _, _, _, _, _⟩ :: _) _ _); go_must (refine wpList_alloc_zero rfl 31 rfl _ zero32 ?_); intro g2 w2 hg2 hk2 hw2; have HG2 := kp hg2; have HK2 := kp hk2; have HW2 := kp hw2; clear hg2 hk2 hw2
       have HB2 : Kept (Blk w2 g 90 (stC ws0 blk0 bs.length)) := kp <| HB0.out.below HW2.out hgw)
    | ((with_reducible show wpList _ _ _ (⟨some 8, _, _, _, _, _⟩ :: _) _ _); go_must (refine wpList_load_blk rfl 90 (.tmp 7) rfl g rfl 90 _ _ HB2.out Tryd.underlying90 rfl (sizeSt.trans (by rw [stC_len _ _ _ HM0.out.wlen HM0.out.len])) ?_))
    | ((with_reducible show wpList _ _ _ (⟨some 3, _, _, _, _, _⟩ :: _) _ _); go_must (refine wpList_alloc_zero rfl 90 rfl _ zeroSt ?_); intro g3 w3 hg3 hk3 hw3; have HG3 := kp hg3; have HK3 := kp hk3; have HW3 := kp hw3; clear hg3 hk3 hw3)
    | ((with_reducible refine wpList_store_blk rfl 90 (.tmp 3) (.tmp 8) rfl g3 _ rfl rfl 90 _ HK3.out (sizeSt.trans (by rw [stC_len _ _ _ HM0.out.wlen HM0.out.len])) (by rw [stC_len _ _ _ HM0.out.wlen HM0.out.len, stC_len _ _ _ (by simp) (by simp)]) (one_st _ _ _) ?_); intro w4 hk4 hw4 hz4; have HK4 := kp hk4; have HW4 := kp hw4; clear hk4 hw4 hz4
       have HB4 : Kept (Blk w4 g 90 (stC ws0 blk0 bs.length)) := kp <| (HB2.out.below HW3.out HB2.out.lt).grown HW4.out (by intro e; cases e; have := HG3.out; have := HB2.out.lt; omega)
       have HBel4 : Kept (Below w.heap.size w w4) := kp <| (HW2.out.trans (HW3.out.mono HW2.out.size)).grown HW4.out (Nat.le_trans HW2.out.size HW3.out.size) (by intro k e; cases e; exact Nat.le_trans HW2.out.size HG3.out)
       have hg34 : g3 < w4.heap.size := HK4.out.lt
       have hg31 : 1 ≤ g3 := by have := HG3.out; have := HW2.out.size; omega
       have hg23 : g2 < g3 := by have := HG3.out; have := HK2.out.lt; omega
       have HZ2 : Kept (Blk w4 g2 31 ((List.replicate 32 0).map byteV)) := kp <| (HK2.out.below HW3.out HK2.out.lt).grown HW4.out (by intro e; cases e; omega)
       have hcc := (HB4.out.cell 72).trans (stC_cnt ws0 blk0 _ HM0.out.wlen HM0.out.len))
    | (go_at_call 40; go_must (refine (ending_any bs.length (by omega) _).mono ?_); rintro e w5 ⟨v5, rfl, hown5, hb5⟩
       clear hcc
       obtain ⟨A5, c5, rfl, hlc5, _, hr5⟩ := hown5.bytesN (endL_len bs.length)
       have hob := hown5.block
       have HOB : Kept (∀ ad, A5 = some ad → ad.block ≠ g3) := kp <| by
         intro ad e e2
         subst e
         have := (hob ad.block rfl).1
         omega
       have HR5 := kp hr5; have HBel5 : Kept (Below w.heap.size w w5) := kp <| HBel4.out.trans (hb5.mono HBel4.out.size)
       have HS5 : Kept (Holds w5 g3 bs) := kp ⟨ws0, blk0, HM0.out, HK4.out.below hb5 hg34⟩
       have HW45 := kp hb5
       clear hown5 hob hr5 hb5)
    | (go_at_call 32; go_must (refine (write_any g3 bs (endL bs.length) A5 (9 + H.zeros bs.length) c5 w5.heap.size w5 HS5.out HR5.out (Nat.le_refl _) (endL_byte _) (fun ad _ e => HOB.out ad e) (HK.out.below (HBel5.out.mono (by omega))) hg31 hlc5 (by have : H.zeros bs.length < 64 := Nat.mod_lt _ (by decide); omega)).mono ?_); rintro e w6 ⟨rfl, hs6, hg6⟩; have HS6 := kp hs6; have HG6 := kp hg6; clear hs6 hg6)
    | ((with_reducible show wpList _ _ _ (⟨some 15, _, _, _, _, _⟩ :: _) _ _); go_must (refine wpList_build_zero rfl 31 rfl _ 32 5 Tryd.underlying31 (by rw [size1b]; rfl) zero32 ?_))
    | ((with_reducible show wpList _ _ _ (⟨some 4, _, _, _, _, _⟩ :: _) _ _); go_must (refine wpList_alloc_zero rfl 31 rfl _ zero32 ?_); intro g7 w7 hg7 hk7 hw7; have HG7 := kp hg7; have HK7 := kp hk7; have HW7 := kp hw7; clear hg7 hk7 hw7)
    | ((with_reducible refine wpList_store_blk rfl 31 (.tmp 4) (.tmp 15) rfl g7 _ rfl rfl 31 _ HK7.out (size32.trans (by simp)) (by simp) (ones _ one_byteV _) ?_); intro w8 hk8 hw8 hz8; have HK8 := kp hk8; have HW8 := kp hw8; clear hk8 hw8 hz8))
  obtain ⟨ws6, blk6, hM6, hB6⟩ := HS6.out
  have HFl : Kept (ws6.flatMap (H.be 4) = dig) := kp <| by
    rw [← HDig.out, hM6.words, ← pad_end]; rfl
  have hl8 := hM6.wlen
  have HL8 := kp hl8
  have HDL : Kept (dig.length = 32) := kp <| by rw [← HFl.out, flat_len, hl8]
  have HLT := kp hM6.wlt
  have hg67 : g3 < g7 := by have := hB6.lt; have := HG7.out; omega
  have HB8 : Kept (Blk w8 g3 90 (stC ws6 blk6 (bs ++ endL bs.length).length)) := kp <| (hB6.below HW7.out hB6.lt).grown HW8.out (by intro e; cases e; omega)
  have HZ8 : Kept (Blk w8 g2 31 ((List.replicate 32 0).map byteV)) := kp <| (((HZ2.out.below HW45.out (by omega)).grown HG6.out (by intro e; cases e; omega)).below HW7.out (by have := hB6.lt; omega)).grown HW8.out (by intro e; cases e; omega)
  have HBel8 : Kept (Below w.heap.size w w8) := kp <| by
    have h6 : Below w.heap.size w w6 := HBel5.out.grown HG6.out HBel5.out.size (by intro k e; cases e; have := HG3.out; have := HW2.out.size; omega)
    have h7 : Below w.heap.size w w7 := h6.trans (HW7.out.mono h6.size)
    exact h7.grown HW8.out h7.size (by intro k e; cases e; have := HG7.out; have := h6.size; omega)
  have hwg3 : w.heap.size ≤ g3 := by have := HG3.out; have := HW2.out.size; omega
  clear hM6 hB6 hl8
  generalize (bs ++ endL bs.length).length = cnt6 at HB8
  go_loopw [16] (fun v16 wr => ∃ i : Nat, i ≤ 32 ∧ v16 = .int .i64 i ∧ Blk wr g7 31 ((digP dig i).map byteV) ∧ Blk wr g3 90 (stC ws6 blk6 cnt6) ∧ Blk wr g2 31 ((List.replicate 32 0).map byteV) ∧ Below w.heap.size w wr) (fun v16 _ => 32 - (intOf v16).toNat)
  case atStart => exact ⟨0, by omega, rfl, HK8.out, HB8.out, HZ8.out, HBel8.out⟩
  case round =>
    clear HK8 HB8 HZ8 HBel8
    obtain ⟨i, hi, rfl, hb7, hb3, hb2, hbl⟩ := hrel
    have HB7 := kp hb7; have HB3 := kp hb3; have HB2 := kp hb2; have HBL := kp hbl
    clear hb7 hb3 hb2 hbl
    by_cases hlt : i < 32
    · obtain ⟨x, hx⟩ : ∃ x, ws6[i / 4]? = some x := ⟨_, List.getElem?_eq_getElem (by rw [HL8.out]; omega)⟩
      have hx32 : x < 4294967296 := HLT.out x (List.mem_of_getElem? hx)
      have HD : Kept (dig[i]? = some (x / 2 ^ (24 - 8 * (i % 4)) % 256)) := kp <| by rw [shift_byte, ← HFl.out]; exact flat_at ws6 i x hx
      have hc3 := (HB3.out.cell (i / 4)).trans (stC_word ws6 blk6 cnt6 (i / 4) x hx)
      have hc7 : wr.cell? ⟨g7, i, none⟩ = some (.int .u8 0) := (HB7.out.cell i).trans (map_at (f := byteV) (digP_next dig i HDL.out hlt))
      have hf7 := HB7.out.frozen i
      clear hx
      go_wp2
      go_roundw
      case rel =>
        refine ⟨i + 1, by omega, by go_num, ?_, HB3.out.other _ _ (by simp; omega), HB2.out.other _ _ (by simp; omega), HBL.out.setCell (by simp; omega) _⟩
        have h := HB7.out.set i (byteV (x / 2 ^ (24 - 8 * (i % 4)) % 256))
        rw [← List.map_set, digP_set dig i _ HDL.out hlt HD.out] at h
        exact h
      case measure => simp [intOf]; omega
    · have hi32 : 32 ≤ i := by omega
      have HI : Kept (digP dig i = dig) := kp <| by unfold digP; rw [show 32 - i = 0 by omega, List.take_of_length_le (by rw [HDL.out]; exact hi32)]; simp
      clear hlt hi
      go_wp2_with (first
        | ((with_reducible show wpList _ _ _ (⟨some 33, _, _, _, _, _⟩ :: _) _ _); go_must (refine wpList_load_blk rfl 31 (.tmp 4) rfl g7 rfl 31 (dig.map byteV) _ (by have h := HB7.out; rw [HI.out] at h; exact h) Tryd.underlying31 rfl (size32.trans (by rw [List.length_map, HDL.out])) ?_))
        | ((with_reducible refine wpList_store_blk rfl 31 (.tmp 2) (.tmp 33) rfl g2 _ rfl rfl 31 _ HB2.out (size32.trans (by rw [List.length_map, HDL.out])) (by simp [HDL.out]) (ones _ one_byteV _) ?_); intro w9 hk9 hw9 hz9; have HK9 := kp hk9; have HW9 := kp hw9; clear hk9 hw9 hz9))
      refine bodyPost_ret (results_blk (P := Tryd.prog) (fn := Tryd.f33) rfl _ _ g2 31 (dig.map byteV) (.array 32 5) rfl HK9.out Tryd.underlying31 rfl (size32.trans (by rw [List.length_map, HDL.out]))) rfl ⟨rfl, ?_⟩
      exact HBL.out.grown HW9.out HBL.out.size (by intro k e; cases e; have := HG2.out; omega)
end Go.Proofs.YtdnhfpphjpnklaaDoor

/- What the program's digest of parts is, walked. -/
namespace Go.Proofs.YtdnhfpphjpnklaaDoor
open Go.RowKit

/-- A slice of bytes, and what it reads as. -/
structure Part where
  A : Option Addr
  n : Nat
  c : Nat
  bs : List Nat
def partV (p : Part) : Value := .slice p.A p.n p.c
theorem partV_def (p : Part) : partV p = .slice p.A p.n p.c := rfl
structure Part.Ok (p : Part) (w : World) (B : Nat) : Prop where
  row : Row byteV w B p.A p.n p.bs
  byte : ∀ x ∈ p.bs, x < 256
  cap : p.n ≤ p.c
theorem Part.Ok.keep {p : Part} {w w' : World} {B : Nat} (h : p.Ok w B) (hk : ∀ q : Addr, q.block < B → w'.cell? q = w.cell? q) : p.Ok w' B := ⟨h.row.keep hk, h.byte, h.cap⟩
theorem Part.Ok.more {p : Part} {w : World} {B C : Nat} (h : p.Ok w B) (hB : B ≤ C) : p.Ok w C := ⟨h.row.more hB, h.byte, h.cap⟩
/-- All bytes, one part behind the other. -/
def joined (ps : List Part) : List Nat := ps.flatMap (·.bs)
theorem joined_snoc (ps : List Part) (p : Part) : joined (ps ++ [p]) = joined ps ++ p.bs := by simp [joined]
theorem joined_take_le (ps : List Part) (k : Nat) : (joined (ps.take k)).length ≤ (joined ps).length := by
  have h : joined ps = joined (ps.take k) ++ joined (ps.drop k) := by
    unfold joined; rw [← List.flatMap_append, List.take_append_drop]
  rw [h, List.length_append]; omega

theorem keys_size {w : World} (hk : Row wordV w 1 (some ⟨0, 0, none⟩) 64 H.K) : 1 ≤ w.heap.size := by
  obtain ⟨ad, x, e, _, _, hc⟩ := hk.get (k := 0) (by omega)
  cases e
  have := block_lt_of_cell hc
  omega
set_option maxRecDepth 1000000 in
set_option maxHeartbeats 1600000 in
theorem of_any (A : Option Addr) (n c B : Nat) (ps : List Part) (w : World) (hr : Row partV w B A n ps) (hB : B ≤ w.heap.size) (hok : ∀ p ∈ ps, p.Ok w B) (hk : Row wordV w 1 (some ⟨0, 0, none⟩) 64 H.K) (hn : n ≤ 1000000000000)
    (hm : (joined ps).length ≤ 900000000) (dig : List Nat) (hdig : H.digest (joined ps) = dig) :
    Calls Tryd.prog 17 #[.slice A n c] w fun e w' => e = .returned (.agg (dig.map byteV).toArray) ∧ Below w.heap.size w w' := by
  have HR := kp hr; have HOk := kp hok; have HK := kp hk; have HDig := kp hdig; have HM := kp hm
  have hw1 := keys_size hk
  clear hr hok hk hdig hm
  go_enter Tryd.func17, Tryd.ntmps17
  go_wp2_with (first
    | ((with_reducible show wpList _ _ _ (⟨some 2, _, _, _, _, _⟩ :: _) _ _); go_must (refine wpList_alloc_zero rfl 31 rfl _ zero32 ?_); intro g2 w2 hg2 hk2 hw2; have HG2 := kp hg2; have HK2 := kp hk2; have HW2 := kp hw2; clear hg2 hk2 hw2)
    | (go_at_call 31; go_must (refine (new_any _).mono ?_); rintro e w3 ⟨g, rfl, hg3, hs3, hw3⟩; have HG3 := kp hg3; have HS3 := kp hs3; have HW3 := kp hw3; clear hg3 hs3 hw3))
  have hg : w.heap.size ≤ g2 ∧ g2 < g ∧ 1 ≤ g := ⟨HG2.out, by have := HK2.out.lt; have := HG3.out; omega, by have := HG3.out; have := HW2.out.size; omega⟩
  obtain ⟨hg2, hg23, hg1⟩ := hg
  have HB3 : Kept (Below w.heap.size w w3) := kp <| HW2.out.trans (HW3.out.mono HW2.out.size)
  have HZ3 : Kept (Blk w3 g2 31 ((List.replicate 32 0).map byteV)) := kp <| HK2.out.below HW3.out HK2.out.lt
  clear HG2 HK2 HW2 HG3 HW3
  go_loopw [9] (fun v9 wr => ∃ k : Nat, k ≤ n ∧ v9 = .int .i64 k ∧ Holds wr g (joined (ps.take k)) ∧ Blk wr g2 31 ((List.replicate 32 0).map byteV) ∧ Below w.heap.size w wr) (fun v9 _ => n - (intOf v9).toNat)
  case atStart => exact ⟨0, by omega, rfl, HS3.out, HZ3.out, HB3.out⟩
  case round =>
    clear HS3 HZ3 HB3
    obtain ⟨k, hkn, rfl, hs, hz, hbl⟩ := hrel
    have HS := kp hs; have HZ := kp hz; have HBL := kp hbl
    have HKr : Kept (Row wordV wr 1 (some ⟨0, 0, none⟩) 64 H.K) := kp <| HK.out.below (hbl.mono (by omega))
    clear hs hz hbl
    by_cases hlt : k < n
    · obtain ⟨ad, p, rfl, hab, hp, hc0⟩ := HR.out.get hlt
      have hok := HOk.out p (List.mem_of_getElem? hp)
      have hc := (HBL.out.cell (p := ad.add k) (by rw [add_block]; omega)).trans hc0
      rw [partV_def] at hc
      have HOkp : Kept (p.Ok wr B) := kp <| hok.keep fun q hq => HBL.out.cell (by omega)
      have HJ : Kept (joined (ps.take (k + 1)) = joined (ps.take k) ++ p.bs) := kp <| by rw [List.take_add_one, hp]; exact joined_snoc _ _
      have HJ2 : Kept ((joined (ps.take k)).length + p.n ≤ 1000000000) := kp <| by
        have h1 := joined_take_le ps (k + 1)
        rw [HJ.out, List.length_append, HOkp.out.row.len] at h1
        have := HM.out; omega
      clear hok hc0 hp hab
      have hB2 := HBL.out.size
      go_wp2_with (go_at_call 32; go_must (refine (write_any g _ p.bs p.A p.n p.c B wr HS.out HOkp.out.row (by omega) HOkp.out.byte (by intro a h0 e e2; obtain ⟨a2, e3, hb2, _⟩ := HOkp.out.row.cells h0; rw [e] at e3; cases e3; omega) HKr.out hg1 HOkp.out.cap HJ2.out).mono ?_); rintro e w6 ⟨rfl, hs6, hg6⟩; have HS6 := kp hs6; have HG6 := kp hg6; clear hs6 hg6)
      go_roundw
      case rel => exact ⟨k + 1, by omega, by go_num, by rw [HJ.out]; exact HS6.out, HZ.out.grown HG6.out (by intro e; cases e; omega), HBL.out.grown HG6.out hB2 (by intro k e; cases e; omega)⟩
      case measure => simp [intOf]; omega
    · have hke : n ≤ k := by omega
      have HS2 : Kept (Holds wr g (joined ps)) := kp <| by have h := HS.out; rw [List.take_of_length_le (by rw [HR.out.len]; exact hke)] at h; exact h
      clear hlt hkn
      go_wp2_with (first
        | (go_at_call 33; go_must (refine (sum_any g (joined ps) wr HS2.out HKr.out hg1 HM.out dig HDig.out).mono ?_); rintro e w7 ⟨rfl, hw7⟩; have HW7 := kp hw7; clear hw7)
        | ((with_reducible refine wpList_store_blk rfl 31 (.tmp 2) (.tmp 18) rfl g2 (dig.map byteV) rfl rfl 31 _ (HZ.out.below HW7.out HZ.out.lt) (size32.trans (by rw [List.length_map, ← HDig.out, digest_len])) (by rw [List.length_map, List.length_map, ← HDig.out, digest_len, List.length_replicate]) (ones _ one_byteV _) ?_); intro w9 hk9 hw9 hz9; have HK9 := kp hk9; have HW9 := kp hw9; clear hk9 hw9 hz9))
      refine bodyPost_ret (results_blk (P := Tryd.prog) (fn := Tryd.f17) rfl _ _ g2 31 (dig.map byteV) (.array 32 5) rfl HK9.out Tryd.underlying31 rfl (size32.trans (by rw [List.length_map, ← HDig.out, digest_len]))) rfl ⟨rfl, ?_⟩
      have h7 : Below w.heap.size w w7 := HBL.out.trans (HW7.out.mono HBL.out.size)
      exact h7.grown HW9.out h7.size (by intro k e; cases e; omega)
end Go.Proofs.YtdnhfpphjpnklaaDoor
