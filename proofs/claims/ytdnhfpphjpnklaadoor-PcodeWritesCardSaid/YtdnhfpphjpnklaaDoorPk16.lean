/- ShaP5, ShaP6, in one text. -/
import Derived.Test.YtdnhfpphjpnklaaDoorPk15
import Derived.Test.YtdnhfpphjpnklaaDoorPk3
/- What the program does with more bytes, walked. -/
namespace Go.Proofs.YtdnhfpphjpnklaaDoor
open Go.RowKit

theorem stC_splice (ws blk cs : List Nat) (cnt off : Nat) (hw : ws.length = 8) (hb : blk.length = 64) (h : off + cs.length ≤ 64) :
    splice (stC ws blk cnt) (8 + off) (cs.map byteV) = stC ws (splice blk off cs) cnt := by
  unfold splice stC
  have e1 : (ws.map wordV).length = 8 := by rw [List.length_map, hw]
  have e2 : (blk.map byteV).length = 64 := by rw [List.length_map, hb]
  have h1 : List.take (8 + off) (ws.map wordV ++ (blk.map byteV ++ [.int .u64 (cnt : Int)])) = ws.map wordV ++ (blk.take off).map byteV := by
    rw [List.take_append, e1, show 8 + off - 8 = off by omega, List.take_of_length_le (by omega), List.take_append_of_le_length (by omega), List.map_take]
  have h2 : List.drop (8 + off + (cs.map byteV).length) (ws.map wordV ++ (blk.map byteV ++ [.int .u64 (cnt : Int)])) = (blk.drop (off + cs.length)).map byteV ++ [.int .u64 (cnt : Int)] := by
    rw [List.drop_append, List.drop_of_length_le (by rw [e1]; omega), List.nil_append, e1, List.length_map, show 8 + off + cs.length - 8 = off + cs.length by omega, List.drop_append_of_le_length (by omega), List.map_drop]
  rw [h1, h2]
  simp
theorem stC_count (ws blk : List Nat) (cnt c2 : Nat) (hw : ws.length = 8) (hb : blk.length = 64) : (stC ws blk cnt).set 72 (.int .u64 (c2 : Int)) = stC ws blk c2 := by
  unfold stC
  rw [List.set_append_right _ _ (by simp [hw]), List.set_append_right _ _ (by simp [hw, hb])]
  simp [hw, hb]


/-- x[l:] as the walk spells it. -/
theorem Row.cutIf {α : Type} {f : α → Value} {w : World} {B n c l : Nat} {ad : Addr} {xs : List α} (h : Row f w B (some ad) n xs) (hl : l ≤ n) (hc : n ≤ c) : Row f w B (if c = l then some ad else some (ad.add l)) (n - l) (xs.drop l) := by
  split
  · exact Row.none_ (List.drop_of_length_le (by rw [h.len]; omega)) (by omega)
  · exact h.cutAt hl
theorem block_if {c l : Nat} {ad a3 : Addr} (h : (if c = l then some ad else some (ad.add l)) = some a3) : a3.block = ad.block := by
  split at h
  · cases h; rfl
  · cases h; exact add_block ad l

set_option maxRecDepth 1000000 in
set_option maxHeartbeats 4000000 in
theorem write_any (g : Nat) (bs new : List Nat) (A : Option Addr) (n c B : Nat) (w : World) (hs : Holds w g bs) (hr : Row byteV w B A n new) (hB : B ≤ w.heap.size) (hb : ∀ x ∈ new, x < 256) (hne : ∀ ad, 0 < n → A = some ad → ad.block ≠ g)
    (hk : Row wordV w 1 (some ⟨0, 0, none⟩) 64 H.K) (hg : 1 ≤ g) (hnc : n ≤ c) (hm : bs.length + n ≤ 1000000000) :
    Calls Tryd.prog 32 #[.pointer (some ⟨g, 0, none⟩), .slice A n c] w fun e w' => e = .returned (.tuple #[]) ∧ Holds w' g (bs ++ new) ∧ w.grownBy w' (some g) := by
  have HS := kp hs; have HR := kp hr; have HNew := kp hb; have HNe := kp hne; have HK := kp hk
  have HLn := kp hr.len
  clear hs hr hb hne hk
  go_enter Tryd.func32, Tryd.ntmps32
  go_wp2
  go_loopw [1] (fun v1 wr => ∃ (k : Nat) (A2 : Option Addr) (c2 : Nat), k ≤ n ∧ v1 = .slice A2 (n - k) c2 ∧ n - k ≤ c2 ∧ Holds wr g (bs ++ new.take k) ∧ Row byteV wr B A2 (n - k) (new.drop k) ∧ (∀ ad, 0 < n - k → A2 = some ad → ad.block ≠ g) ∧ w.grownBy wr (some g)) (fun v1 _ => match v1 with | .slice _ l _ => l | _ => 0)
  case atStart => exact ⟨0, A, c, by omega, rfl, by omega, by simpa using HS.out, by simpa using HR.out, by simpa using HNe.out, grown_refl _ _⟩
  case round =>
    obtain ⟨k, A2, c2, hkn, rfl, hnc2, hs, hr, hne, hgr⟩ := hrel
    have hrk := (HK.out.grown hgr (by have := HS.out; obtain ⟨_, _, _, hb⟩ := this; have := hb.lt; omega) (by intro a _ e e2; cases e; simp at e2; omega))
    have HSr := kp hs; have HRr := kp hr; have HNer := kp hne; have HGr := kp hgr; have HKr := kp hrk
    clear hs hr hne hgr hrk
    by_cases hlt : k < n
    · obtain ⟨ws, blk, hM, hBlk⟩ := HSr.out
      obtain ⟨ad, x0, rfl, hab, _, _⟩ := HRr.out.get (k := 0) (by omega)
      have hag := HNer.out ad (by omega) rfl
      have hlen : (bs ++ new.take k).length = bs.length + k := by rw [List.length_append, List.length_take, HLn.out]; omega
      have HM := kp hM
      have HBlk : Kept (Blk wr g 90 (stC ws blk (bs.length + k))) := kp <| by rw [← hlen]; exact hBlk
      have HLen := kp hlen
      have hcnt64 : bs.length + k ≤ 1000000000 := by omega
      generalize hcn : bs.length + k = cnt at HBlk HLen hcnt64
      have HCn := kp hcn; clear hcn
      have hat : cnt % 64 < 64 := Nat.mod_lt _ (by decide)
      have hcc := (HBlk.out.cell 72).trans (stC_cnt ws blk cnt hM.wlen hM.len)
      have hfr := HBlk.out.frozen 72
      -- so many are copied
      obtain ⟨m, hm⟩ : ∃ m, m = Nat.min (n - k) (64 - cnt % 64) := ⟨_, rfl⟩
      have hm1 : 0 < m ∧ m ≤ n - k ∧ cnt % 64 + m ≤ 64 := by rw [hm]; exact ⟨by simp [Nat.lt_min]; omega, Nat.min_le_left _ _, by have := Nat.min_le_right (n - k) (64 - cnt % 64); simp only [Nat.min_def] at *; omega⟩
      obtain ⟨hm0, hmn, hm64⟩ := hm1
      have HMin := kp hm
      generalize hcsd : (new.drop k).take m = cs at *
      have hcl : cs.length = m := by rw [← hcsd, List.length_take, List.length_drop, HLn.out]; omega
      have HCL := kp hcl
      have HCB : Kept (∀ x ∈ cs, x < 256) := kp <| by rw [← hcsd]; intro x hx; exact HNew.out x (List.mem_of_mem_drop (List.mem_of_mem_take hx))
      have HCT : Kept (new.take (k + m) = new.take k ++ cs) := kp <| by rw [← hcsd]; exact List.take_add ..
      have HCA : Kept (bs ++ new.take (k + m) = (bs ++ new.take k) ++ cs) := kp <| by rw [HCT.out, List.append_assoc]
      have HSrc : Kept (∀ j v, (cs.map byteV)[j]? = some v → wr.cell? (ad.add j) = some v) := kp <| by
        intro j v hv
        have hj : j < m := by have := (List.getElem?_eq_some_iff.1 hv).1; rw [List.length_map, hcl] at this; exact this
        obtain ⟨ad2, x, e, _, hx, hc⟩ := HRr.out.get (k := j) (by omega)
        cases e
        rw [hc, ← hv, List.getElem?_map, ← hcsd, List.getElem?_take, if_pos hj, hx]; rfl
      clear hM hBlk hlen hm hcsd hcl
      have HSL : Kept ((splice blk (cnt % 64) cs).length = 64) := kp <| by rw [H.splice_len _ _ _ (by rw [HM.out.len, HCL.out]; exact hm64), HM.out.len]
      have HSB : Kept (∀ x ∈ splice blk (cnt % 64) cs, x < 256) := kp <| H.splice_byte _ _ _ HM.out.byte HCB.out
      have HAft : ∀ W : World, Blk W g 90 (stC ws (splice blk (cnt % 64) cs) cnt) → Blk (W.setCell ⟨g, 72, none⟩ (.int .u64 ((cnt : Int) + (m : Int)))) g 90 (stC ws (splice blk (cnt % 64) cs) (cnt + m)) := by
        intro W h
        have h2 := h.set 72 (.int .u64 ((cnt + m : Nat) : Int))
        rw [stC_count _ _ _ _ HM.out.wlen HSL.out] at h2
        exact h2
      have HAft2 := kp HAft
      clear HAft
      have HEnd : Kept ((bs ++ new.take (k + m)).length = cnt + m) := kp <| by rw [HCA.out, List.length_append, HLen.out, HCL.out]
      by_cases hfull : cnt % 64 + m = 64
      · have htest : (((cnt : Int) + (m : Int)) % 64 == 0) = true := by simp; omega
        have HFull := kp hfull; clear hfull
        go_wp2_with (first
          | ((with_reducible show wpList _ _ _ (⟨some 18, _, _, _, _, _⟩ :: _) _ _); go_must (refine wpList_slice_arr rfl 87 (.tmp 16) (.tmp 17) rfl 64 5 Tryd.underlying87 size1b g 8 rfl .u64 (cnt % 64) rfl hat ?_))
          | ((with_reducible show wpList _ _ _ (⟨some 20, _, _, _, _, _⟩ :: _) _ _); go_must (refine wpList_copy_blk rfl (.tmp 18) (.tmp 19) 27 27 rfl 5 Tryd.underlying27 size1b g (8 + cnt % 64) (64 - cnt % 64) (64 - cnt % 64) ad (n - k) c2 rfl rfl 90 _ HBlk.out (cs.map byteV) m (by rw [List.length_map]; exact HCL.out) HMin.out HSrc.out (by rw [stC_len _ _ _ HM.out.wlen HM.out.len]; omega) (ones _ one_byteV _) ?_); intro w2 hk2 hg2; have HK2 := kp hk2; have HG2 := kp hg2; clear hk2 hg2
             have HK3 : Kept (Blk w2 g 90 (stC ws (splice blk (cnt % 64) cs) cnt)) := kp <| by have h := HK2.out; rw [stC_splice _ _ _ _ _ HM.out.wlen HM.out.len (by rw [HCL.out]; exact hm64)] at h; exact h
             clear hcc hfr
             have hcc := (HK3.out.cell 72).trans (stC_cnt ws _ cnt HM.out.wlen (by rw [H.splice_len _ _ _ (by rw [HM.out.len, HCL.out]; exact hm64), HM.out.len]))
             have hfr := HK3.out.frozen 72)
          | (go_at_call 39; go_must (refine (take_any g ws (splice blk (cnt % 64) cs) (cnt + m) HM.out.wlen HM.out.wlt HSL.out HSB.out _ (HAft2.out _ HK3.out) (HKr.out.grown (grown_set HG2.out) (by have := HBlk.out.lt; omega) (by intro a _ e e2; cases e; simp at e2; omega)) hg _ rfl).mono ?_); rintro e w5 ⟨rfl, hk5, hg5⟩; have HK5 := kp hk5; have HG5 := kp hg5; clear hk5 hg5))
        go_roundw
        case rel =>
          refine ⟨k + m, if c2 = m then some ad else some (ad.add m), c2 - m, by omega, by rw [show n - (k + m) = n - k - m by omega], by omega, ?_, ?_, ?_, ?_⟩
          · have h := HM.out.full cs (by rw [HLen.out, HCL.out]; exact HFull.out) HCB.out
            rw [HLen.out, ← HCA.out] at h
            exact ⟨_, _, h, by rw [HEnd.out]; exact HK5.out⟩
          · have h := HRr.out.cutIf (c := c2) hmn hnc2
            rw [List.drop_drop] at h
            rw [show n - (k + m) = n - k - m by omega]
            have hgr : wr.grownBy w5 (some g) := grown_trans (grown_set HG2.out) HG5.out
            exact h.grown hgr (Nat.le_trans hB HGr.out.size) (by
              intro a3 _ e e2
              rw [block_if e] at e2
              exact hag (by cases e2; rfl))
          · intro a3 _ e
            rw [block_if e]; exact hag
          · exact grown_trans HGr.out (grown_trans (grown_set HG2.out) HG5.out)
        case measure => simp only []; omega
      · have htest : (((cnt : Int) + (m : Int)) % 64 == 0) = false := by simp; omega
        have HPart := kp (show cnt % 64 + m < 64 by omega); clear hfull
        go_wp2_with (first
          | ((with_reducible show wpList _ _ _ (⟨some 18, _, _, _, _, _⟩ :: _) _ _); go_must (refine wpList_slice_arr rfl 87 (.tmp 16) (.tmp 17) rfl 64 5 Tryd.underlying87 size1b g 8 rfl .u64 (cnt % 64) rfl hat ?_))
          | ((with_reducible show wpList _ _ _ (⟨some 20, _, _, _, _, _⟩ :: _) _ _); go_must (refine wpList_copy_blk rfl (.tmp 18) (.tmp 19) 27 27 rfl 5 Tryd.underlying27 size1b g (8 + cnt % 64) (64 - cnt % 64) (64 - cnt % 64) ad (n - k) c2 rfl rfl 90 _ HBlk.out (cs.map byteV) m (by rw [List.length_map]; exact HCL.out) HMin.out HSrc.out (by rw [stC_len _ _ _ HM.out.wlen HM.out.len]; omega) (ones _ one_byteV _) ?_); intro w2 hk2 hg2; have HK2 := kp hk2; have HG2 := kp hg2; clear hk2 hg2
             have HK3 : Kept (Blk w2 g 90 (stC ws (splice blk (cnt % 64) cs) cnt)) := kp <| by have h := HK2.out; rw [stC_splice _ _ _ _ _ HM.out.wlen HM.out.len (by rw [HCL.out]; exact hm64)] at h; exact h
             clear hcc hfr
             have hcc := (HK3.out.cell 72).trans (stC_cnt ws _ cnt HM.out.wlen (by rw [H.splice_len _ _ _ (by rw [HM.out.len, HCL.out]; exact hm64), HM.out.len]))
             have hfr := HK3.out.frozen 72))
        go_roundw
        case rel =>
          refine ⟨k + m, if c2 = m then some ad else some (ad.add m), c2 - m, by omega, by rw [show n - (k + m) = n - k - m by omega], by omega, ?_, ?_, ?_, ?_⟩
          · have h := HM.out.part cs (by rw [HLen.out, HCL.out]; exact HPart.out) HCB.out
            rw [HLen.out, ← HCA.out] at h
            exact ⟨_, _, h, by rw [HEnd.out]; exact HAft2.out _ HK3.out⟩
          · have h := HRr.out.cutIf (c := c2) hmn hnc2
            rw [List.drop_drop] at h
            rw [show n - (k + m) = n - k - m by omega]
            have hgr : wr.grownBy (w2.setCell ⟨g, 72, none⟩ (.int .u64 ((cnt : Int) + (m : Int)))) (some g) := grown_set HG2.out
            exact h.grown hgr (Nat.le_trans hB HGr.out.size) (by
              intro a3 _ e e2
              rw [block_if e] at e2
              exact hag (by cases e2; rfl))
          · intro a3 _ e
            rw [block_if e]; exact hag
          · exact grown_trans HGr.out (grown_set HG2.out)
        case measure => simp only []; omega
    · have hkn2 : n ≤ k := by omega
      go_wp2
      go_end0
      refine ⟨rfl, ?_, HGr.out⟩
      have h := HSr.out
      rw [List.take_of_length_le (by rw [HLn.out]; exact hkn2)] at h
      exact h
end Go.Proofs.YtdnhfpphjpnklaaDoor

/- What the program digests behind all that came, walked. -/
namespace Go.Proofs.YtdnhfpphjpnklaaDoor
open Go.RowKit

/-- What is digested behind so many bytes. -/
def endL (cnt : Nat) : List Nat := 128 :: List.replicate (H.zeros cnt) 0 ++ H.be 8 (8 * cnt)
theorem pad_end (bs : List Nat) : H.pad bs = bs ++ endL bs.length := by simp [H.pad, endL]
theorem endL_len (cnt : Nat) : (endL cnt).length = 9 + H.zeros cnt := by simp [endL, H.be_len]; omega
theorem endL_byte (cnt : Nat) : ∀ x ∈ endL cnt, x < 256 := by
  intro x hx
  simp only [endL, List.cons_append, List.mem_cons, List.mem_append] at hx
  rcases hx with hx | hx | hx
  · omega
  · have := (List.mem_replicate.1 hx).2; omega
  · exact H.be_byte _ _ x hx
/-- The first i of a number's bytes. -/
theorem be_front (n : Nat) : ∀ (k i : Nat), i < k → (H.be k n).take (i + 1) = (H.be k n).take i ++ [n / 256 ^ (k - 1 - i) % 256]
  | 0, i, h => by omega
  | k + 1, 0, _ => by rw [H.be_cons]; simp
  | k + 1, i + 1, h => by
    rw [H.be_cons, List.take_succ_cons, List.take_succ_cons, be_front n k i (by omega), List.cons_append, show k + 1 - 1 - (i + 1) = k - 1 - i by omega]

theorem pow_shift (i : Nat) (hi : i < 8) : 2 ^ (56 - 8 * i) = 256 ^ (8 - 1 - i) := by
  rw [show 56 - 8 * i = 8 * (8 - 1 - i) by omega, Nat.pow_mul]

set_option maxRecDepth 1000000 in
set_option maxHeartbeats 1600000 in
theorem ending_any (cnt : Nat) (hc : cnt ≤ 2000000000) (w : World) :
    Calls Tryd.prog 40 #[.int .u64 (cnt : Int)] w fun e w' => ∃ v, e = .returned v ∧ Own w' w.heap.size 5 v ((endL cnt).map byteV) ∧ Below w.heap.size w w' := by
  obtain ⟨z, hz⟩ : ∃ z, z = H.zeros cnt := ⟨_, rfl⟩
  have HZ := kp hz
  have hz64 : z < 64 := by rw [hz]; exact Nat.mod_lt _ (by omega)
  have hzi : (64 - ((cnt : Int) + 1 + 8) % 64) % 64 = (z : Int) := by rw [hz]; unfold H.zeros; omega
  clear hz
  go_enter Tryd.func40, Tryd.ntmps40
  go_wp2_with (first
    | ((with_reducible show wpList _ _ _ (⟨some 19, _, _, _, _, _⟩ :: _) _ _); go_must (refine wpList_make_blk rfl 27 (.tmp 15) (.tmp 18) rfl 5 (.int .u8 0) 1 Tryd.underlying27 byte_info rfl .u64 .u64 (1 + z) (1 + z + 8) rfl rfl (by omega) (by omega) (by omega) ?_); intro g1 w1 hg1 hk1 hw1; have HG1 := kp hg1; have HK1 := kp hk1; have HW1 := kp hw1; clear hg1 hk1 hw1
       have hc0 : w1.cell? ⟨g1, 0, none⟩ = some (.int .u8 0) := (HK1.out.cell 0).trans (by rw [List.getElem?_replicate, if_pos (by omega)])
       have hf0 := HK1.out.frozen 0))
  clear hc0 hf0 hzi
  have HO1 : Kept (Own (w1.setCell ⟨g1, 0, none⟩ (.int .u8 128)) w.heap.size 5 (.slice (some ⟨g1, 0, none⟩) (1 + z) (1 + z + 8)) ((128 :: List.replicate z 0 ++ (H.be 8 (8 * cnt)).take 0).map byteV)) := kp <| by
    have h := (HK1.out.set 0 (.int .u8 128)).own (B := w.heap.size) (xs := (128 :: List.replicate z 0).map byteV) (cap := 1 + z + 8) HG1.out (by simp) (by simp; omega) (by unfold maxLen; omega) (by
      rw [show 1 + z + 8 = (z + 8) + 1 by omega, List.replicate_succ, List.set_cons_zero, List.map_cons, List.length_cons, List.take_succ_cons, List.length_map, List.length_replicate, List.take_replicate, show min z (z + 8) = z by omega, List.map_replicate]; rfl)
    rw [show ((128 :: List.replicate z 0).map byteV).length = 1 + z by simp; omega] at h
    rw [List.take_zero, List.append_nil]
    exact h
  have HB1 : Kept (Below w.heap.size w (w1.setCell ⟨g1, 0, none⟩ (.int .u8 128))) := kp <| HW1.out.setCell HG1.out _
  go_loopw [5, 22] (fun v5 v22 wr => ∃ i : Nat, i ≤ 8 ∧ v22 = .int .i64 i ∧ Own wr w.heap.size 5 v5 ((128 :: List.replicate z 0 ++ (H.be 8 (8 * cnt)).take i).map byteV) ∧ Below w.heap.size w wr) (fun _ v22 _ => 8 - (intOf v22).toNat)
  case atStart => exact ⟨0, by omega, rfl, HO1.out, HB1.out⟩
  case round =>
    clear HO1 HB1
    obtain ⟨i, hi, rfl, hown, hbl⟩ := hrel
    have hB := hbl.size
    have HOwn := kp hown; have HBL := kp hbl
    clear hown hbl
    by_cases hlt : i < 8
    · have HF := kp (be_front (8 * cnt) 8 i hlt)
      have HP := kp (pow_shift i hlt)
      have hl8 : (H.be 8 (8 * cnt)).length = 8 := H.be_len _ _
      have HL8 := kp hl8; clear hl8
      go_wp2_with (at_builtin; go_must (refine wpList_append_one rfl (.tmp 25) (.tmp 33) 27 rfl w.heap.size 5 _ _ Tryd.underlying27 byte_info rfl wr _ _ _ rfl HOwn.out _ 1 rfl rfl rfl (by simp [maxLen, HL8.out]; omega) (by simp [HL8.out]; omega) hB ?_); intro v2 w2 hown2 hg2; have HO2 := kp hown2; clear hown2; have HG2 := kp hg2; clear hg2)
      go_roundw
      case rel =>
        refine ⟨i + 1, by omega, by go_num, ?_, HG2.out.below HBL.out HOwn.out hB⟩
        have h := HO2.out
        rw [HF.out, ← HP.out, ← List.append_assoc, List.map_append (l₂ := [_])]
        exact h
      case measure => simp [intOf]; omega
    · have hi8 : 8 ≤ i := by omega
      have HI : Kept ((H.be 8 (8 * cnt)).take i = H.be 8 (8 * cnt)) := kp <| List.take_of_length_le (by rw [H.be_len]; exact hi8)
      clear hlt hi
      go_wp2
      go_ret
      refine ⟨_, rfl, ?_, HBL.out⟩
      have h := HOwn.out
      rw [HI.out, HZ.out] at h
      exact h
end Go.Proofs.YtdnhfpphjpnklaaDoor
