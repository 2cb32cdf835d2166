/- ShaP3, ShaP4, in one text. -/
import Derived.Test.YtdnhfpphjpnklaaDoorShaP2
import Derived.Test.YtdnhfpphjpnklaaDoorPk19
import Derived.Test.YtdnhfpphjpnklaaDoorPk13
import Derived.Test.YtdnhfpphjpnklaaDoorPk3
/- What the program does with a whole block, walked. -/
namespace Go.Proofs.YtdnhfpphjpnklaaDoor
open Go.RowKit

/-- The cells of a digest on its way. -/
def stC (ws blk : List Nat) (cnt : Nat) : List Value := ws.map wordV ++ (blk.map byteV ++ [.int .u64 (cnt : Int)])
theorem stC_words (ws blk : List Nat) (cnt : Nat) (hw : ws.length = 8) : ((stC ws blk cnt).drop 0).take 8 = ws.map wordV := by
  simp [stC, hw]
theorem stC_blk (ws blk : List Nat) (cnt : Nat) (hw : ws.length = 8) (hb : blk.length = 64) : ((stC ws blk cnt).drop 8).take 64 = blk.map byteV := by
  simp [stC, hw, hb]
theorem stC_word (ws blk : List Nat) (cnt i x : Nat) (hx : ws[i]? = some x) : (stC ws blk cnt)[i]? = some (.int .u32 (x : Int)) := by
  have hi : i < (ws.map wordV).length := by rw [List.length_map]; exact (List.getElem?_eq_some_iff.1 hx).1
  unfold stC
  rw [List.getElem?_append_left hi, List.getElem?_map, hx]; rfl
theorem stC_set (ws blk : List Nat) (cnt i x : Nat) (hi : i < ws.length) : (stC ws blk cnt).set i (.int .u32 (x : Int)) = stC (ws.set i x) blk cnt := by
  unfold stC
  rw [List.set_append_left _ _ (by simpa using hi), List.map_set]; rfl
theorem stC_cnt (ws blk : List Nat) (cnt : Nat) (hw : ws.length = 8) (hb : blk.length = 64) : (stC ws blk cnt)[72]? = some (.int .u64 (cnt : Int)) := by
  unfold stC
  rw [List.getElem?_append_right (by simp [hw]), List.getElem?_append_right (by simp [hw, hb])]
  simp [hw, hb]
theorem stC_len (ws blk : List Nat) (cnt : Nat) (hw : ws.length = 8) (hb : blk.length = 64) : (stC ws blk cnt).length = 73 := by simp [stC, hw, hb]

/-- The sums, as far as they were made. -/
def sumW (l xs : List Nat) (i : Nat) : List Nat := (List.range 8).map fun j => if j < i then (l.getD j 0 + xs.getD j 0) % 4294967296 else l.getD j 0
theorem sumW_len (l xs : List Nat) (i : Nat) : (sumW l xs i).length = 8 := by simp [sumW]
theorem sumW_zero (l xs : List Nat) (hl : l.length = 8) : sumW l xs 0 = l := by
  apply List.ext_getElem
  · simp [sumW, hl]
  · intro k h1 h2
    simp only [sumW, List.getElem_map, List.getElem_range]
    rw [if_neg (by omega), List.getD_eq_getElem?_getD, List.getElem?_eq_getElem h2]; rfl
theorem sumW_cur (l xs : List Nat) (i x : Nat) (hi : i < 8) (hx : l[i]? = some x) : (sumW l xs i)[i]? = some x := by
  simp only [sumW, List.getElem?_map, List.getElem?_range hi, Option.map_some]
  rw [if_neg (by omega), List.getD_eq_getElem?_getD, hx]; rfl
theorem sumW_step (l xs : List Nat) (i x y : Nat) (hx : l[i]? = some x) (hy : xs[i]? = some y) : (sumW l xs i).set i ((x + y) % 4294967296) = sumW l xs (i + 1) := by
  apply List.ext_getElem
  · simp [sumW]
  · intro k h1 h2
    rw [List.getElem_set]
    by_cases hk : i = k
    · subst hk
      rw [if_pos rfl]
      simp only [sumW, List.getElem_map, List.getElem_range]
      rw [if_pos (by omega), List.getD_eq_getElem?_getD, List.getD_eq_getElem?_getD, hx, hy]; rfl
    · rw [if_neg hk]
      simp only [sumW, List.getElem_map, List.getElem_range]
      by_cases h : k < i
      · rw [if_pos h, if_pos (by omega)]
      · rw [if_neg h, if_neg (by omega)]
/-- The eight words of a state. -/
def stL (s : H.St) : List Nat := [s.a, s.b, s.c, s.d, s.e, s.f, s.g, s.h]
theorem sumW_eight (l : List Nat) (s : H.St) : sumW l (stL s) 8 = [(l.getD 0 0 + s.a) % 4294967296, (l.getD 1 0 + s.b) % 4294967296, (l.getD 2 0 + s.c) % 4294967296, (l.getD 3 0 + s.d) % 4294967296, (l.getD 4 0 + s.e) % 4294967296, (l.getD 5 0 + s.f) % 4294967296, (l.getD 6 0 + s.g) % 4294967296, (l.getD 7 0 + s.h) % 4294967296] := rfl
theorem sumW_block (l blk : List Nat) (s : H.St) (hs : s = H.rnds (H.sched 48 (H.words blk 16)) 64 (H.stOf l)) : sumW l (stL s) 8 = H.block l blk := by
  rw [sumW_eight, hs]
  simp only [H.block]

theorem right_q (x n : Nat) (hx : x < 4294967296) (hn : n = 2 ∨ n = 6 ∨ n = 7 ∨ n = 11 ∨ n = 13 ∨ n = 17 ∨ n = 18 ∨ n = 19 ∨ n = 22 ∨ n = 25) (w : World) :
    Calls Tryd.prog 46 #[.int .u32 (x : Int), .int .i64 (n : Int)] w fun e w' => e = .returned (.int .u32 (H.rot x n : Int)) ∧ ∃ k, w' = w.drewN k :=
  (right_any x n hx hn w).mono fun _ _ ⟨he, hw⟩ => ⟨he, 0, hw.symm⟩

theorem size8w : (Tryd.prog.info? 86).map (·.size) = some 8 := by kernel_rfl
theorem zero8w : (Tryd.prog.info? 86).map (·.zero) = some (some (.agg ((List.replicate 8 0).map wordV).toArray)) := by kernel_rfl
theorem size64b : (Tryd.prog.info? 87).map (·.size) = some 64 := by kernel_rfl

set_option maxRecDepth 1000000 in
set_option maxHeartbeats 4000000 in
theorem take_any (g : Nat) (l blk : List Nat) (cnt : Nat) (hl : l.length = 8) (hl32 : ∀ x ∈ l, x < 4294967296) (hb : blk.length = 64) (hb8 : ∀ x ∈ blk, x < 256) (w : World)
    (hs : Blk w g 90 (stC l blk cnt)) (hk : Row wordV w 1 (some ⟨0, 0, none⟩) 64 H.K) (hg : 1 ≤ g) (nl : List Nat) (hnl : H.block l blk = nl) :
    Calls Tryd.prog 39 #[.pointer (some ⟨g, 0, none⟩)] w fun e w' => e = .returned (.tuple #[]) ∧ Blk w' g 90 (stC nl blk cnt) ∧ w.grownBy w' (some g) := by
  have HL := kp hl; have HL32 := kp hl32; have HBl := kp hb; have HB8 := kp hb8; have HS := kp hs; have HK := kp hk; have HNL := kp hnl
  clear hl hl32 hb hb8 hs hk hnl
  have hgw := HS.out.lt
  go_enter Tryd.func39, Tryd.ntmps39
  go_wp2_with (first
    | ((with_reducible refine wpList_load_mid rfl 87 (.tmp 19) rfl g 8 rfl (blk.map byteV) (.array 64 5) (by rw [← stC_blk l blk cnt HL.out HBl.out]; exact HS.out.range 8 64) Tryd.underlying87 rfl (size64b.trans (by rw [List.length_map, HBl.out])) ?_))
    | (go_at_call 45; go_must (refine (spread_any blk HBl.out HB8.out _).mono ?_); rintro e w1 ⟨rfl, hw1⟩; have HW1 := kp hw1; clear hw1)
    | ((with_reducible refine wpList_alloc_zero rfl 97 rfl _ zero64w ?_); intro g2 w2 hg2 hk2 hw2; have HG2 := kp hg2; have HK2 := kp hk2; have HW2 := kp hw2; clear hg2 hk2 hw2)
    | ((with_reducible refine wpList_store_blk rfl 97 (.tmp 2) (.tmp 21) rfl g2 _ rfl rfl 97 _ HK2.out (size64w.trans (by rw [List.length_map, H.sched_len, H.words_len])) (by simp [H.sched_len, H.words_len]) (ones _ one_wordV _) ?_); intro w3 hk3 hw3 hz3; have HK3 := kp hk3; have HW3 := kp hw3; clear hk3 hw3 hz3
       have HS3 : Kept (Blk w3 g 90 (stC l blk cnt)) := kp <| ((HS.out.below HW1.out hgw).below HW2.out (Nat.lt_of_lt_of_le hgw HW1.out.size)).grown HW3.out (by intro e; cases e; have := HG2.out; have := HW1.out.size; omega))
    | ((with_reducible refine wpList_load_mid rfl 86 (.tmp 24) rfl g 0 rfl (l.map wordV) (.array 8 66) (by rw [← stC_words l blk cnt HL.out]; exact HS3.out.range 0 8) Tryd.underlying86 rfl (size8w.trans (by rw [List.length_map, HL.out])) ?_))
    | ((with_reducible refine wpList_alloc_zero rfl 86 rfl _ zero8w ?_); intro g4 w4 hg4 hk4 hw4; have HG4 := kp hg4; have HK4 := kp hk4; have HW4 := kp hw4; clear hg4 hk4 hw4)
    | ((with_reducible refine wpList_store_blk rfl 86 (.tmp 3) (.tmp 25) rfl g4 _ rfl rfl 86 _ HK4.out (size8w.trans (by rw [List.length_map, HL.out])) (by simp [HL.out]) (ones _ one_wordV _) ?_); intro w5 hk5 hw5 hz5; have HK5 := kp hk5; have HW5 := kp hw5; clear hk5 hw5 hz5))
  have hgs : g < g2 ∧ g2 < g4 ∧ 1 ≤ g2 ∧ g2 < w5.heap.size := ⟨by have := HG2.out; have := HW1.out.size; omega, by have := HK3.out.lt; have := HG4.out; omega, by have := HG2.out; have := HW1.out.size; omega, by have := HK3.out.lt; have := HW4.out.size; have := HW5.out.size; omega⟩
  obtain ⟨hg2, hg4, h12, h25⟩ := hgs
  have HS5 : Kept (Blk w5 g 90 (stC l blk cnt)) := kp <| (HS3.out.below HW4.out HS3.out.lt).grown HW5.out (by intro e; cases e; omega)
  have HW25 : Kept (Blk w5 g2 97 ((H.sched 48 (H.words blk 16)).map wordV)) := kp <| (HK3.out.below HW4.out HK3.out.lt).grown HW5.out (by intro e; cases e; omega)
  have HGr : Kept (w.grownBy w5 (some g)) := kp <| by
    have h1 : Below w.heap.size w w4 := (((HW1.out.trans (HW2.out.mono HW1.out.size)).grown HW3.out (Nat.le_trans HW1.out.size HW2.out.size) (by intro k e; cases e; exact Nat.le_trans HW1.out.size HG2.out))).trans (HW4.out.mono (Nat.le_trans (Nat.le_trans HW1.out.size HW2.out.size) HW3.out.size))
    exact grown_of_below (h1.grown HW5.out h1.size (by intro k e; cases e; have := HW1.out.size; have := HG2.out; omega)) _
  clear HW1 HG2 HK2 HW2 HK3 HW3 HS3 HG4 HK4 HW4 HW5
  have hkr := (HK.out.grown HGr.out (by omega) (by intro a _ e e2; cases e; simp at e2; omega))
  have HK5r := kp hkr; clear hkr
  obtain ⟨x0, h0⟩ : ∃ x, l[0]? = some x := ⟨_, List.getElem?_eq_getElem (by rw [HL.out]; omega)⟩
  obtain ⟨x1, h1⟩ : ∃ x, l[1]? = some x := ⟨_, List.getElem?_eq_getElem (by rw [HL.out]; omega)⟩
  obtain ⟨x2, h2⟩ : ∃ x, l[2]? = some x := ⟨_, List.getElem?_eq_getElem (by rw [HL.out]; omega)⟩
  obtain ⟨x3, h3⟩ : ∃ x, l[3]? = some x := ⟨_, List.getElem?_eq_getElem (by rw [HL.out]; omega)⟩
  obtain ⟨x4, h4⟩ : ∃ x, l[4]? = some x := ⟨_, List.getElem?_eq_getElem (by rw [HL.out]; omega)⟩
  obtain ⟨x5, h5⟩ : ∃ x, l[5]? = some x := ⟨_, List.getElem?_eq_getElem (by rw [HL.out]; omega)⟩
  obtain ⟨x6, h6⟩ : ∃ x, l[6]? = some x := ⟨_, List.getElem?_eq_getElem (by rw [HL.out]; omega)⟩
  obtain ⟨x7, h7⟩ : ∃ x, l[7]? = some x := ⟨_, List.getElem?_eq_getElem (by rw [HL.out]; omega)⟩
  have HST : Kept (H.stOf l = ⟨x0, x1, x2, x3, x4, x5, x6, x7⟩) := kp <| by simp only [H.stOf, List.getD_eq_getElem?_getD, h0, h1, h2, h3, h4, h5, h6, h7, Option.getD_some]
  have HSM : Kept ((⟨x0, x1, x2, x3, x4, x5, x6, x7⟩ : H.St).Small) := kp <| by rw [← HST.out]; exact H.st_small l HL32.out
  have hc0 : w5.cell? ⟨g4, 0, none⟩ = some (.int .u32 (x0 : Int)) := (HK5.out.cell 0).trans (map_at h0)
  have hc1 : w5.cell? ⟨g4, 1, none⟩ = some (.int .u32 (x1 : Int)) := (HK5.out.cell 1).trans (map_at h1)
  have hc2 : w5.cell? ⟨g4, 2, none⟩ = some (.int .u32 (x2 : Int)) := (HK5.out.cell 2).trans (map_at h2)
  have hc3 : w5.cell? ⟨g4, 3, none⟩ = some (.int .u32 (x3 : Int)) := (HK5.out.cell 3).trans (map_at h3)
  have hc4 : w5.cell? ⟨g4, 4, none⟩ = some (.int .u32 (x4 : Int)) := (HK5.out.cell 4).trans (map_at h4)
  have hc5 : w5.cell? ⟨g4, 5, none⟩ = some (.int .u32 (x5 : Int)) := (HK5.out.cell 5).trans (map_at h5)
  have hc6 : w5.cell? ⟨g4, 6, none⟩ = some (.int .u32 (x6 : Int)) := (HK5.out.cell 6).trans (map_at h6)
  have hc7 : w5.cell? ⟨g4, 7, none⟩ = some (.int .u32 (x7 : Int)) := (HK5.out.cell 7).trans (map_at h7)
  clear h0 h1 h2 h3 h4 h5 h6 h7
  go_simp
  go_quiet (fail)
  clear hc0 hc1 hc2 hc3 hc4 hc5 hc6 hc7
  generalize hs0 : (⟨x0, x1, x2, x3, x4, x5, x6, x7⟩ : H.St) = s0 at HST HSM
  have HS0 := kp hs0; clear hs0
  have HWS5 : Kept (∀ x ∈ H.sched 48 (H.words blk 16), x < 4294967296) := kp <| H.sched_lt _ (H.words_lt blk 16) 48
  have HWL5 : Kept ((H.sched 48 (H.words blk 16)).length = 64) := kp <| by rw [H.sched_len, H.words_len]
  generalize hws : H.sched 48 (H.words blk 16) = ws at HWS5 HWL5 HW25 ⊢
  have HWS := kp hws; clear hws
  go_wp2
  go_loopw [4, 5, 6, 7, 8, 9, 10, 11, 42] (fun u4 u5 u6 u7 u8 u9 u10 u11 u42 wr => ∃ (i : Nat) (n : Nat) (t : H.St), i ≤ 64 ∧ u42 = .int .i64 i ∧ wr = w5.drewN n ∧ t = H.rnds ws i s0 ∧ u4 = .int .u32 (t.a : Int) ∧ u5 = .int .u32 (t.b : Int) ∧ u6 = .int .u32 (t.c : Int) ∧ u7 = .int .u32 (t.d : Int) ∧ u8 = .int .u32 (t.e : Int) ∧ u9 = .int .u32 (t.f : Int) ∧ u10 = .int .u32 (t.g : Int) ∧ u11 = .int .u32 (t.h : Int)) (fun _ _ _ _ _ _ _ _ u42 _ => 64 - (intOf u42).toNat)
  case atStart => exact ⟨0, _, s0, by omega, rfl, rfl, rfl, by rw [← HS0.out], by rw [← HS0.out], by rw [← HS0.out], by rw [← HS0.out], by rw [← HS0.out], by rw [← HS0.out], by rw [← HS0.out], by rw [← HS0.out]⟩
  case round =>
    obtain ⟨i, n, t, hi, rfl, hwr, ht, rfl, rfl, rfl, rfl, rfl, rfl, rfl, rfl⟩ := hrel
    have HT := kp ht; clear ht
    by_cases hlt : i < 64
    · obtain ⟨_, k, e1, _, hk1, hck⟩ := HK5r.out.get (k := i) hlt
      cases e1
      obtain ⟨x, hx1⟩ : ∃ x, ws[i]? = some x := ⟨_, List.getElem?_eq_getElem (by rw [HWL5.out]; omega)⟩
      have hcx : w5.cell? ⟨g2, i, none⟩ = some (.int .u32 (x : Int)) := (HW25.out.cell i).trans (map_at hx1)
      have hsm : t.Small := by rw [HT.out]; exact H.rnds_small ws s0 HSM.out i
      have HNx : Kept (H.rnds ws (i + 1) s0 = H.rnd t k x) := kp <| by
        rw [HT.out, H.rnds, List.getD_eq_getElem?_getD, List.getD_eq_getElem?_getD, hk1, hx1]; rfl
      have hk32 : k < 4294967296 := H.K_lt k (List.mem_of_getElem? hk1)
      have hx32 : x < 4294967296 := HWS5.out x (List.mem_of_getElem? hx1)
      have hadd : (⟨0, 0, none⟩ : Addr).add i = ⟨0, i, none⟩ := by unfold Addr.add; split <;> simp_all
      rw [hadd] at hck
      have hck2 : wr.cell? ⟨0, i, none⟩ = some (.int .u32 (k : Int)) := by rw [hwr]; exact hck
      have hcx2 : wr.cell? ⟨g2, i, none⟩ = some (.int .u32 (x : Int)) := by rw [hwr]; exact hcx
      have HWR := kp hwr
      clear hwr hck hcx hadd
      clear hk1 hx1 HT
      obtain ⟨a, b, c, d, e, f, gg, h⟩ := t
      obtain ⟨ha, hb, hc, hd, he, hf, hgg, hh⟩ := hsm
      simp only at ha hb hc hd he hf hgg hh
      go_wp2
      go_quiet ((first | (go_at_call_of 46 (Value.int IntKind.i64 6); exact Calls.quiet_of (right_q e 6 he (by omega) _)) | (go_at_call_of 46 (Value.int IntKind.i64 11); exact Calls.quiet_of (right_q e 11 he (by omega) _)) | (go_at_call_of 46 (Value.int IntKind.i64 25); exact Calls.quiet_of (right_q e 25 he (by omega) _))))
      clear hck2 hcx2
      go_wp2_with (first | (go_at_call_of 46 (Value.int IntKind.i64 2); go_must (refine (right_any a 2 ha (by omega) _).mono ?_); rintro e' w' ⟨rfl, rfl⟩) | (go_at_call_of 46 (Value.int IntKind.i64 13); go_must (refine (right_any a 13 ha (by omega) _).mono ?_); rintro e' w' ⟨rfl, rfl⟩) | (go_at_call_of 46 (Value.int IntKind.i64 22); go_must (refine (right_any a 22 ha (by omega) _).mono ?_); rintro e' w' ⟨rfl, rfl⟩))
      go_round
      case rel =>
        refine ⟨i + 1, _, H.rnd ⟨a, b, c, d, e, f, gg, h⟩ k x, by omega, by go_num, by rw [HWR.out, World.drewN_drewN], HNx.out.symm, ?_, rfl, rfl, rfl, ?_, rfl, rfl, rfl⟩
        · rw [H.big1_bits e he, H.ch_bits e f gg he hf hgg, H.big0_bits a ha, H.maj_bits a b c ha hb hc]
          rfl
        · rw [H.big1_bits e he, H.ch_bits e f gg he hf hgg]
          rfl
      case measure => simp [intOf]; omega
    · have HWR := kp hwr
      clear hwr
      have hi64 : 64 ≤ i := by omega
      have HT2 : Kept (t = H.rnds ws 64 s0) := kp <| by rw [HT.out, show i = 64 by omega]
      clear HT hlt hi
      go_wp2
      rw [show (#[Value.int .u32 (t.a : Int), .int .u32 (t.b : Int), .int .u32 (t.c : Int), .int .u32 (t.d : Int), .int .u32 (t.e : Int), .int .u32 (t.f : Int), .int .u32 (t.g : Int), .int .u32 (t.h : Int)] : Array Value) = ((stL t).map wordV).toArray from rfl]
      have HXL : Kept ((stL t).length = 8) := kp rfl
      have HSB : Kept (sumW l (stL t) 8 = nl) := kp <| by rw [← HNL.out]; exact sumW_block l blk t (by rw [HT2.out, HST.out, HWS.out])
      generalize stL t = xs at HXL HSB ⊢
      have HS6 : Kept (Blk wr g 90 (stC (sumW l xs 0) blk cnt)) := kp <| by rw [HWR.out, sumW_zero l xs HL.out]; exact HS5.out.drewN _
      have HG6 : Kept (w.grownBy wr (some g)) := kp <| by rw [HWR.out]; exact grown_drews HGr.out _
      clear HWR HT2 HST HWS HS5 HGr HSM HS0 HWS5 HWL5 HW25 HK5r HK5
      go_loopw [114] (fun u114 wq => ∃ i : Nat, i ≤ 8 ∧ u114 = .int .i64 i ∧ Blk wq g 90 (stC (sumW l xs i) blk cnt) ∧ w.grownBy wq (some g)) (fun u114 _ => 8 - (intOf u114).toNat)
      case atStart => exact ⟨0, by omega, rfl, HS6.out, HG6.out⟩
      case round =>
        clear HS6 HG6
        obtain ⟨i, hi, rfl, hbk, hgr⟩ := hrel
        have HBk := kp hbk; have HGr := kp hgr
        clear hbk hgr
        by_cases hlt : i < 8
        · obtain ⟨x, hx⟩ : ∃ x, l[i]? = some x := ⟨_, List.getElem?_eq_getElem (by rw [HL.out]; exact hlt)⟩
          obtain ⟨y, hy⟩ : ∃ y, xs[i]? = some y := ⟨_, List.getElem?_eq_getElem (by rw [HXL.out]; exact hlt)⟩
          have HY := kp hy
          have HSt := kp (sumW_step l xs i x y hx hy)
          have HCU : Kept ((stC (sumW l xs i) blk cnt)[i]? = some (.int .u32 (x : Int))) := kp <| stC_word _ _ _ i x (sumW_cur l xs i x hlt hx)
          clear hx hy
          go_wp2_with ((with_reducible refine wpList_index_agg rfl 86 (.tmp 113) (.tmp 114) rfl 8 66 Tryd.underlying86 _ Tryd.underlying66 rfl size1w (xs.map wordV) rfl i rfl hlt _ (map_at HY.out) ?_))
          go_simp
          rw [wordV_def]
          apply region_tail 11 (.is _ :: .is _ :: .is _ :: .is _ :: .is _ :: .is _ :: .is _ :: .is _ :: .is _ :: .is _ :: .is _ :: [])
            [[], [], [(0, 118)], [(2, 120)], [(3, 121), (1, 119)], [(4, 122)], [], [(5, 123), (6, 124)], [(0, 118)], [(8, 126)], [(9, 127), (1, 119)], [(10, 128), (7, 125)]]
            [(0, 118), (1, 119), (2, 120), (3, 121), (4, 122), (5, 123), (6, 124), (7, 125), (8, 126), (9, 127), (10, 128)] (by kernel_rfl) (by kernel_rfl) (by kernel_rfl) (by kernel_rfl) (by kernel_rfl)
          case hob =>
            refine ⟨?o0, ?o1, ?o2, ?o3, ?o4, ?o5, ?o6, ?o7, ?o8, ?o9, ?o10, trivial⟩
            case o0 => intro W hW; change wpList _ _ _ _ _ _; go_wp2; exact pure_post rfl rfl rfl
            case o1 => intro W hW; change wpList _ _ _ _ _ _; go_wp2; exact pure_post rfl rfl rfl
            case o2 => intro W hW; rintro _ rfl; change wpList _ _ _ _ _ _; go_wp2; exact pure_post rfl rfl rfl
            case o3 => intro W hW; rintro _ rfl; change wpList _ _ _ _ _ _; go_wp2; exact pure_post rfl rfl rfl
            case o4 => intro W hW; rintro _ rfl; rintro _ rfl; change wpList _ _ _ _ _ _; go_wp2; exact pure_post rfl rfl rfl
            case o5 =>
              intro W hW; rintro _ rfl; change wpList _ _ _ _ _ _
              have hc := ((HBk.out.below hW HBk.out.lt).cell i).trans HCU.out
              go_wp2; exact pure_post rfl rfl rfl
            case o6 => intro W hW; change wpList _ _ _ _ _ _; go_wp2; exact pure_post rfl rfl rfl
            case o7 => intro W hW; rintro _ rfl; rintro _ rfl; change wpList _ _ _ _ _ _; go_wp2; exact pure_post rfl rfl rfl
            case o8 => intro W hW; rintro _ rfl; change wpList _ _ _ _ _ _; go_wp2; exact pure_post rfl rfl rfl
            case o9 => intro W hW; rintro _ rfl; change wpList _ _ _ _ _ _; go_wp2; exact pure_post rfl rfl rfl
            case o10 => intro W hW; rintro _ rfl; rintro _ rfl; change wpList _ _ _ _ _ _; go_wp2; exact pure_post rfl rfl rfl
          case hend =>
            intro W hW; rintro _ rfl; rintro _ rfl; rintro _ rfl; rintro _ rfl; rintro _ rfl; rintro _ rfl; rintro _ rfl; rintro _ rfl; rintro _ rfl; rintro _ rfl; rintro _ rfl
            simp only [given, put_lit, List.set, List.drop]
            have hc := ((HBk.out.below hW HBk.out.lt).cell i).trans HCU.out
            have hf := (HBk.out.below hW HBk.out.lt).frozen i
            go_wp2
            go_roundw
            case rel =>
              refine ⟨i + 1, by omega, by go_num, ?_, ?_⟩
              · have h := (HBk.out.below hW HBk.out.lt).set i (.int .u32 (((x + y) % 4294967296 : Nat) : Int))
                rw [stC_set _ _ _ _ _ (by rw [sumW_len]; exact hlt), HSt.out] at h
                exact h
              · exact grown_set (grown_below HGr.out hW)
            case measure => simp [intOf]; omega
        · have hi8 : 8 ≤ i := by omega
          have HI : Kept (sumW l xs i = nl) := kp <| by rw [show i = 8 by omega]; exact HSB.out
          clear hlt hi
          go_wp2
          go_end0
          exact ⟨rfl, by rw [← HI.out]; exact HBk.out, HGr.out⟩
end Go.Proofs.YtdnhfpphjpnklaaDoor

/- What the program does with more bytes, walked. -/
namespace Go.Proofs.YtdnhfpphjpnklaaDoor
open Go.RowKit

/-- Block g is a digest on its way, to which bs came. -/
def Holds (w : World) (g : Nat) (bs : List Nat) : Prop := ∃ ws blk, H.HoldM bs ws blk ∧ Blk w g 90 (stC ws blk bs.length)

theorem build_words : ∀ w, (Instr.build 86 #[(0, .int .u32 1779033703), (1, .int .u32 3144134277), (2, .int .u32 1013904242), (3, .int .u32 2773480762), (4, .int .u32 1359893119), (5, .int .u32 2600822924), (6, .int .u32 528734635), (7, .int .u32 1541459225)]).run Tryd.prog w = .ok (.agg #[.int .u32 1779033703, .int .u32 3144134277, .int .u32 1013904242, .int .u32 2773480762, .int .u32 1359893119, .int .u32 2600822924, .int .u32 528734635, .int .u32 1541459225]) w := by
  intro w; kernel_rfl
theorem build_state : ∀ w, (Instr.build 90 #[(0, .agg #[.int .u32 1779033703, .int .u32 3144134277, .int .u32 1013904242, .int .u32 2773480762, .int .u32 1359893119, .int .u32 2600822924, .int .u32 528734635, .int .u32 1541459225])]).run Tryd.prog w = .ok (.agg (stC H.L0 (List.replicate 64 0) 0).toArray) w := by
  intro w; kernel_rfl

set_option maxRecDepth 100000 in
theorem new_any (w : World) : Calls Tryd.prog 31 #[] w fun e w' => ∃ g, e = .returned (.pointer (some ⟨g, 0, none⟩)) ∧ w.heap.size ≤ g ∧ Holds w' g [] ∧ Below w.heap.size w w' := by
  go_enter Tryd.func31, Tryd.ntmps31
  go_wp2_with (first
    | ((with_reducible refine wpList_build_run (o := ⟨some 1, _, _, _, _, _⟩) rfl _ _ rfl _ ?_ _ build_words ?_); · rfl)
    | ((with_reducible show wpList _ _ _ (⟨some 2, _, _, _, _, _⟩ :: _) _ _); go_must (refine wpList_build_run rfl _ _ rfl _ (by simp [Act.eval]) _ build_state ?_))
    | ((with_reducible refine wpList_box_agg rfl 90 (.tmp 2) rfl (stC H.L0 (List.replicate 64 0) 0) rfl ?_); intro g1 w1 hg1 hk1 hw1; have HG1 := kp hg1; have HK1 := kp hk1; have HW1 := kp hw1; clear hg1 hk1 hw1))
  go_wp2
  go_ret
  exact ⟨g1, rfl, HG1.out, ⟨_, _, H.hold_nil, HK1.out⟩, HW1.out⟩
end Go.Proofs.YtdnhfpphjpnklaaDoor
