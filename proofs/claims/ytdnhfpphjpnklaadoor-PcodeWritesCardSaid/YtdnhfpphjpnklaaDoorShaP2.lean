/- What the program's spreading of a block makes, walked. -/
import Derived.Test.YtdnhfpphjpnklaaDoorPk14
import Derived.Test.YtdnhfpphjpnklaaDoorPk1
import Derived.Test.YtdnhfpphjpnklaaDoorPk5
import Derived.Deep.QuietTactic
import Derived.BigQuiet
import Derived.Test.YtdnhfpphjpnklaaDoorPk3
import Derived.Deep.RegionWith
import Derived.Test.YtdnhfpphjpnklaaDoorShaRef5
namespace Go.Proofs.YtdnhfpphjpnklaaDoor
open Go.RowKit

/-- The words, as far as i bytes make them. -/
def fillW (blk : List Nat) (i : Nat) : List Nat := (List.range 64).map fun k => H.word ((blk.drop (4 * k)).take (min 4 (i - 4 * k)))
theorem fillW_len (blk : List Nat) (i : Nat) : (fillW blk i).length = 64 := by simp [fillW]
theorem fillW_zero (blk : List Nat) : fillW blk 0 = List.replicate 64 0 := by
  apply List.ext_getElem
  · simp [fillW]
  · intro k h1 h2
    rw [List.getElem_replicate]
    simp [fillW, H.word]
theorem fillW_at (blk : List Nat) (i k : Nat) (hk : k < 64) : (fillW blk i)[k]? = some (H.word ((blk.drop (4 * k)).take (min 4 (i - 4 * k)))) := by
  simp [fillW, hk]
theorem fillW_cur (blk : List Nat) (i : Nat) (hi : i < 64) : (fillW blk i)[i / 4]? = some (H.word ((blk.drop (4 * (i / 4))).take (i % 4))) := by
  rw [fillW_at blk i _ (by omega), show min 4 (i - 4 * (i / 4)) = i % 4 by omega]
theorem fillW_step (blk : List Nat) (i b : Nat) (hb : blk[i]? = some b) :
    fillW blk (i + 1) = (fillW blk i).set (i / 4) ((H.word ((blk.drop (4 * (i / 4))).take (i % 4)) * 256 + b) % 4294967296) := by
  apply List.ext_getElem
  · simp [fillW]
  · intro k h1 h2
    have hk : k < 64 := by simpa [fillW] using h1
    rw [List.getElem_set]
    by_cases hki : i / 4 = k
    · rw [if_pos hki]
      subst hki
      have := H.word_step blk (i / 4) (i % 4) b (by rw [show 4 * (i / 4) + i % 4 = i by omega]; exact hb)
      rw [← this]
      simp only [fillW, List.getElem_map, List.getElem_range]
      rw [show min 4 (i + 1 - 4 * (i / 4)) = i % 4 + 1 by omega]
    · rw [if_neg hki]
      simp only [fillW, List.getElem_map, List.getElem_range]
      rw [show min 4 (i + 1 - 4 * k) = min 4 (i - 4 * k) by omega]
theorem fillW_end (blk : List Nat) (hl : blk.length = 64) : fillW blk 64 = H.words blk 16 ++ List.replicate 48 0 := by
  apply List.ext_getElem
  · simp [fillW, H.words]
  · intro k h1 h2
    have hk : k < 64 := by simpa [fillW] using h1
    by_cases h16 : k < 16
    · rw [List.getElem_append_left (by simpa [H.words] using h16)]
      simp only [fillW, H.words, List.getElem_map, List.getElem_range]
      rw [show min 4 (64 - 4 * k) = 4 by omega]
    · rw [List.getElem_append_right (by simp [H.words]; omega)]
      simp only [fillW, List.getElem_map, List.getElem_range, List.getElem_replicate]
      rw [List.drop_of_length_le (by omega)]
      simp [H.word]

theorem zero64w : (Tryd.prog.info? 97).map (·.zero) = some (some (.agg ((List.replicate 64 0).map wordV).toArray)) := by kernel_rfl
theorem size64w : (Tryd.prog.info? 97).map (·.size) = some 64 := by kernel_rfl
theorem size4 : ((Tryd.prog.info? 66).map (·.size)).isSome = true := by kernel_rfl
/-- The words, as far as they went on, zeros behind. -/
def schedP (ws : List Nat) (m : Nat) : List Nat := H.sched (m - 16) ws ++ List.replicate (64 - m) 0
theorem schedP_at (ws : List Nat) (m j : Nat) (hl : ws.length = 16) (hm : 16 ≤ m) (hj : j < m) : ∃ x, (H.sched (m - 16) ws)[j]? = some x ∧ (schedP ws m)[j]? = some x := by
  have h : j < (H.sched (m - 16) ws).length := by rw [H.sched_len, hl]; omega
  exact ⟨_, List.getElem?_eq_getElem h, by unfold schedP; rw [List.getElem?_append_left h]; exact List.getElem?_eq_getElem h⟩
theorem schedP_set (ws : List Nat) (m a b c d : Nat) (hl : ws.length = 16) (hm : 16 ≤ m) (hk : m < 64) (h16 : (H.sched (m - 16) ws)[m - 16]? = some a) (h15 : (H.sched (m - 16) ws)[m - 15]? = some b) (h7 : (H.sched (m - 16) ws)[m - 7]? = some c) (h2 : (H.sched (m - 16) ws)[m - 2]? = some d) :
    (schedP ws m).set m ((((a + H.s0 b) % 4294967296 + c) % 4294967296 + H.s1 d) % 4294967296) = schedP ws (m + 1) := by
  have hlen : (H.sched (m - 16) ws).length = m := by rw [H.sched_len, hl]; omega
  unfold schedP
  rw [show m + 1 - 16 = m - 16 + 1 by omega, H.sched_succ, H.more_at (H.sched (m - 16) ws) m a b c d hlen h16 h15 h7 h2]
  rw [List.set_append_right _ _ (by omega), hlen, Nat.sub_self, show 64 - m = (64 - (m + 1)) + 1 by omega, List.replicate_succ, List.set_cons_zero, List.append_assoc]
  rfl
theorem schedP_next (ws : List Nat) (m : Nat) (hl : ws.length = 16) (hm : 16 ≤ m) (hk : m < 64) : (schedP ws m)[m]? = some 0 := by
  have hlen : (H.sched (m - 16) ws).length = m := by rw [H.sched_len, hl]; omega
  unfold schedP
  rw [List.getElem?_append_right (by omega), hlen, Nat.sub_self, List.getElem?_replicate, if_pos (by omega)]
theorem map_at {α β : Type} {f : α → β} {l : List α} {k : Nat} {x : α} (h : l[k]? = some x) : (l.map f)[k]? = some (f x) := by rw [List.getElem?_map, h]; rfl

set_option maxRecDepth 100000 in
set_option maxHeartbeats 1600000 in
theorem spread_any (blk : List Nat) (hl : blk.length = 64) (hb : ∀ x ∈ blk, x < 256) (w : World) :
    Calls Tryd.prog 45 #[.agg (blk.map byteV).toArray] w fun e w' => e = .returned (.agg ((H.sched 48 (H.words blk 16)).map wordV).toArray) ∧ Below w.heap.size w w' := by
  have HLn := Lib.hid hl; have HBy := Lib.hid hb; clear hl hb
  go_enter Tryd.func45, Tryd.ntmps45
  go_wp2_with (first
    | ((with_reducible refine wpList_box_agg rfl 87 (.tmp 0) rfl (blk.map byteV) rfl ?_); intro g1 w1 hg1 hk1 hw1; have HG1 := Lib.hid hg1; have HK1 := Lib.hid hk1; have HW1 := Lib.hid hw1; clear hg1 hk1 hw1)
    | ((with_reducible refine wpList_alloc_zero (o := ⟨some 2, _, _, _, _, _⟩) rfl 97 rfl _ zero64w ?_); intro g2 w2 hg2 hk2 hw2; have HG2 := Lib.hid hg2; have HK2 := Lib.hid hk2; have HW2 := Lib.hid hw2; clear hg2 hk2 hw2)
    | ((with_reducible refine wpList_build_zero rfl 97 rfl _ 64 66 Tryd.underlying97 size4 zero64w ?_))
    | ((with_reducible refine wpList_alloc_zero (o := ⟨some 3, _, _, _, _, _⟩) rfl 97 rfl _ zero64w ?_); intro g3 w3 hg3 hk3 hw3; have HG3 := Lib.hid hg3; have HK3 := Lib.hid hk3; have HW3 := Lib.hid hw3; clear hg3 hk3 hw3)
    | ((with_reducible refine wpList_store_blk rfl 97 (.tmp 3) (.tmp 10) rfl g3 _ rfl rfl 97 _ HK3.out (size64w.trans (by simp)) (by simp) (ones _ one_wordV _) ?_); intro w4 hk4 hw4 hz4; have HK4 := Lib.hid hk4; have HW4 := Lib.hid hw4; have HZ4 := Lib.hid hz4; clear hk4 hw4 hz4))
  have hd : g1 < g2 ∧ g2 < g3 ∧ w.heap.size ≤ g1 := ⟨by have := HK1.out.lt; have := HG2.out; omega, by have := HK2.out.lt; have := HG3.out; omega, HG1.out⟩
  obtain ⟨h12, h23, h01⟩ := hd
  have HB1 : Hid (Blk w4 g1 87 (blk.map byteV)) := ((HK1.out.below HW2.out HK1.out.lt).below HW3.out (by have := HK2.out.lt; omega)).grown HW4.out (by intro e; cases e; omega)
  have HB2 : Hid (Blk w4 g2 97 ((List.replicate 64 0).map wordV)) := (HK2.out.below HW3.out HK2.out.lt).grown HW4.out (by intro e; cases e; omega)
  have HBL : Hid (Below w.heap.size w w4) := ((HW1.out.trans (HW2.out.mono HW1.out.size)).trans (HW3.out.mono (by have := HW1.out.size; have := HW2.out.size; omega))).grown HW4.out (by have := HW1.out.size; have := HW2.out.size; have := HW3.out.size; omega) (by intro k e; cases e; omega)
  clear HG1 HK1 HW1 HG2 HK2 HW2 HG3 HK3 HW3 HW4 HZ4
  go_loopw [11] (fun v11 wr => ∃ i : Nat, i ≤ 64 ∧ v11 = .int .i64 i ∧ Blk wr g3 97 ((fillW blk i).map wordV) ∧ Blk wr g1 87 (blk.map byteV) ∧ Blk wr g2 97 ((List.replicate 64 0).map wordV) ∧ Below w.heap.size w wr) (fun v11 _ => 64 - (intOf v11).toNat)
  case atStart => exact ⟨0, by omega, rfl, by rw [fillW_zero]; exact HK4.out, HB1.out, HB2.out, HBL.out⟩
  case round =>
    clear HK4 HB1 HB2 HBL
    obtain ⟨i, hi, rfl, hb3, hb1, hb2, hbl⟩ := hrel
    by_cases hlt : i < 64
    · have hx := List.getElem?_eq_getElem (l := blk) (i := i) (by rw [HLn.out]; exact hlt)
      have hx8 : blk[i]'(by rw [HLn.out]; exact hlt) < 256 := HBy.out _ (List.getElem_mem _)
      generalize blk[i]'(by rw [HLn.out]; exact hlt) = b at hx hx8
      have hy := fillW_cur blk i hlt
      have hy32 := H.word_lt ((blk.drop (4 * (i / 4))).take (i % 4))
      have HS := Lib.hid (fillW_step blk i b hx)
      generalize H.word ((blk.drop (4 * (i / 4))).take (i % 4)) = y at hy hy32 HS
      have HCB : Hid ((blk.map byteV)[i]? = some (.int .u8 (b : Int))) := map_at hx
      have HCW : Hid (((fillW blk i).map wordV)[i / 4]? = some (.int .u32 (y : Int))) := map_at hy
      have HB1 := Lib.hid hb1; have HB2 := Lib.hid hb2; have HB3 := Lib.hid hb3; have HBL := Lib.hid hbl
      clear hb1 hb2 hb3 hbl hx hy
      go_wp2
      apply region_tail 13 (.is _ :: .is _ :: .is _ :: .is _ :: .is _ :: .is _ :: .is _ :: .is _ :: .is _ :: .is _ :: .is _ :: .is _ :: .is _ :: [])
        [[], [(0, 14)], [], [(2, 16)], [(3, 17)], [(4, 18)], [(5, 19)], [], [(7, 21)], [(8, 22)], [(9, 23)], [(6, 20), (10, 24)], [(1, 15)], [(12, 26), (11, 25)]]
        [(0, 14), (1, 15), (2, 16), (3, 17), (4, 18), (5, 19), (6, 20), (7, 21), (8, 22), (9, 23), (10, 24), (11, 25), (12, 26)] (by kernel_rfl) (by kernel_rfl) (by kernel_rfl) (by kernel_rfl) (by kernel_rfl)
      case hob =>
        refine ⟨?o0, ?o1, ?o2, ?o3, ?o4, ?o5, ?o6, ?o7, ?o8, ?o9, ?o10, ?o11, ?o12, trivial⟩
        case o0 => intro W hW; change wpList _ _ _ _ _ _; go_wp2; exact pure_post rfl rfl rfl
        case o1 => intro W hW; rintro _ rfl; change wpList _ _ _ _ _ _; go_wp2; exact pure_post rfl rfl rfl
        case o2 => intro W hW; change wpList _ _ _ _ _ _; go_wp2; exact pure_post rfl rfl rfl
        case o3 => intro W hW; rintro _ rfl; change wpList _ _ _ _ _ _; go_wp2; exact pure_post rfl rfl rfl
        case o4 => intro W hW; rintro _ rfl; change wpList _ _ _ _ _ _; go_wp2; exact pure_post rfl rfl rfl
        case o5 =>
          intro W hW; rintro _ rfl; change wpList _ _ _ _ _ _
          have hc := ((HB3.out.below hW HB3.out.lt).cell (i / 4)).trans HCW.out
          go_wp2; exact pure_post rfl rfl rfl
        case o6 => intro W hW; rintro _ rfl; change wpList _ _ _ _ _ _; go_wp2; exact pure_post rfl rfl rfl
        case o7 => intro W hW; change wpList _ _ _ _ _ _; go_wp2; exact pure_post rfl rfl rfl
        case o8 => intro W hW; rintro _ rfl; change wpList _ _ _ _ _ _; go_wp2; exact pure_post rfl rfl rfl
        case o9 =>
          intro W hW; rintro _ rfl; change wpList _ _ _ _ _ _
          have hc := ((HB1.out.below hW HB1.out.lt).cell i).trans HCB.out
          go_wp2; exact pure_post rfl rfl rfl
        case o10 => intro W hW; rintro _ rfl; change wpList _ _ _ _ _ _; go_wp2; exact pure_post rfl rfl rfl
        case o11 => intro W hW; rintro _ rfl; rintro _ rfl; change wpList _ _ _ _ _ _; go_wp2; exact pure_post rfl rfl rfl
        case o12 => intro W hW; rintro _ rfl; change wpList _ _ _ _ _ _; go_wp2; exact pure_post rfl rfl rfl
      case hend =>
        intro W hW; rintro _ rfl; rintro _ rfl; rintro _ rfl; rintro _ rfl; rintro _ rfl; rintro _ rfl; rintro _ rfl; rintro _ rfl; rintro _ rfl; rintro _ rfl; rintro _ rfl; rintro _ rfl; rintro _ rfl
        simp only [given, put_lit, List.set, List.drop]
        have hc := ((HB3.out.below hW HB3.out.lt).cell (i / 4)).trans HCW.out
        have hf := (HB3.out.below hW HB3.out.lt).frozen (i / 4)
        go_wp2
        go_roundw
        case rel =>
          refine ⟨i + 1, by omega, by go_num, ?_, ?_, ?_, ?_⟩
          · have h := (HB3.out.below hW HB3.out.lt).set (i / 4) (wordV ((y * 256 + b) % 4294967296))
            rw [← List.map_set, ← HS.out, wordV_def] at h
            rw [show ((((y * 256 + b) % 4294967296 : Nat)) : Int) = (y : Int) * 256 % 4294967296 + (b : Int) by omega] at h
            exact h
          · exact (HB1.out.below hW HB1.out.lt).other _ _ (by simp; omega)
          · exact (HB2.out.below hW HB2.out.lt).other _ _ (by simp; omega)
          · exact (HBL.out.trans (hW.mono HBL.out.size)).setCell (by simp; omega) _
        case measure => simp [intOf]; omega
    · have hi64 : 64 ≤ i := by omega
      have HI : Hid (i = 64) := by show _ = _; omega
      have HB2 := Lib.hid hb2; have HBL := Lib.hid hbl
      have HB3 : Hid (Blk wr g3 97 ((H.sched 0 (H.words blk 16) ++ List.replicate (48 - 0) 0).map wordV)) := by
        have h := hb3
        rw [HI.out, fillW_end blk HLn.out] at h
        exact h
      clear hb1 hb2 hb3 hbl HI hlt hi
      have HWL := Lib.hid (H.words_len blk 16)
      have HWT := Lib.hid (H.words_lt blk 16)
      generalize hws : H.words blk 16 = ws at HB3 HWL HWT
      have HWS := Lib.hid hws; clear hws
      go_wp2
      go_loopw [5] (fun v5 wq => ∃ m : Nat, 16 ≤ m ∧ m ≤ 64 ∧ v5 = .int .i64 (m : Int) ∧ Blk wq g3 97 ((schedP ws m).map wordV) ∧ Blk wq g2 97 ((List.replicate 64 0).map wordV) ∧ Below w.heap.size w wq) (fun v5 _ => 64 - (intOf v5).toNat)
      case atStart => exact ⟨16, by omega, by omega, rfl, HB3.out, HB2.out, HBL.out⟩
      case round =>
        clear HB3 HB2 HBL
        obtain ⟨m, hm, hk, rfl, hb3, hb2, hbl⟩ := hrel
        have HB2 := Lib.hid hb2; have HB3 := Lib.hid hb3; have HBL := Lib.hid hbl
        clear hb2 hb3 hbl
        by_cases hlt : m < 64
        · obtain ⟨p, hp, hp2⟩ := schedP_at ws m (m - 16) HWL.out hm (by omega)
          obtain ⟨x, hx, hx2⟩ := schedP_at ws m (m - 15) HWL.out hm (by omega)
          obtain ⟨q, hq, hq2⟩ := schedP_at ws m (m - 7) HWL.out hm (by omega)
          obtain ⟨y, hy, hy2⟩ := schedP_at ws m (m - 2) HWL.out hm (by omega)
          have hx32 : x < 4294967296 := H.sched_lt _ HWT.out _ _ (List.mem_of_getElem? hx)
          have hy32 : y < 4294967296 := H.sched_lt _ HWT.out _ _ (List.mem_of_getElem? hy)
          have hp32 : p < 4294967296 := H.sched_lt _ HWT.out _ _ (List.mem_of_getElem? hp)
          have hq32 : q < 4294967296 := H.sched_lt _ HWT.out _ _ (List.mem_of_getElem? hq)
          have HS := Lib.hid (schedP_set ws m p x q y HWL.out hm hlt hp hx hq hy)
          have HCP : Hid (((schedP ws m).map wordV)[m - 16]? = some (.int .u32 (p : Int))) := map_at hp2
          have HCQ : Hid (((schedP ws m).map wordV)[m - 7]? = some (.int .u32 (q : Int))) := map_at hq2
          have hcx : wr.cell? ⟨g3, m - 15, none⟩ = some (.int .u32 (x : Int)) := (HB3.out.cell (m - 15)).trans (map_at hx2)
          have hcy : wr.cell? ⟨g3, m - 2, none⟩ = some (.int .u32 (y : Int)) := (HB3.out.cell (m - 2)).trans (map_at hy2)
          clear hp hp2 hx hx2 hq hq2 hy hy2
          go_wp2
          go_quiet (fail)
          clear hcx hcy
          go_wp2_with (first | (go_at_call_of 46 (Value.int IntKind.i64 7); go_must (refine (right_any x 7 hx32 (by omega) _).mono ?_); rintro e w' ⟨rfl, rfl⟩) | (go_at_call_of 46 (Value.int IntKind.i64 18); go_must (refine (right_any x 18 hx32 (by omega) _).mono ?_); rintro e w' ⟨rfl, rfl⟩) | (go_at_call_of 46 (Value.int IntKind.i64 17); go_must (refine (right_any y 17 hy32 (by omega) _).mono ?_); rintro e w' ⟨rfl, rfl⟩) | (go_at_call_of 46 (Value.int IntKind.i64 19); go_must (refine (right_any y 19 hy32 (by omega) _).mono ?_); rintro e w' ⟨rfl, rfl⟩))
          rw [H.s0_bits x hx32, H.s1_bits y hy32]
          have hs0 := H.s0_lt x hx32
          have hs1 := H.s1_lt y hy32
          apply region_tail 15 (.is _ :: .is _ :: .is _ :: .is _ :: .is _ :: .is _ :: .is _ :: .is _ :: .is _ :: .is _ :: .is _ :: .is _ :: .is _ :: .is _ :: .is _ :: [])
            [[], [], [(1, 57)], [(2, 58)], [(3, 59)], [], [(4, 60), (5, 61)], [], [(7, 63)], [(8, 64)], [(9, 65)], [(6, 62), (10, 66)], [], [(11, 67), (12, 68)], [(0, 56)], [(14, 70), (13, 69)]]
            [(0, 56), (1, 57), (2, 58), (3, 59), (4, 60), (5, 61), (6, 62), (7, 63), (8, 64), (9, 65), (10, 66), (11, 67), (12, 68), (13, 69), (14, 70)] (by kernel_rfl) (by kernel_rfl) (by kernel_rfl) (by kernel_rfl) (by kernel_rfl)
          case hob =>
            refine ⟨?o0, ?o1, ?o2, ?o3, ?o4, ?o5, ?o6, ?o7, ?o8, ?o9, ?o10, ?o11, ?o12, ?o13, ?o14, trivial⟩
            case o0 => intro W hW; change wpList _ _ _ _ _ _; go_wp2; exact pure_post rfl rfl rfl
            case o1 => intro W hW; change wpList _ _ _ _ _ _; go_wp2; exact pure_post rfl rfl rfl
            case o2 => intro W hW; rintro _ rfl; change wpList _ _ _ _ _ _; go_wp2; exact pure_post rfl rfl rfl
            case o3 => intro W hW; rintro _ rfl; change wpList _ _ _ _ _ _; go_wp2; exact pure_post rfl rfl rfl
            case o4 =>
              intro W hW; rintro _ rfl; change wpList _ _ _ _ _ _
              have hc := (((HB3.out.drewN _).below hW HB3.out.lt).cell (m - 16)).trans HCP.out
              go_wp2; exact pure_post rfl rfl rfl
            case o5 => intro W hW; change wpList _ _ _ _ _ _; go_wp2; exact pure_post rfl rfl rfl
            case o6 => intro W hW; rintro _ rfl; rintro _ rfl; change wpList _ _ _ _ _ _; go_wp2; exact pure_post rfl rfl rfl
            case o7 => intro W hW; change wpList _ _ _ _ _ _; go_wp2; exact pure_post rfl rfl rfl
            case o8 => intro W hW; rintro _ rfl; change wpList _ _ _ _ _ _; go_wp2; exact pure_post rfl rfl rfl
            case o9 => intro W hW; rintro _ rfl; change wpList _ _ _ _ _ _; go_wp2; exact pure_post rfl rfl rfl
            case o10 =>
              intro W hW; rintro _ rfl; change wpList _ _ _ _ _ _
              have hc := (((HB3.out.drewN _).below hW HB3.out.lt).cell (m - 7)).trans HCQ.out
              go_wp2; exact pure_post rfl rfl rfl
            case o11 => intro W hW; rintro _ rfl; rintro _ rfl; change wpList _ _ _ _ _ _; go_wp2; exact pure_post rfl rfl rfl
            case o12 => intro W hW; change wpList _ _ _ _ _ _; go_wp2; exact pure_post rfl rfl rfl
            case o13 => intro W hW; rintro _ rfl; rintro _ rfl; change wpList _ _ _ _ _ _; go_wp2; exact pure_post rfl rfl rfl
            case o14 => intro W hW; rintro _ rfl; change wpList _ _ _ _ _ _; go_wp2; exact pure_post rfl rfl rfl
          case hend =>
            intro W hW; rintro _ rfl; rintro _ rfl; rintro _ rfl; rintro _ rfl; rintro _ rfl; rintro _ rfl; rintro _ rfl; rintro _ rfl; rintro _ rfl; rintro _ rfl; rintro _ rfl; rintro _ rfl; rintro _ rfl; rintro _ rfl; rintro _ rfl
            simp only [given, put_lit, List.set, List.drop]
            have hc := (((HB3.out.drewN _).below hW HB3.out.lt).cell m).trans (map_at (f := wordV) (schedP_next ws m HWL.out hm hlt))
            have hf := ((HB3.out.drewN _).below hW HB3.out.lt).frozen m
            go_wp2
            go_roundw
            case rel =>
              refine ⟨m + 1, by omega, by omega, by go_num, ?_, ?_, ?_⟩
              · have h := ((HB3.out.drewN _).below hW HB3.out.lt).set m (wordV ((((p + H.s0 x) % 4294967296 + q) % 4294967296 + H.s1 y) % 4294967296))
                rw [← List.map_set, HS.out] at h
                rw [show Value.int .u32 (((p : Int) + ((H.s0 x : Nat) : Int) + (q : Int) + ((H.s1 y : Nat) : Int)) % 4294967296) = wordV ((((p + H.s0 x) % 4294967296 + q) % 4294967296 + H.s1 y) % 4294967296) by unfold wordV; congr 1; omega]
                exact h
              · exact ((HB2.out.drewN _).below hW HB2.out.lt).other _ _ (by simp; omega)
              · exact ((below_draws HBL.out _).trans (hW.mono HBL.out.size)).setCell (by simp; omega) _
            case measure => simp [intOf]; omega
        · obtain rfl : m = 64 := by omega
          go_wp2_with (first
            | ((with_reducible refine wpList_load_blk rfl 97 (.tmp 3) rfl g3 rfl 97 _ (.array 64 66) HB3.out Tryd.underlying97 rfl (size64w.trans (by simp [schedP, H.sched_len, HWL.out])) ?_))
            | ((with_reducible refine wpList_store_blk rfl 97 (.tmp 2) (.tmp 71) rfl g2 _ rfl rfl 97 _ HB2.out (size64w.trans (by simp [schedP, H.sched_len, HWL.out])) (by simp [schedP, H.sched_len, HWL.out]) (ones _ one_wordV _) ?_); intro w5 hk5 hw5 hz5; have HK5 := Lib.hid hk5; have HW5 := Lib.hid hw5; clear hk5 hw5 hz5))
          have HE : Hid (schedP ws 64 = H.sched 48 ws) := by show _ = _; simp [schedP]
          have HLw : Hid (((schedP ws 64).map wordV).length = 64) := by show _ = _; simp [schedP, H.sched_len, HWL.out]
          refine bodyPost_ret (results_blk (P := Tryd.prog) (fn := Tryd.f45) rfl _ _ g2 97 ((schedP ws 64).map wordV) (.array 64 66) rfl HK5.out Tryd.underlying97 rfl (size64w.trans (by rw [HLw.out]))) rfl ⟨by rw [HE.out, HWS.out], ?_⟩
          exact HBL.out.grown HW5.out HBL.out.size (by intro k e; cases e; omega)
end Go.Proofs.YtdnhfpphjpnklaaDoor
