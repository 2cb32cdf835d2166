/- ShaApart, walked. -/
import Derived.Test.YtoagmmelklkoaaaDoorShaLaw2
import Derived.Test.YtoagmmelklkoaaaDoorOwn
import Derived.Test.YtoagmmelklkoaaaDoorOpen
namespace Go.Proofs.YtoagmmelklkoaaaDoor
open Go.RowKit

theorem row_part {w : World} {B : Nat} {A a0 : Option Addr} {n c : Nat} {bs : List Nat} (h : Row (fun u => u) w B A 1 [.slice a0 n c]) : Row partV w B A 1 [⟨a0, n, c, bs⟩] :=
  ⟨rfl, fun h0 => by
    obtain ⟨ad, e, hb, hc⟩ := h.cells h0
    refine ⟨ad, e, hb, fun k hk => ?_⟩
    obtain rfl : k = 0 := by omega
    rw [hc 0 hk]; rfl⟩
theorem take_next (bs : List Nat) (i : Nat) : bs.take i ++ (bs.take (i + 1)).drop i = bs.take (i + 1) := by
  have h := List.take_append_drop i (bs.take (i + 1))
  rw [List.take_take, Nat.min_eq_left (by omega)] at h
  exact h
theorem Holds.grown {w w' : World} {g g' : Nat} {bs : List Nat} (h : Holds w g bs) (hg : w.grownBy w' (some g')) (hne : g ≠ g') : Holds w' g bs := by
  obtain ⟨ws, blk, h1, h2⟩ := h
  exact ⟨ws, blk, h1, h2.grown hg (by intro e; cases e; exact hne rfl)⟩
theorem Holds.below {w w' : World} {g : Nat} {bs : List Nat} (h : Holds w g bs) (hb : Below w.heap.size w w') : Holds w' g bs := by
  obtain ⟨ws, blk, h1, h2⟩ := h
  exact ⟨ws, blk, h1, h2.below hb h2.lt⟩
theorem Holds.lt {w : World} {g : Nat} {bs : List Nat} (h : Holds w g bs) : g < w.heap.size := by
  obtain ⟨ws, blk, h1, h2⟩ := h
  exact h2.lt

set_option maxRecDepth 1000000 in
set_option maxHeartbeats 1000000 in
theorem walkShaApart (a0 : Option Addr) (len0 cap0 : Nat) (z0 : List Int) (a1 : Option Addr) (len1 cap1 : Nat) (z1 : List Int) (a2 : Option Addr) (len2 cap2 : Nat) (z2 : List Bool) (w : World) (w0 : IsRow .u8 w a0 len0 cap0 z0) (w1 : IsRow .u8 w a1 len1 cap1 z1) (w2 : Row boolV w w.heap.size a2 len2 z2) (c2 : len2 ≤ cap2 ∧ cap2 ≤ maxLen) (hL : Row wordV w 1 (some ⟨0, 0, none⟩) 64 H.K) :
    Calls Tryd.prog 6 #[.slice a0 len0 cap0, .slice a1 len1 cap1, .slice a2 len2 cap2] w fun e w' => e = .returned (.bool true) ∧ Below w.heap.size w w' := by
  obtain ⟨bs, hr, hb, hm, hlc, hcm⟩ := w0.bytes
  obtain ⟨cs, hr1, hb1, hm1, hlc1, hcm1⟩ := w1.bytes
  have HR0 := kp hr; have HN0 := kp hb; have HR1 := kp hr1; have HN1 := kp hb1; have HK := kp hL; have HR2 := kp w2
  have hk1 := keys_size hL
  have hlen0 := hr.len; have hlen1 := hr1.len
  have HL0 := kp hlen0; have HL1 := kp hlen1
  obtain ⟨hlc2, hcm2⟩ := c2
  unfold maxLen at hm hcm hm1 hcm1 hcm2
  clear w0 hr hb w1 hr1 hb1 hL hlen0 hlen1 w2
  by_cases h : 3000 < len0 ∨ 3000 < len1 ∨ 3000 < len2
  · have hor : ∀ (P : Prop), (3000 < len0 → P) → (¬ 3000 < len0 → 3000 < len1 → P) → (¬ 3000 < len0 → ¬ 3000 < len1 → 3000 < len2 → P) → P := fun P f g k => by
      by_cases h0 : 3000 < len0
      · exact f h0
      · by_cases h1 : 3000 < len1
        · exact g h0 h1
        · exact k h0 h1 ((h.resolve_left h0).resolve_left h1)
    clear h
    refine hor _ ?_ ?_ ?_
    all_goals
      clear hor
      intros
      go_enter Tryd.func6, Tryd.ntmps6
      go_wp2_with fail
      refine (awake_any _ HK.out).mono ?_
      rintro e w1 ⟨rfl, hb1⟩
      have HB1 := kp hb1; clear hb1
      go_wp2_with fail
      refine (awake_any _ (HK.out.below (HB1.out.mono hk1))).mono ?_
      rintro e w2 ⟨rfl, hb2⟩
      have HB2 := kp hb2; clear hb2
      go_wp2
      go_ret
      exact ⟨rfl, HB1.out.trans (HB2.out.mono HB1.out.size)⟩
  · have h0 : len0 ≤ 3000 := by omega
    have h1 : len1 ≤ 3000 := by omega
    have h2 : len2 ≤ 3000 := by omega
    clear h
    go_enter Tryd.func6, Tryd.ntmps6
    go_wp2_with (go_at_call 7; go_must (refine (awake_any _ HK.out).mono ?_); rintro e w1 ⟨rfl, hb1⟩; have HB1 := kp hb1; clear hb1)
    refine (new_any _).mono ?_
    rintro e w3 ⟨g1, rfl, hg3, hs3, hw3⟩
    have hwg1 : w.heap.size ≤ g1 := Nat.le_trans HB1.out.size hg3
    have HS3 := kp hs3; have HB3 := kp (HB1.out.trans (hw3.mono HB1.out.size))
    clear hg3 hs3 hw3
    go_wp2_with (first
      | (go_at_call 10; go_must (refine (new_any _).mono ?_); rintro e w4 ⟨g2, rfl, hg4, hs4, hw4⟩
         have hg12 : g1 < g2 := Nat.lt_of_lt_of_le HS3.out.lt hg4
         have HT4 := kp hs4; have HS4 := kp (HS3.out.below hw4); have HB4 := kp (HB3.out.trans (hw4.mono HB3.out.size))
         clear hg4 hs4 hw4))
    go_loopw [9, 10, 11] (fun v9 v10 v11 wr => ∃ i k n : Nat, i ≤ len0 ∧ k ≤ len1 ∧ n ≤ len2 ∧ v9 = .int .i64 i ∧ v10 = .int .i64 k ∧ v11 = .int .i64 n ∧ Holds wr g1 (bs.take i) ∧ Holds wr g2 (cs.take k) ∧ Below w.heap.size w wr) (fun _ _ v11 _ => len2 - (intOf v11).toNat)
    case atStart => exact ⟨0, 0, 0, by omega, by omega, by omega, rfl, rfl, rfl, HS4.out, HT4.out, HB4.out⟩
    case round =>
      obtain ⟨i, k, n, hi, hk, hn, rfl, rfl, rfl, hs, ht, hbl⟩ := hrel
      have HS := kp hs; have HT := kp ht; have HBL := kp hbl
      have hszr := hbl.size
      have HKr := kp (HK.out.below (hbl.mono hk1))
      clear hs ht hbl
      by_cases hlt : n < len2
      · obtain ⟨ad, b, rfl, hab, hp, hc0⟩ := HR2.out.get hlt
        rw [boolV_def] at hc0
        have HC0 := kp hc0
        have hc := (HBL.out.cell (p := ad.add n) (by rw [add_block]; omega)).trans hc0
        clear hp hc0
        cases b
        · by_cases hkl : k < len1
          · go_wp2_with (first
              | ((with_reducible show wpList _ _ _ (⟨some 73, _, _, _, _, _⟩ :: _) _ _); go_must (refine wpList_slice_one rfl 22 (.tmp 69) (.tmp 70) (.tmp 72) rfl 5 Tryd.underlying22 size1b a1 len1 cap1 rfl .i64 .i64 k rfl rfl hkl hlc1 ?_); intro A5 hin5 hrow5; have HIn5 := kp hin5; have HRow5 := kp (hrow5 byteV wr w.heap.size cs (HR1.out.below HBL.out)); clear hin5 hrow5)
              | (go_at_call 11; go_must (refine (write_any g2 (cs.take k) ((cs.take (k + 1)).drop k) A5 1 (cap1 - k) w.heap.size wr HT.out HRow5.out hszr (fun x hx => HN1.out x (List.mem_of_mem_take (List.mem_of_mem_drop hx))) (by intro a hz e e2; obtain ⟨a2, e3, hb2, _⟩ := HRow5.out.cells hz; rw [e] at e3; cases e3; omega) HKr.out (by omega) (by omega) (by rw [List.length_take, HL1.out]; omega)).mono ?_); rintro e w5 ⟨rfl, hs5, hg5⟩; have HT5 := kp hs5; have HG5 := kp hg5; clear hs5 hg5))
            go_roundw
            case rel => exact ⟨i, k + 1, n + 1, hi, by omega, by omega, rfl, by go_num, by go_num, HS.out.grown HG5.out (by omega), by rw [← take_next]; exact HT5.out, HBL.out.grown HG5.out hszr (by intro k e; cases e; omega)⟩
            case measure => simp [intOf]; omega
          · go_wp2
            go_roundw
            case rel => exact ⟨i, k, n + 1, hi, hk, by omega, rfl, rfl, by go_num, HS.out, HT.out, HBL.out⟩
            case measure => simp [intOf]; omega
        · by_cases hil : i < len0
          · go_wp2_with (first
              | ((with_reducible show wpList _ _ _ (⟨some 53, _, _, _, _, _⟩ :: _) _ _); go_must (refine wpList_slice_one rfl 22 (.tmp 49) (.tmp 50) (.tmp 52) rfl 5 Tryd.underlying22 size1b a0 len0 cap0 rfl .i64 .i64 i rfl rfl hil hlc ?_); intro A5 hin5 hrow5; have HIn5 := kp hin5; have HRow5 := kp (hrow5 byteV wr w.heap.size bs (HR0.out.below HBL.out)); clear hin5 hrow5)
              | (go_at_call 11; go_must (refine (write_any g1 (bs.take i) ((bs.take (i + 1)).drop i) A5 1 (cap0 - i) w.heap.size wr HS.out HRow5.out hszr (fun x hx => HN0.out x (List.mem_of_mem_take (List.mem_of_mem_drop hx))) (by intro a hz e e2; obtain ⟨a2, e3, hb2, _⟩ := HRow5.out.cells hz; rw [e] at e3; cases e3; omega) HKr.out (by omega) (by omega) (by rw [List.length_take, HL0.out]; omega)).mono ?_); rintro e w5 ⟨rfl, hs5, hg5⟩
                 have hB5 : Below w.heap.size w w5 := HBL.out.grown hg5 hszr (by intro k e; cases e; omega)
                 clear hc
                 have hc := (hB5.cell (p := ad.add n) (by rw [add_block]; omega)).trans HC0.out
                 have HS5 := kp hs5; have HG5 := kp hg5; have HB5 := kp hB5; clear hs5 hg5 hB5))
            go_roundw
            case rel => exact ⟨i + 1, k, n + 1, by omega, hk, by omega, by go_num, rfl, by go_num, by rw [← take_next]; exact HS5.out, HT.out.grown HG5.out (by omega), HB5.out⟩
            case measure => simp [intOf]; omega
          · go_wp2
            go_roundw
            case rel => exact ⟨i, k, n + 1, hi, hk, by omega, rfl, rfl, by go_num, HS.out, HT.out, HBL.out⟩
            case measure => simp [intOf]; omega
      · obtain ⟨digA, hdigA⟩ : ∃ d, H.digest (bs.take i) = d := ⟨_, rfl⟩
        obtain ⟨digB, hdigB⟩ : ∃ d, H.digest (cs.take k) = d := ⟨_, rfl⟩
        have HDigA := kp hdigA; have HDigB := kp hdigB; clear hdigA hdigB
        have HDLA : Kept (digA.length = 32) := kp <| by rw [← HDigA.out]; exact digest_len _
        have HDLB : Kept (digB.length = 32) := kp <| by rw [← HDigB.out]; exact digest_len _
        have HJA : Kept ((bs.take i).length ≤ 900000000) := kp <| by rw [List.length_take, HL0.out]; omega
        have HJB : Kept ((cs.take k).length ≤ 900000000) := kp <| by rw [List.length_take, HL1.out]; omega
        have HHA : ∀ W, Below wr.heap.size wr W → Holds W g1 (bs.take i) := fun W hW => HS.out.below hW
        have HHB : ∀ W, Below wr.heap.size wr W → Holds W g2 (cs.take k) := fun W hW => HT.out.below hW
        have HHA := kp HHA; have HHB := kp HHB
        go_wp2
        apply region_list (.is _ :: .is (.agg (digA.map byteV).toArray) :: .is _ :: .is _ :: .is (.slice a0 i cap0) :: .vals [.slice a0 i cap0] :: .is (.agg (digA.map byteV).toArray) :: .is (.bool true) :: .is (.bool true) :: .is _ :: .is (.agg (digB.map byteV).toArray) :: .is _ :: .is _ :: .is (.slice a1 k cap1) :: .vals [.slice a1 k cap1] :: .is (.agg (digB.map byteV).toArray) :: .is (.bool true) :: .is _ :: .is _ :: [])
          [[], [(0, 77)], [], [], [(2, 79), (3, 80)], [(4, 81)], [(5, 82)], [(1, 78), (6, 83)], [(7, 84)], [(8, 85)], [(9, 86), (8, 85)], [(8, 85)], [(8, 85)], [(11, 88), (12, 89), (8, 85)], [(13, 90), (8, 85)], [(14, 91), (8, 85)], [(10, 87), (15, 92), (8, 85)], [(8, 85), (16, 93)], [(17, 94)]]
          [(0, 77), (1, 78), (2, 79), (3, 80), (4, 81), (5, 82), (6, 83), (7, 84), (8, 85), (9, 86), (10, 87), (11, 88), (12, 89), (13, 90), (14, 91), (15, 92), (16, 93), (17, 94), (18, 6)] (by kernel_rfl) (by kernel_rfl)
        case hob =>
          refine ⟨?o0, ?o1, ?o2, ?o3, ?o4, ?o5, ?o6, ?o7, ?o8, ?o9, ?o10, ?o11, ?o12, ?o13, ?o14, ?o15, ?o16, ?o17, ?o18, trivial⟩
          case o0 => intro W hW; change wpList _ _ _ _ _ _; go_wp2; exact pure_post rfl rfl rfl
          case o1 =>
            intro W hW; rintro _ rfl; change wpList _ _ _ _ _ _
            go_wp2_with fail
            refine (sum_any g1 _ W (HHA.out W hW) (HK.out.below ((HBL.out.mono hk1).trans (hW.mono (Nat.le_trans hk1 HBL.out.size)))) (by omega) HJA.out digA HDigA.out).mono ?_
            rintro e w2 ⟨rfl, hw2⟩
            go_wp2
            exact made_post rfl rfl rfl hw2 rfl
          case o2 => intro W hW; change wpList _ _ _ _ _ _; go_wp2; exact pure_post rfl rfl rfl
          case o3 => intro W hW; change wpList _ _ _ _ _ _; go_wp2; exact pure_post rfl rfl rfl
          case o4 =>
            intro W hW; rintro _ rfl; rintro _ rfl; change wpList _ _ _ _ _ _
            refine wpList_slice_front rfl 22 (.tmp 79) (.tmp 80) rfl 5 Tryd.underlying22 size1b a0 len0 cap0 rfl .i64 i rfl (by omega) ?_
            go_wp2; exact pure_post rfl rfl rfl
          case o5 =>
            intro W hW; rintro _ rfl; change wpList _ _ _ _ _ _
            go_wp2
            exact made_post rfl rfl rfl ((Below.refl _ _).alloc (Nat.le_refl _) _) ⟨_, _, rfl, Row.made (fun u => u) W [_] _ rfl _⟩
          case o6 =>
            intro W hW; rintro _ ⟨A5, c5, rfl, hr5⟩; change wpList _ _ _ _ _ _
            go_wp2_with fail
            refine (of_any A5 1 c5 W.heap.size [⟨a0, i, cap0, bs.take i⟩] W (row_part hr5) (Nat.le_refl _) (only_ok ⟨(((HR0.out.take (by omega)).below HBL.out).below (hW.mono HBL.out.size)).more (Nat.le_trans HBL.out.size hW.size), fun x hx => HN0.out x (List.mem_of_mem_take hx), (show i ≤ cap0 by omega)⟩) (HK.out.below ((HBL.out.mono hk1).trans (hW.mono (Nat.le_trans hk1 HBL.out.size)))) (by omega) (by simpa [joined] using HJA.out) digA (by simpa [joined] using HDigA.out)).mono ?_
            rintro e w2 ⟨rfl, hw2⟩
            go_wp2
            exact made_post rfl rfl rfl hw2 rfl
          case o7 =>
            intro W hW; rintro _ rfl; rintro _ rfl; change wpList _ _ _ _ _ _
            refine wpList_eql_dig rfl (.tmp 78) (.tmp 83) _ rfl digA HDLA.out rfl rfl ?_
            go_wp2; exact pure_post rfl rfl rfl
          case o8 => intro W hW; rintro _ rfl; change wpList _ _ _ _ _ _; go_wp2; exact pure_post rfl rfl rfl
          case o9 => intro W hW; rintro _ rfl; change wpList _ _ _ _ _ _; go_wp2; exact pure_post rfl rfl rfl
          case o10 =>
            intro W hW; rintro _ rfl; rintro _ rfl; change wpList _ _ _ _ _ _
            go_wp2_with fail
            refine (sum_any g2 _ W (HHB.out W hW) (HK.out.below ((HBL.out.mono hk1).trans (hW.mono (Nat.le_trans hk1 HBL.out.size)))) (by omega) HJB.out digB HDigB.out).mono ?_
            rintro e w2 ⟨rfl, hw2⟩
            go_wp2
            exact made_post rfl rfl rfl hw2 rfl
          case o11 => intro W hW; rintro _ rfl; change wpList _ _ _ _ _ _; go_wp2; exact pure_post rfl rfl rfl
          case o12 => intro W hW; rintro _ rfl; change wpList _ _ _ _ _ _; go_wp2; exact pure_post rfl rfl rfl
          case o13 =>
            intro W hW; rintro _ rfl; rintro _ rfl; rintro _ rfl; change wpList _ _ _ _ _ _
            refine wpList_slice_front rfl 22 (.tmp 88) (.tmp 89) rfl 5 Tryd.underlying22 size1b a1 len1 cap1 rfl .i64 k rfl (by omega) ?_
            go_wp2; exact pure_post rfl rfl rfl
          case o14 =>
            intro W hW; rintro _ rfl; rintro _ rfl; change wpList _ _ _ _ _ _
            go_wp2
            exact made_post rfl rfl rfl ((Below.refl _ _).alloc (Nat.le_refl _) _) ⟨_, _, rfl, Row.made (fun u => u) W [_] _ rfl _⟩
          case o15 =>
            intro W hW; rintro _ ⟨A14, c14, rfl, hr14⟩; rintro _ rfl; change wpList _ _ _ _ _ _
            go_wp2_with fail
            refine (of_any A14 1 c14 W.heap.size [⟨a1, k, cap1, cs.take k⟩] W (row_part hr14) (Nat.le_refl _) (only_ok ⟨(((HR1.out.take (by omega)).below HBL.out).below (hW.mono HBL.out.size)).more (Nat.le_trans HBL.out.size hW.size), fun x hx => HN1.out x (List.mem_of_mem_take hx), (show k ≤ cap1 by omega)⟩) (HK.out.below ((HBL.out.mono hk1).trans (hW.mono (Nat.le_trans hk1 HBL.out.size)))) (by omega) (by simpa [joined] using HJB.out) digB (by simpa [joined] using HDigB.out)).mono ?_
            rintro e w2 ⟨rfl, hw2⟩
            go_wp2
            exact made_post rfl rfl rfl hw2 rfl
          case o16 =>
            intro W hW; rintro _ rfl; rintro _ rfl; rintro _ rfl; change wpList _ _ _ _ _ _
            refine wpList_eql_dig_want rfl (.tmp 87) (.tmp 92) _ rfl digB HDLB.out rfl rfl ?_
            go_wp2; exact pure_post rfl rfl rfl
          case o17 => intro W hW; rintro _ rfl; rintro _ rfl; change wpList _ _ _ _ _ _; go_wp2; exact pure_post rfl rfl rfl
          case o18 => intro W hW; rintro _ rfl; change wpList _ _ _ _ _ _; go_wp2; exact pure_post rfl rfl rfl
        case hend =>
          intro W hW; rintro _ rfl; rintro _ rfl; rintro _ rfl; rintro _ rfl; rintro _ rfl; rintro _ ⟨A5, c5, rfl, hr5⟩; rintro _ rfl; rintro _ rfl; rintro _ rfl; rintro _ rfl; rintro _ rfl; rintro _ rfl; rintro _ rfl; rintro _ rfl; rintro _ ⟨A14, c14, rfl, hr14⟩; rintro _ rfl; rintro _ rfl; rintro _ rfl; rintro _ rfl
          simp only [given, put_lit, List.set]
          go_wp2
          go_ret
          exact ⟨rfl, HBL.out.trans (hW.mono HBL.out.size)⟩
end Go.Proofs.YtoagmmelklkoaaaDoor
