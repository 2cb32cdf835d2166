/- WireWrites, walked. -/
import Derived.Test.YtgdnimhhhllgaaaDoorWireLaw2
namespace Go.Proofs.YtgdnimhhhllgaaaDoor
open Go.RowKit

set_option maxRecDepth 1000000 in
set_option maxHeartbeats 4000000 in
theorem walkWireWrites (a0 : Option Addr) (len0 cap0 : Nat) (z0 : List Item) (w : World) (w0 : Items w w.heap.size a0 len0 z0) (c0 : len0 ≤ cap0 ∧ cap0 ≤ maxLen) (hL : Tab w) :
    Calls Tryd.prog 3 #[.slice a0 len0 cap0] w fun e w' => e = .returned (.bool true) ∧ Below w.heap.size w w' := by
  have hs := hL.size
  have HT := kp hL
  have HI := kp w0
  have HLn := kp w0.1.len
  obtain ⟨hc1, hc2⟩ := c0
  have hcm := hc2
  unfold maxLen at hcm
  have hl64 : len0 ≤ 9223372036854775807 := by omega
  clear hL w0 hcm
  by_cases hlong : 600 < tot z0
  · have HLong : Kept (decide (600 < tot z0) = true) := kp (decide_eq_true hlong)
    clear hlong
    go_enter Tryd.func3, Tryd.ntmps3
    go_wp2_with fail
    refine (awake_any w HT.out hs).mono ?_
    rintro e w1 ⟨rfl, hb1⟩
    have HB1 := kp hb1
    have hs1 := hb1.size
    clear hb1
    go_wp2_with fail
    refine (long_any w.heap.size a0 len0 cap0 z0 w1 (HI.out.below HB1.out) (by omega) true HLong.out).mono ?_
    rintro e w' ⟨rfl, rfl⟩
    go_wp2_with fail
    refine (awake_any w1 (HT.out.below HB1.out hs) (by omega)).mono ?_
    rintro e w2 ⟨rfl, hb2⟩
    have HB2 := kp (HB1.out.trans (hb2.mono hs1))
    clear hb2
    go_wp2
    go_ret
    exact ⟨rfl, HB2.out⟩
  · have HLong : Kept (decide (600 < tot z0) = false) := kp (decide_eq_false hlong)
    have htot : tot z0 ≤ 600 := by omega
    have HTot := kp htot
    have hn6 : len0 ≤ 600 := by rw [← HLn.out]; exact tot_len htot
    clear hlong htot
    go_enter Tryd.func3, Tryd.ntmps3
    go_wp2_with (first
      | (go_at_call 7; go_must (refine (awake_any w HT.out hs).mono ?_); rintro e w1 ⟨rfl, hb1⟩; have HB1 := kp hb1; have hs1 := hb1.size; clear hb1)
      | (go_at_call 8; go_must (refine (long_any w.heap.size a0 len0 cap0 z0 w1 (HI.out.below HB1.out) (by omega) false HLong.out).mono ?_); rintro e w' ⟨rfl, rfl⟩)
      | ((with_reducible show wpList _ _ _ (⟨some 3, _, _, _, _, _⟩ :: _) _ _); go_must (refine wpList_alloc_zero rfl 27 rfl _ writer_zero ?_); intro g3 w3 hg3 hk3 hw3
         have HK3 : Kept (Wr w3 (· < w.heap.size) g3 []) := kp ((wr_new hg3 hk3 hw3).less fun k h => by omega)
         have HB3 := kp (HB1.out.trans (hw3.mono hs1))
         have hs3 := HB3.out.size
         clear hk3 hw3))
    go_loopw [4, 5] (fun v4 v5 wr => ∃ (i : Nat) (bs : List Nat), i ≤ len0 ∧ v5 = .int .i64 i ∧ v4 = .string (strOf bs) ∧ Wr wr (· < w.heap.size) g3 bs ∧ Below w.heap.size w wr ∧ bs.length ≤ 175 * i + ((z0.take i).map partLen).sum) (fun _ v5 _ => len0 - (intOf v5).toNat)
    case atStart => exact ⟨0, [], by omega, rfl, rfl, HK3.out, HB3.out, by simp⟩
    case round =>
      clear HK3 HB3
      obtain ⟨i, bs, hi, rfl, rfl, hk, hb, hlen⟩ := hrel
      have HK := kp hk; have HB := kp hb
      have hsz := hb.size
      clear hk hb
      by_cases hlt : i < len0
      · obtain ⟨ad, x, rfl, hab, hx, hok, he0, he1, he2, he3⟩ := (HI.out.below HB.out).get hlt
        have hx6 := part_short HTot.out hx
        obtain ⟨hsum, hsum6⟩ := sum_short HTot.out hx
        have HOk := kp hok
        have hd256 := hok.d
        have hm32 := hok.m
        obtain ⟨hn1, hn2⟩ := hok.n
        have hxlc := hok.lc
        have hxcm := hok.cm
        unfold maxLen at hxcm
        clear hx hok
        have hbl : bs.length ≤ 200000 := by omega
        have h4 : x.do_ % 4 = 0 ∨ x.do_ % 4 = 1 ∨ x.do_ % 4 = 2 ∨ x.do_ % 4 = 3 := by omega
        rcases h4 with h4 | h4 | h4 | h4
        · have h4' : (x.do_ : Int) % 4 = 0 := by omega
          clear h4
          have hw32 : IntKind.u32.wrap x.n = ((low32 x.n : Nat) : Int) := by
            show x.n % 4294967296 = _
            unfold low32; omega
          have hlt32 := low32_lt x.n
          have HP := kp (put_le (low32 x.n) hlt32)
          obtain ⟨nn, hnn⟩ : ∃ nn, low32 x.n = nn := ⟨_, rfl⟩
          rw [hnn] at hw32 hlt32 HP
          have HNn := kp hnn
          clear hnn
          go_wp2_with (first
            | ((with_reducible show wpList _ _ _ (⟨some 6, _, _, _, _, _⟩ :: _) _ _); go_must (refine wpList_alloc_zero rfl 30 rfl _ item_zero ?_); intro g6 w6 hg6 hk6 hw6; have HK6 := kp hk6; have HW6 := kp hw6; clear hk6 hw6)
            | ((with_reducible show wpList _ _ _ (⟨none, _, _, _, _, _⟩ :: _) _ _); go_must (refine wpList_store_blk rfl 30 (.tmp 6) (.tmp 23) rfl g6 (itemC x) rfl rfl _ _ HK6.out item_size rfl (item_ones x) ?_); intro w7 hk7 hg7 hs7
               obtain ⟨hd0, hd1, hd2, hd3⟩ := item_cells hk7
               have HK7 := kp hk7
               have HB7 : Kept (Below w.heap.size w w7) := kp ((HB.out.trans (HW6.out.mono hsz)).grown hg7 (by have := HW6.out.size; omega) (by intro k e; cases e; omega))
               have HWr7 : Kept (Wr w7 (fun k => k < w.heap.size ∨ k = g6) g3 bs) := kp ((HK.out.below HW6.out fun k h => by
                 rcases h with h | h
                 · exact .inl h
                 · subst h; exact .inr ⟨hg6, HK6.out.lt⟩).far hg7 (.inr rfl))
               have hsz7 := HB7.out.size
               clear he0 he1 he2 he3 hk7 hg7)
            | (go_at_call 9; go_must (refine (wr_num _ g3 bs x.n w7 HWr7.out (by omega)).mono ?_); rintro e w8 ⟨rfl, hk8, hh8⟩
               have HB8 : Kept (Below w.heap.size w w8) := kp (HB7.out.trans (hh8.less fun k h => .inl h).below)
               rw [HNn.out] at hk8
               have HK8 := kp hk8
               have hsz8 := HB8.out.size
               have hd1' : w8.cell? ⟨g6, 1, none⟩ = some (.int .i64 x.n) := (hh8.cell ⟨g6, 1, none⟩ (.inr rfl)).trans hd1
               have hd2' : w8.cell? ⟨g6, 2, none⟩ = some (.slice x.A x.len x.cap) := (hh8.cell ⟨g6, 2, none⟩ (.inr rfl)).trans hd2
               have hd3' : w8.cell? ⟨g6, 3, none⟩ = some (.int .u32 (x.m : Int)) := (hh8.cell ⟨g6, 3, none⟩ (.inr rfl)).trans hd3
               have HHd8 : Kept (Held (fun k => k < w.heap.size ∨ k = g6) w7 w8) := kp hh8
               clear hk8 hh8 hd0 hd1 hd2 hd3)
            | (go_at_call 10; go_must (refine (ref_put nn hlt32 w8).mono ?_); rintro e wz ⟨v9, rfl, hown9, hb9⟩
               obtain ⟨A9, c9, rfl, hc9, hm9, hr9⟩ := hown9.bytes
               have hs9 := cv (c := c9) hr9
               obtain ⟨q, hq⟩ : ∃ q, bs ++ V.put nn = q := ⟨_, rfl⟩
               have hql : q.length ≤ bs.length + 170 := by rw [← hq, List.length_append]; have := HP.out; omega
               have hj : strOf bs ++ strOf (V.put nn) = strOf q := by rw [strOf_append, hq]
               have hz1 : (strOf bs).size = bs.length := strOf_len _
               have hz2 : (strOf (V.put nn)).size + bs.length = q.length := by rw [strOf_len, ← hq, List.length_append]; omega
               have HKZ := kp (HK8.out.below hb9 fun k h => .inl h)
               rw [hq] at HKZ
               have HBZ := kp (HB8.out.trans (hb9.mono hsz8))
               clear hown9 hm9 hr9 hb9 hq hd1' hd2' hd3')
            | (go_at_call 15; go_must (refine (wr_bytes _ g3 q wz HKZ.out (by omega)).mono ?_); rintro e wy ⟨vy, rfl, howny, hky, hby⟩
               obtain ⟨Ay, cy, rfl, hcy, hmy, hry⟩ := howny.bytes
               have hsy := cv (c := cy) hry
               have HKY := kp hky
               have HBY := kp (HBZ.out.trans (hby.mono HBZ.out.size))
               clear howny hmy hry hby hky))
          go_roundw
          case rel => exact ⟨i + 1, q, by omega, by go_num, rfl, HKY.out.less fun k h => .inl h, HBY.out, by omega⟩
          case measure => simp [intOf]; omega
        · have h4' : (x.do_ : Int) % 4 = 1 := by omega
          clear h4
          go_wp2_with (first
            | ((with_reducible show wpList _ _ _ (⟨some 6, _, _, _, _, _⟩ :: _) _ _); go_must (refine wpList_alloc_zero rfl 30 rfl _ item_zero ?_); intro g6 w6 hg6 hk6 hw6; have HK6 := kp hk6; have HW6 := kp hw6; clear hk6 hw6)
            | ((with_reducible show wpList _ _ _ (⟨none, _, _, _, _, _⟩ :: _) _ _); go_must (refine wpList_store_blk rfl 30 (.tmp 6) (.tmp 23) rfl g6 (itemC x) rfl rfl _ _ HK6.out item_size rfl (item_ones x) ?_); intro w7 hk7 hg7 hs7
               obtain ⟨hd0, hd1, hd2, hd3⟩ := item_cells hk7
               have HK7 := kp hk7
               have HB7 : Kept (Below w.heap.size w w7) := kp ((HB.out.trans (HW6.out.mono hsz)).grown hg7 (by have := HW6.out.size; omega) (by intro k e; cases e; omega))
               have HWr7 : Kept (Wr w7 (fun k => k < w.heap.size ∨ k = g6) g3 bs) := kp ((HK.out.below HW6.out fun k h => by
                 rcases h with h | h
                 · exact .inl h
                 · subst h; exact .inr ⟨hg6, HK6.out.lt⟩).far hg7 (.inr rfl))
               have hsz7 := HB7.out.size
               clear he0 he1 he2 he3 hk7 hg7)
            | (go_at_call 11; go_must (refine (wr_raw _ g3 w.heap.size bs x.bs x.A x.len x.cap w7 HWr7.out (HOk.out.row.keep fun p hp => (HB7.out.cell hp).trans (HB.out.cell hp).symm) (by omega)).mono ?_); rintro e wz ⟨rfl, hk8, hh8⟩
               have HB8 : Kept (Below w.heap.size w wz) := kp (HB7.out.trans (hh8.less fun k h => .inl h).below)
               have HKZ := kp hk8
               have HBZ := HB8
               obtain ⟨q, hq⟩ : ∃ q, bs ++ x.bs = q := ⟨_, rfl⟩
               have hql : q.length ≤ bs.length + x.len := by rw [← hq, List.length_append, HOk.out.row.len]; exact Nat.le_refl _
               have hs8 := cv (w := wz) (HOk.out.row.keep fun p hp => (HB.out.cell hp).symm ▸ HB8.out.cell hp) (c := x.cap)
               have hj : strOf bs ++ strOf x.bs = strOf q := by rw [strOf_append, hq]
               have hz1 : (strOf bs).size = bs.length := strOf_len _
               have hz2 : (strOf x.bs).size = x.len := by rw [strOf_len, HOk.out.row.len]
               have hd2' : wz.cell? ⟨g6, 2, none⟩ = some (.slice x.A x.len x.cap) := (hh8.cell ⟨g6, 2, none⟩ (.inr rfl)).trans hd2
               rw [hq] at HKZ
               clear hk8 hh8 hd0 hd1 hd2 hd3 hq)
            | (go_at_call 15; go_must (refine (wr_bytes _ g3 q wz HKZ.out (by omega)).mono ?_); rintro e wy ⟨vy, rfl, howny, hky, hby⟩
               obtain ⟨Ay, cy, rfl, hcy, hmy, hry⟩ := howny.bytes
               have hsy := cv (c := cy) hry
               have HKY := kp hky
               have HBY := kp (HBZ.out.trans (hby.mono HBZ.out.size))
               clear howny hmy hry hby hky))
          go_roundw
          case rel => exact ⟨i + 1, q, by omega, by go_num, rfl, HKY.out.less fun k h => .inl h, HBY.out, by omega⟩
          case measure => simp [intOf]; omega
        · have h4' : (x.do_ : Int) % 4 = 2 := by omega
          clear h4
          have HP := kp (put_le x.len (by omega))
          go_wp2_with (first
            | ((with_reducible show wpList _ _ _ (⟨some 6, _, _, _, _, _⟩ :: _) _ _); go_must (refine wpList_alloc_zero rfl 30 rfl _ item_zero ?_); intro g6 w6 hg6 hk6 hw6; have HK6 := kp hk6; have HW6 := kp hw6; clear hk6 hw6)
            | ((with_reducible show wpList _ _ _ (⟨none, _, _, _, _, _⟩ :: _) _ _); go_must (refine wpList_store_blk rfl 30 (.tmp 6) (.tmp 23) rfl g6 (itemC x) rfl rfl _ _ HK6.out item_size rfl (item_ones x) ?_); intro w7 hk7 hg7 hs7
               obtain ⟨hd0, hd1, hd2, hd3⟩ := item_cells hk7
               have HK7 := kp hk7
               have HB7 : Kept (Below w.heap.size w w7) := kp ((HB.out.trans (HW6.out.mono hsz)).grown hg7 (by have := HW6.out.size; omega) (by intro k e; cases e; omega))
               have HWr7 : Kept (Wr w7 (fun k => k < w.heap.size ∨ k = g6) g3 bs) := kp ((HK.out.below HW6.out fun k h => by
                 rcases h with h | h
                 · exact .inl h
                 · subst h; exact .inr ⟨hg6, HK6.out.lt⟩).far hg7 (.inr rfl))
               have hsz7 := HB7.out.size
               clear he0 he1 he2 he3 hk7 hg7)
            | (go_at_call 12; go_must (refine (wr_block _ g3 w.heap.size bs x.bs x.A x.len x.cap w7 HWr7.out (HOk.out.row.keep fun p hp => (HB7.out.cell hp).trans (HB.out.cell hp).symm) (fun ad h0 e => by obtain ⟨a1, e1, hb1, _⟩ := HOk.out.row.cells h0; rw [e] at e1; cases e1; exact .inl hb1) (by omega)).mono ?_); rintro e w8 ⟨rfl, hk8, hh8⟩
               have HB8 : Kept (Below w.heap.size w w8) := kp (HB7.out.trans (hh8.less fun k h => .inl h).below)
               have HK8 := kp hk8
               have hsz8 := HB8.out.size
               have hd1' : w8.cell? ⟨g6, 1, none⟩ = some (.int .i64 x.n) := (hh8.cell ⟨g6, 1, none⟩ (.inr rfl)).trans hd1
               have hd2' : w8.cell? ⟨g6, 2, none⟩ = some (.slice x.A x.len x.cap) := (hh8.cell ⟨g6, 2, none⟩ (.inr rfl)).trans hd2
               have hd3' : w8.cell? ⟨g6, 3, none⟩ = some (.int .u32 (x.m : Int)) := (hh8.cell ⟨g6, 3, none⟩ (.inr rfl)).trans hd3
               have HHd8 : Kept (Held (fun k => k < w.heap.size ∨ k = g6) w7 w8) := kp hh8
               clear hk8 hh8 hd0 hd1 hd2 hd3 ))
          have HC8 : Kept (∀ W, Below w8.heap.size w8 W → W.cell? ⟨g6, 2, none⟩ = some (.slice x.A x.len x.cap)) := kp fun W hW => (hW.cell (by have := HHd8.out.size; have := HK7.out.lt; show g6 < w8.heap.size; omega)).trans hd2'
          have HR8 : Kept (∀ W, Below w8.heap.size w8 W → Row byteV W w.heap.size x.A x.len x.bs) := kp fun W hW => HOk.out.row.keep fun p hp => ((hW.cell (by omega)).trans (HB8.out.cell hp)).trans (HB.out.cell hp).symm
          obtain ⟨q1, hq1⟩ : ∃ q, bs ++ V.put x.len = q := ⟨_, rfl⟩
          obtain ⟨q, hq⟩ : ∃ q, q1 ++ x.bs = q := ⟨_, rfl⟩
          have hj1 : strOf bs ++ strOf (V.put x.len) = strOf q1 := by rw [strOf_append, hq1]
          have hj2 : strOf q1 ++ strOf x.bs = strOf q := by rw [strOf_append, hq]
          have hql1 : q1.length ≤ bs.length + 5 := by rw [← hq1, List.length_append]; have := HP.out; omega
          have hql : q.length ≤ bs.length + 5 + x.len := by rw [← hq, List.length_append, HOk.out.row.len]; omega
          have hz0 : (strOf bs).size ≤ 300000 := by rw [strOf_len]; omega
          have hz1 : (strOf (V.put x.len)).size ≤ 5 := by rw [strOf_len]; exact HP.out
          have hz2 : (strOf q1).size ≤ 300000 := by rw [strOf_len]; omega
          have hz3 : (strOf x.bs).size ≤ 600 := by rw [strOf_len, HOk.out.row.len]; exact hx6
          have HKq : Kept (Wr w8 (fun k => k < w.heap.size ∨ k = g6) g3 q) := kp (by rw [← hq, ← hq1]; exact HK8.out)
          clear hd1' hd2' hd3'
          apply region_list (.is _ :: .is _ :: .is _ :: .is _ :: .bytes (V.put x.len) :: .is _ :: .is _ :: .is _ :: .is _ :: .is _ :: .is _ :: .is _ :: [])
            [[], [], [(1, 65)], [(2, 66)], [(3, 67)], [(4, 68)], [(0, 64), (5, 69)], [], [(7, 71)], [(8, 72)], [(6, 70), (9, 73)], [(10, 74)]]
            [(0, 64), (1, 65), (2, 66), (3, 67), (4, 68), (5, 69), (6, 70), (7, 71), (8, 72), (9, 73), (10, 74), (11, 4)] (by kernel_rfl) (by kernel_rfl)
          case hob =>
            refine ⟨?o0, ?o1, ?o2, ?o3, ?o4, ?o5, ?o6, ?o7, ?o8, ?o9, ?o10, ?o11, trivial⟩
            case o0 => intro W hW; change wpList _ _ _ _ _ _; go_wp2; exact pure_post rfl rfl rfl
            case o1 => intro W hW; change wpList _ _ _ _ _ _; go_wp2; exact pure_post rfl rfl rfl
            case o2 =>
              intro W hW; rintro _ rfl; change wpList _ _ _ _ _ _
              have hd := HC8.out W hW
              go_wp2; exact pure_post rfl rfl rfl
            case o3 => intro W hW; rintro _ rfl; change wpList _ _ _ _ _ _; go_wp2; exact pure_post rfl rfl rfl
            case o4 =>
              intro W hW; rintro _ rfl; change wpList _ _ _ _ _ _
              go_wp2_with fail
              refine (ref_put x.len (by omega) W).mono ?_
              rintro e w2 ⟨v2, rfl, hown2, hb2⟩
              obtain ⟨A, cap, rfl, _, _, hr2⟩ := hown2.bytes
              have HR2 := Lib.hid hr2; have HB2 := Lib.hid hb2; clear hown2 hr2 hb2
              go_wp2
              exact made_post rfl rfl rfl HB2.out ⟨A, cap, rfl, HR2.out⟩
            case o5 =>
              intro W hW; rintro _ ⟨A4, c4, rfl, hr4⟩; change wpList _ _ _ _ _ _
              have hs := cv (c := c4) hr4
              go_wp2; exact pure_post rfl rfl rfl
            case o6 => intro W hW; rintro _ rfl; rintro _ rfl; change wpList _ _ _ _ _ _; go_wp2; exact pure_post rfl rfl rfl
            case o7 => intro W hW; change wpList _ _ _ _ _ _; go_wp2; exact pure_post rfl rfl rfl
            case o8 =>
              intro W hW; rintro _ rfl; change wpList _ _ _ _ _ _
              have hd := HC8.out W hW
              go_wp2; exact pure_post rfl rfl rfl
            case o9 =>
              intro W hW; rintro _ rfl; change wpList _ _ _ _ _ _
              have hs := cv (w := W) (c := x.cap) (HR8.out W hW)
              go_wp2; exact pure_post rfl rfl rfl
            case o10 => intro W hW; rintro _ rfl; rintro _ rfl; change wpList _ _ _ _ _ _; go_wp2; exact pure_post rfl rfl rfl
            case o11 => intro W hW; rintro _ rfl; change wpList _ _ _ _ _ _; go_wp2; exact pure_post rfl rfl rfl
          case hend =>
            intro W hW; rintro _ rfl; rintro _ rfl; rintro _ rfl; rintro _ rfl; rintro _ ⟨A4, c4, rfl, hr4⟩; rintro _ rfl; rintro _ rfl; rintro _ rfl; rintro _ rfl; rintro _ rfl; rintro _ rfl; rintro _ rfl
            simp only [given, put_lit, List.set]
            have HKZ := kp (HKq.out.below hW fun k h => .inl h)
            have HBZ := kp (HB8.out.trans (hW.mono hsz8))
            clear hr4 hW
            go_wp2_with (first
              | (go_at_call 15; go_must (refine (wr_bytes _ g3 q W HKZ.out (by omega)).mono ?_); rintro e wy ⟨vy, rfl, howny, hky, hby⟩
                 obtain ⟨Ay, cy, rfl, hcy, hmy, hry⟩ := howny.bytes
                 have hsy := cv (c := cy) hry
                 have HKY := kp hky
                 have HBY := kp (HBZ.out.trans (hby.mono HBZ.out.size))
                 clear howny hmy hry hby hky))
            go_roundw
            case rel => exact ⟨i + 1, q, by omega, by go_num, rfl, HKY.out.less fun k h => .inl h, HBY.out, by omega⟩
            case measure => simp [intOf]; omega
        · have h4' : (x.do_ : Int) % 4 = 3 := by omega
          clear h4
          have hlow := hm32
          have HSb : Kept ((R.setB x.m).length ≤ 170) := kp (setB_le x.m)
          go_wp2_with (first
            | ((with_reducible show wpList _ _ _ (⟨some 6, _, _, _, _, _⟩ :: _) _ _); go_must (refine wpList_alloc_zero rfl 30 rfl _ item_zero ?_); intro g6 w6 hg6 hk6 hw6; have HK6 := kp hk6; have HW6 := kp hw6; clear hk6 hw6)
            | ((with_reducible show wpList _ _ _ (⟨none, _, _, _, _, _⟩ :: _) _ _); go_must (refine wpList_store_blk rfl 30 (.tmp 6) (.tmp 23) rfl g6 (itemC x) rfl rfl _ _ HK6.out item_size rfl (item_ones x) ?_); intro w7 hk7 hg7 hs7
               obtain ⟨hd0, hd1, hd2, hd3⟩ := item_cells hk7
               have HK7 := kp hk7
               have HB7 : Kept (Below w.heap.size w w7) := kp ((HB.out.trans (HW6.out.mono hsz)).grown hg7 (by have := HW6.out.size; omega) (by intro k e; cases e; omega))
               have HWr7 : Kept (Wr w7 (fun k => k < w.heap.size ∨ k = g6) g3 bs) := kp ((HK.out.below HW6.out fun k h => by
                 rcases h with h | h
                 · exact .inl h
                 · subst h; exact .inr ⟨hg6, HK6.out.lt⟩).far hg7 (.inr rfl))
               have hsz7 := HB7.out.size
               clear he0 he1 he2 he3 hk7 hg7)
            | (go_at_call 13; go_must (refine (wr_set _ g3 bs x.m hm32 w7 HWr7.out (HT.out.below HB7.out hs) (.inl (by omega)) (by omega)).mono ?_); rintro e w8 ⟨rfl, hk8, hh8⟩
               have HB8 : Kept (Below w.heap.size w w8) := kp (HB7.out.trans (hh8.less fun k h => .inl h).below)
               have HK8 := kp hk8
               have hsz8 := HB8.out.size
               have hd1' : w8.cell? ⟨g6, 1, none⟩ = some (.int .i64 x.n) := (hh8.cell ⟨g6, 1, none⟩ (.inr rfl)).trans hd1
               have hd2' : w8.cell? ⟨g6, 2, none⟩ = some (.slice x.A x.len x.cap) := (hh8.cell ⟨g6, 2, none⟩ (.inr rfl)).trans hd2
               have hd3' : w8.cell? ⟨g6, 3, none⟩ = some (.int .u32 (x.m : Int)) := (hh8.cell ⟨g6, 3, none⟩ (.inr rfl)).trans hd3
               have HHd8 : Kept (Held (fun k => k < w.heap.size ∨ k = g6) w7 w8) := kp hh8
               clear hk8 hh8 hd0 hd1 hd2 hd3)
            | (go_at_call 14; go_must (refine (ref_setb x.m hm32 w8).mono ?_); rintro e wz ⟨v9, rfl, hown9, hb9⟩
               obtain ⟨A9, c9, rfl, hc9, hm9, hr9⟩ := hown9.bytes
               have hs9 := cv (c := c9) hr9
               obtain ⟨q, hq⟩ : ∃ q, bs ++ R.setB x.m = q := ⟨_, rfl⟩
               have hql : q.length ≤ bs.length + 170 := by rw [← hq, List.length_append]; have := HSb.out; omega
               have hj : strOf bs ++ strOf (R.setB x.m) = strOf q := by rw [strOf_append, hq]
               have hz1 : (strOf bs).size = bs.length := strOf_len _
               have hz2 : (strOf (R.setB x.m)).size + bs.length = q.length := by rw [strOf_len, ← hq, List.length_append]; omega
               have HKZ := kp (HK8.out.below hb9 fun k h => .inl h)
               rw [hq] at HKZ
               have HBZ := kp (HB8.out.trans (hb9.mono hsz8))
               clear hown9 hm9 hr9 hb9 hq hd1' hd2' hd3')
            | (go_at_call 15; go_must (refine (wr_bytes _ g3 q wz HKZ.out (by omega)).mono ?_); rintro e wy ⟨vy, rfl, howny, hky, hby⟩
               obtain ⟨Ay, cy, rfl, hcy, hmy, hry⟩ := howny.bytes
               have hsy := cv (c := cy) hry
               have HKY := kp hky
               have HBY := kp (HBZ.out.trans (hby.mono HBZ.out.size))
               clear howny hmy hry hby hky))
          go_roundw
          case rel => exact ⟨i + 1, q, by omega, by go_num, rfl, HKY.out.less fun k h => .inl h, HBY.out, by omega⟩
          case measure => simp [intOf]; omega
      · have hge : len0 ≤ i := by omega
        clear hlt
        go_wp2
        go_ret
        exact ⟨rfl, HB.out⟩
end Go.Proofs.YtgdnimhhhllgaaaDoor
