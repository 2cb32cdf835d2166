/- PcodeBack, walked. -/
import Derived.Test.YtdnhfpphjpnklaaPk11
import Derived.Test.YtdnhfpphjpnklaaProgRef3
import Derived.Test.YtdnhfpphjpnklaaPk5
namespace Go.Proofs.Ytdnhfpphjpnklaa
open Go.RowKit

theorem pg_more2 {p : Pg} {w : World} {B B' : Nat} (h : p.Ok w B) (hB : B ≤ B') : p.Ok w B' := ⟨h.g, h.l, h.s, h.row.more hB, fun f hf => ⟨⟨(h.fns f hf).nodes.1.more hB, (h.fns f hf).nodes.2⟩, (h.fns f hf).lc, (h.fns f hf).cm, (h.fns f hf).nil⟩, h.lc, h.cm, h.nil⟩

set_option maxRecDepth 1000000 in
set_option maxHeartbeats 8000000 in
theorem walkPcodeBack (pg0 : Pg) (a1 : Int) (a2 : Int) (w : World) (w0 : pg0.Ok w w.heap.size) (w1 : (Lit.int .u16 a1).wf = true) (w2 : (Lit.int .u8 a2).wf = true) :
    Calls Try.prog 4 #[pgA pg0, .int .u16 a1, .int .u8 a2] w fun e w' => e = .returned (.bool true) ∧ Below w.heap.size w w' := by
  have HP := kp w0
  obtain ⟨cu, rfl, hcu⟩ : ∃ cu : Nat, a1 = (cu : Int) ∧ cu < 65536 := by
    have : 0 ≤ a1 ∧ a1 < 65536 := by simp [Lit.wf, IntKind.min, IntKind.max, IntKind.bits, IntKind.signed] at w1; omega
    exact ⟨a1.toNat, by omega, by omega⟩
  obtain ⟨mo, rfl, hmo⟩ : ∃ mo : Nat, a2 = (mo : Int) ∧ mo < 256 := by
    have := u8_range a2 w2
    exact ⟨a2.toNat, by omega, by omega⟩
  clear w0 w1 w2
  obtain ⟨r, hr⟩ : ∃ r, Q.small pg0 = r := ⟨_, rfl⟩
  have HR := kp hr
  clear hr
  rw [pgA_is]
  cases r
  · go_enter Try.func4, Try.ntmps4
    go_wp2_with (first
      | ((with_reducible refine wpList_box_agg rfl 26 (.tmp 0) rfl (pgC pg0) rfl ?_); intro g1 u1 hg1 hk1 hu1; have HK1 := kp hk1; have HU1 := kp hu1; have hz1 := hu1.size; clear hg1 hk1 hu1)
      | fail)
    refine (pc_awake u1).mono ?_
    rintro e w1 ⟨rfl, hb1⟩
    have HW1 : Kept (Below w.heap.size w w1) := kp (HU1.out.trans (hb1.mono hz1))
    have hs1 := HW1.out.size
    have HKa := kp (HK1.out.below hb1 HK1.out.lt)
    obtain ⟨hc0, hc1, hc2, hc3⟩ := pg_cells HKa.out
    clear hb1
    go_wp2_with fail
    refine (ref_small _ pg0 w1 (HP.out.below HW1.out) hs1 _ HR.out).mono ?_
    rintro e w2 ⟨rfl, hb2⟩
    have HW2 : Kept (Below w.heap.size w w2) := kp (HW1.out.trans (hb2.mono hs1))
    have hs2 := HW2.out.size
    have HKb := kp (HKa.out.below hb2 HKa.out.lt)
    clear hb2 hc0 hc1 hc2 hc3
    go_wp2_with fail
    refine (pc_awake w2).mono ?_
    rintro e w9 ⟨rfl, hb9⟩
    have HW9 := kp (HW2.out.trans (hb9.mono hs2))
    clear hb9
    go_wp2
    go_ret
    exact ⟨rfl, HW9.out⟩
  obtain ⟨a, b, c, hc⟩ : ∃ a b c, Q.check pg0 = (a, b, c) := ⟨_, _, _, rfl⟩
  by_cases hcz : c = 0
  · subst hcz
    have hok := C.fine_ok HP.out.row.len (fine_of hc)
    have hck : (Q.check (C.pgOf (C.dataOf pg0))).2.2 = 0 := by rw [← C.check_data HP.out.row.len, hc]
    obtain ⟨d, hd⟩ : ∃ d, C.dataOf pg0 = d := ⟨_, rfl⟩
    rw [hd] at hok hck
    obtain ⟨l, hl⟩ : ∃ l, C.pgB d = l := ⟨_, rfl⟩
    have hle := C.pgB_le hok
    have hn4 : 4 ≤ l.length := by rw [← hl]; unfold C.pgB; rw [List.length_append]; show 4 ≤ 4 + _; omega
    have hr0 := C.read_back hok hck
    have hr2 := C.read_more hok mo
    rw [hl] at hle hr0 hr2
    obtain ⟨n, hn⟩ : ∃ n, l.length = n := ⟨_, rfl⟩
    rw [hn] at hle hn4 hr2
    have hkn : cu % n < n := Nat.mod_lt _ (by omega)
    obtain ⟨k, hk⟩ : ∃ k, cu % n = k := ⟨_, rfl⟩
    rw [hk] at hkn
    obtain ⟨at_, hat, hr1⟩ : ∃ at_, at_ ≤ k ∧ C.read (l.take k) = (C.none_, at_, 2) := by
      have h := C.read_cut hok (n := k) (by rw [hl, hn]; exact hkn)
      rw [hl] at h
      exact h
    have HRe0 := kp hr0; have HRe1 := kp hr1; have HRe2 := kp hr2
    have HC := kp hc; have HD := kp hd; have HL := kp hl; have HN := kp hn
    have HLb : Kept (∀ x ∈ l, x < 256) := kp (by rw [← hl]; exact C.pgB_small d)
    have hrem : ((cu : Int).tmod (n : Int)) = (k : Int) := by rw [← hk]; exact (Int.ofNat_tmod cu n).symm
    have hnz : ((n : Int) == 0) = false := by rw [beq_eq_false_iff_ne]; omega
    clear hok hck hr0 hr1 hr2 hc hd hl hn hk
    go_enter Try.func4, Try.ntmps4
    go_wp2_with (first
      | ((with_reducible refine wpList_box_agg rfl 26 (.tmp 0) rfl (pgC pg0) rfl ?_); intro g1 u1 hg1 hk1 hu1; have HK1 := kp hk1; have HU1 := kp hu1; have hz1 := hu1.size; clear hg1 hk1 hu1)
      | fail)
    refine (pc_awake u1).mono ?_
    rintro e w1 ⟨rfl, hb1⟩
    have HW1 : Kept (Below w.heap.size w w1) := kp (HU1.out.trans (hb1.mono hz1))
    have hs1 := HW1.out.size
    have HKa := kp (HK1.out.below hb1 HK1.out.lt)
    obtain ⟨hc0, hc1, hc2, hc3⟩ := pg_cells HKa.out
    clear hb1
    go_wp2_with fail
    refine (ref_small _ pg0 w1 (HP.out.below HW1.out) hs1 _ HR.out).mono ?_
    rintro e w2 ⟨rfl, hb2⟩
    have HW2 : Kept (Below w.heap.size w w2) := kp (HW1.out.trans (hb2.mono hs1))
    have hs2 := HW2.out.size
    have HKb := kp (HKa.out.below hb2 HKa.out.lt)
    clear hb2 hc0 hc1 hc2 hc3
    go_wp2_with (first
      | ((with_reducible show wpList _ _ _ (⟨some 25, _, _, _, _, _⟩ :: _) _ _); go_must (refine wpList_load_blk rfl 26 (.tmp 3) rfl g1 rfl _ (pgC pg0) _ HKb.out Try.underlying26 rfl pg_size ?_))
      | (go_at_call 12; fail))
    rw [← pgA_is]
    refine (pc_write _ pg0 w2 (HP.out.below HW2.out) hs2 HR.out a b HC.out).mono ?_
    rintro e w3 ⟨v, rfl, hown, hb3⟩
    rw [HD.out, HL.out] at hown
    obtain ⟨A3, c3, rfl, hc3, hm3, hr3⟩ := Own.readsN hown HN.out
    have HR3 := kp hr3
    have HW3 : Kept (Below w.heap.size w w3) := kp (HW2.out.trans (hb3.mono hs2))
    have hs3 := HW3.out.size
    have HKc := kp (HKb.out.below hb3 HKb.out.lt)
    have hm33 : c3 ≤ 9223372036854775807 := by unfold maxLen at hm3; omega
    clear hown hr3 hb3 hm3
    have HA3_3 : Kept (Below w3.heap.size w3 w3) := kp (Below.refl _ _)
    go_wp2_with fail
    refine (pc_read A3 n c3 (l) w3 HR3.out HLb.out (by unfold maxLen; omega) d 0 0 HRe0.out).mono ?_
    rintro e w4 ⟨q, rfl, hpok, hpd, hps, hbr⟩
    have HOkq := kp hpok; have HDtq := kp hpd
    have HW4 : Kept (Below w.heap.size w w4) := kp (HW3.out.trans (hbr.mono hs3))
    have hs4 := HW4.out.size
    have HA3_4 := kp (HA3_3.out.trans (hbr.mono HA3_3.out.size))
    clear hpok hpd hps hbr
    have HA4_4 : Kept (Below w4.heap.size w4 w4) := kp (Below.refl _ _)
    go_wp2_with (first
      | ((with_reducible show wpList _ _ _ (⟨some 9, _, _, _, _, _⟩ :: _) _ _); go_must (refine wpList_alloc_zero rfl 26 rfl _ pcp_zero ?_); intro gp9 x1 hgp9 hk1 hx1; have Kpa := kp hk1; have XB1 := kp hx1; have xs1 := hx1.size; have xl1 := hk1.lt; clear hk1 hx1)
      | ((with_reducible show wpList _ _ _ (⟨some 10, _, _, _, _, _⟩ :: _) _ _); go_must (refine wpList_alloc_zero rfl 29 rfl _ spot_zero ?_); intro gp10 x2 hgp10 hk2 hx2; have Ksb := kp hk2; have Kpb := kp (Kpa.out.below hx2 xl1); have XB2 := kp (XB1.out.trans (hx2.mono xs1)); have xs2 := hx2.size; have xl2 := hk2.lt; clear hk2 hx2)
      | ((with_reducible show wpList _ _ _ (⟨none, _, _, _, _, _⟩ :: _) _ _); (refine wpList_store_blk rfl 26 (.tmp 9) (.tmp 37) rfl gp9 (pgC q) rfl rfl _ _ Kpb.out pg_size rfl (pcp_ones q) ?_); intro x3 hk3 hg3 hz3
         have Kpc := kp hk3; have Ksc := kp (Ksb.out.grown hg3 (by intro e; cases e; omega)); have XB3 := kp (XB2.out.grown hg3 (by omega) (by intro k e; cases e; exact hgp9))
         have hy3 := Nat.le_of_eq hz3.symm
         clear hk3 hg3 hz3)
      | ((with_reducible show wpList _ _ _ (⟨none, _, _, _, _, _⟩ :: _) _ _); (refine wpList_store_blk rfl 29 (.tmp 10) (.tmp 38) rfl gp10 [.int .i64 ((0 : Nat) : Int), .int .i64 ((0 : Nat) : Int)] rfl rfl _ _ Ksc.out spot_size rfl (spot_ones _ _) ?_); intro w5 hk4 hg4 hz4
         have KS10 := kp hk4; have KP9 := kp (Kpc.out.grown hg4 (by intro e; cases e; omega)); have XB4 := kp (XB3.out.grown hg4 (by omega) (by intro k e; cases e; omega))
         have HW5 : Kept (Below w.heap.size w w5) := kp (HW4.out.trans (XB4.out.mono hs4))
         have hs5 := HW5.out.size; have hb45 := XB4.out.size
         have HBL5 := kp XB4.out
         have HA3_5 := kp (HA3_4.out.trans (HBL5.out.mono HA3_4.out.size))
         have HA4_5 := kp (HA4_4.out.trans (HBL5.out.mono HA4_4.out.size))
         clear hk4 hg4 hz4 XB1 XB2 XB3 XB4 Kpa Kpb Kpc Ksb Ksc xs1 xs2 xl1 xl2)
      | ((with_reducible show wpList _ _ _ (⟨some 47, _, _, _, _, _⟩ :: _) _ _); go_must (refine wpList_slice_front rfl 22 (.tmp 45) (.tmp 46) rfl 5 Try.underlying22 size1b A3 n c3 rfl .i64 k rfl (by omega) ?_))
      | (go_at_call 8; fail))

    have HA5_5 : Kept (Below w5.heap.size w5 w5) := kp (Below.refl _ _)
    have HRw5 := kp (HR3.out.below HA3_5.out)
    have hz35 := HA3_5.out.size
    refine (pc_read A3 k c3 (l.take k) w5 ((HRw5.out.take (Nat.le_of_lt hkn)).more hz35) (fun x hx => HLb.out x (List.mem_of_mem_take hx)) (by unfold maxLen; omega) C.none_ at_ 2 HRe1.out).mono ?_
    rintro e w6 ⟨q2, rfl, hpok, hpd, hps, hbr⟩
    have HOkq2 := kp hpok; have HDtq2 := kp hpd
    have HW6 : Kept (Below w.heap.size w w6) := kp (HW5.out.trans (hbr.mono hs5))
    have hs6 := HW6.out.size
    have HA3_6 := kp (HA3_5.out.trans (hbr.mono HA3_5.out.size))
    have HA4_6 := kp (HA4_5.out.trans (hbr.mono HA4_5.out.size))
    have HA5_6 := kp (HA5_5.out.trans (hbr.mono HA5_5.out.size))
    clear hpok hpd hps hbr
    go_wp2_with (first
      | ((with_reducible show wpList _ _ _ (⟨some 12, _, _, _, _, _⟩ :: _) _ _); go_must (refine wpList_alloc_zero rfl 26 rfl _ pcp_zero ?_); intro gp12 x1 hgp12 hk1 hx1; have Kpa := kp hk1; have XB1 := kp hx1; have xs1 := hx1.size; have xl1 := hk1.lt; clear hk1 hx1)
      | ((with_reducible show wpList _ _ _ (⟨some 13, _, _, _, _, _⟩ :: _) _ _); go_must (refine wpList_alloc_zero rfl 29 rfl _ spot_zero ?_); intro gp13 x2 hgp13 hk2 hx2; have Ksb := kp hk2; have Kpb := kp (Kpa.out.below hx2 xl1); have XB2 := kp (XB1.out.trans (hx2.mono xs1)); have xs2 := hx2.size; have xl2 := hk2.lt; clear hk2 hx2)
      | ((with_reducible show wpList _ _ _ (⟨none, _, _, _, _, _⟩ :: _) _ _); (refine wpList_store_blk rfl 26 (.tmp 12) (.tmp 49) rfl gp12 (pgC q2) rfl rfl _ _ Kpb.out pg_size rfl (pcp_ones q2) ?_); intro x3 hk3 hg3 hz3
         have Kpc := kp hk3; have Ksc := kp (Ksb.out.grown hg3 (by intro e; cases e; omega)); have XB3 := kp (XB2.out.grown hg3 (by omega) (by intro k e; cases e; exact hgp12))
         have hy3 := Nat.le_of_eq hz3.symm
         clear hk3 hg3 hz3)
      | ((with_reducible show wpList _ _ _ (⟨none, _, _, _, _, _⟩ :: _) _ _); (refine wpList_store_blk rfl 29 (.tmp 13) (.tmp 50) rfl gp13 [.int .i64 (at_ : Int), .int .i64 ((2 : Nat) : Int)] rfl rfl _ _ Ksc.out spot_size rfl (spot_ones _ _) ?_); intro w7 hk4 hg4 hz4
         have KS13 := kp hk4; have KP12 := kp (Kpc.out.grown hg4 (by intro e; cases e; omega)); have XB4 := kp (XB3.out.grown hg4 (by omega) (by intro k e; cases e; omega))
         have HW7 : Kept (Below w.heap.size w w7) := kp (HW6.out.trans (XB4.out.mono hs6))
         have hs7 := HW7.out.size; have hb67 := XB4.out.size
         have HBL7 := kp XB4.out
         have HA3_7 := kp (HA3_6.out.trans (HBL7.out.mono HA3_6.out.size))
         have HA4_7 := kp (HA4_6.out.trans (HBL7.out.mono HA4_6.out.size))
         have HA5_7 := kp (HA5_6.out.trans (HBL7.out.mono HA5_6.out.size))
         have HO0c := kp (Own.new w7 w7.heap.size 5 [] (Nat.le_refl _) (by simp [maxLen]))
         have HB7b : Kept (Below w7.heap.size w7 (w7.alloc (.cells #[] 5))) := kp ((Below.refl _ _).alloc (Nat.le_refl _) (.cells #[] 5))
         have HRw7 := kp ((HR3.out.below HA3_7.out).below (w' := w7.alloc (.cells #[] 5)) ((Below.refl _ _).alloc (HA3_7.out.size) _))
         clear hk4 hg4 hz4 XB1 XB2 XB3 XB4 Kpa Kpb Kpc Ksb Ksc xs1 xs2 xl1 xl2)
      | ((with_reducible show wpList _ _ _ (⟨some 54, _, _, _, _, _⟩ :: _) _ _); go_must (refine wpList_append_row rfl (.tmp 52) (.tmp 53) 22 rfl w7.heap.size 5 _ _ Try.underlying22 byte_info rfl _ (.slice (some ⟨w7.heap.size, 0, none⟩) 0 0) [] rfl HO0c.out A3 n c3 _ _ rfl HRw7.out.vals (ones _ one_byteV _) (by simp [maxLen]; omega) (by simp; omega) HB7b.out.size ?_); intro v54 w8 hown8 hg8
         have HB8 : Kept (Below w7.heap.size w7 w8) := kp (hg8.below HB7b.out HO0c.out HB7b.out.size)
         rw [List.nil_append] at hown8
         have HO8 := kp hown8
         obtain ⟨A54, c54, e54, hc54, hm54, _⟩ := Own.readsN hown8 HN.out
         subst e54
         clear hown8 hg8)
      | ((with_reducible show wpList _ _ _ (⟨some 57, _, _, _, _, _⟩ :: _) _ _); go_must (refine wpList_append_one rfl (.tmp 54) (.tmp 56) 22 rfl w7.heap.size 5 _ _ Try.underlying22 byte_info rfl w8 _ _ _ rfl HO8.out _ 1 rfl rfl rfl (by simp [maxLen, HN.out]; omega) (by simp [HN.out]; omega) HB8.out.size ?_); intro v57 w9 hown9 hg9
         have hown9' : Own w9 w7.heap.size 5 v57 ((l ++ [mo]).map byteV) := by rw [List.map_append]; exact hown9
         obtain ⟨A57, c57, e57, hc57, hm57, hr57⟩ := Own.readsN hown9' (n := n + 1) (by rw [List.length_append, HN.out]; rfl)
         have HR57 := kp hr57
         have HB9 : Kept (Below w7.heap.size w7 w9) := kp (hg9.below HB8.out HO8.out HB8.out.size)
         have HW9 : Kept (Below w.heap.size w w9) := kp (HW7.out.trans (HB9.out.mono hs7))
         have hs9 := HW9.out.size
         subst e57
         clear hown9 hown9' hg9 hm57 hr57)
      | (go_at_call 8; fail))

    have HA7_7 : Kept (Below w7.heap.size w7 w7) := kp (Below.refl _ _)
    have HA3_9 := kp (HA3_7.out.trans (HB9.out.mono HA3_7.out.size))
    have HA4_9 := kp (HA4_7.out.trans (HB9.out.mono HA4_7.out.size))
    have HA5_9 := kp (HA5_7.out.trans (HB9.out.mono HA5_7.out.size))
    have HA7_9 := kp (HA7_7.out.trans (HB9.out.mono HA7_7.out.size))
    refine (pc_read A57 (n + 1) c57 (l ++ [mo]) w9 HR57.out (fun x hx => by rcases List.mem_append.1 hx with h | h; exact HLb.out x h; rw [List.mem_singleton] at h; subst h; exact hmo) (by unfold maxLen; omega) C.none_ n 7 HRe2.out).mono ?_
    rintro e w10 ⟨q3, rfl, hpok, hpd, hps, hbr⟩
    have HOkq3 := kp hpok; have HDtq3 := kp hpd
    have HW10 : Kept (Below w.heap.size w w10) := kp (HW9.out.trans (hbr.mono hs9))
    have hs10 := HW10.out.size
    have HA3_10 := kp (HA3_9.out.trans (hbr.mono HA3_9.out.size))
    have HA4_10 := kp (HA4_9.out.trans (hbr.mono HA4_9.out.size))
    have HA5_10 := kp (HA5_9.out.trans (hbr.mono HA5_9.out.size))
    have HA7_10 := kp (HA7_9.out.trans (hbr.mono HA7_9.out.size))
    clear hpok hpd hps hbr
    go_wp2_with (first
      | ((with_reducible show wpList _ _ _ (⟨some 14, _, _, _, _, _⟩ :: _) _ _); go_must (refine wpList_alloc_zero rfl 26 rfl _ pcp_zero ?_); intro gp14 x1 hgp14 hk1 hx1; have Kpa := kp hk1; have XB1 := kp hx1; have xs1 := hx1.size; have xl1 := hk1.lt; clear hk1 hx1)
      | ((with_reducible show wpList _ _ _ (⟨some 15, _, _, _, _, _⟩ :: _) _ _); go_must (refine wpList_alloc_zero rfl 29 rfl _ spot_zero ?_); intro gp15 x2 hgp15 hk2 hx2; have Ksb := kp hk2; have Kpb := kp (Kpa.out.below hx2 xl1); have XB2 := kp (XB1.out.trans (hx2.mono xs1)); have xs2 := hx2.size; have xl2 := hk2.lt; clear hk2 hx2)
      | ((with_reducible show wpList _ _ _ (⟨none, _, _, _, _, _⟩ :: _) _ _); (refine wpList_store_blk rfl 26 (.tmp 14) (.tmp 59) rfl gp14 (pgC q3) rfl rfl _ _ Kpb.out pg_size rfl (pcp_ones q3) ?_); intro x3 hk3 hg3 hz3
         have Kpc := kp hk3; have Ksc := kp (Ksb.out.grown hg3 (by intro e; cases e; omega)); have XB3 := kp (XB2.out.grown hg3 (by omega) (by intro k e; cases e; exact hgp14))
         have hy3 := Nat.le_of_eq hz3.symm
         clear hk3 hg3 hz3)
      | ((with_reducible show wpList _ _ _ (⟨none, _, _, _, _, _⟩ :: _) _ _); (refine wpList_store_blk rfl 29 (.tmp 15) (.tmp 60) rfl gp15 [.int .i64 (n : Int), .int .i64 ((7 : Nat) : Int)] rfl rfl _ _ Ksc.out spot_size rfl (spot_ones _ _) ?_); intro w11 hk4 hg4 hz4
         have KS15 := kp hk4; have KP14 := kp (Kpc.out.grown hg4 (by intro e; cases e; omega)); have XB4 := kp (XB3.out.grown hg4 (by omega) (by intro k e; cases e; omega))
         have HW11 : Kept (Below w.heap.size w w11) := kp (HW10.out.trans (XB4.out.mono hs10))
         have hs11 := HW11.out.size; have hb1011 := XB4.out.size
         have HBL11 := kp XB4.out
         have HA3_11 := kp (HA3_10.out.trans (HBL11.out.mono HA3_10.out.size))
         have HA4_11 := kp (HA4_10.out.trans (HBL11.out.mono HA4_10.out.size))
         have HA5_11 := kp (HA5_10.out.trans (HBL11.out.mono HA5_10.out.size))
         have HA7_11 := kp (HA7_10.out.trans (HBL11.out.mono HA7_10.out.size))
         obtain ⟨hp0, hp1, hp2, hp3⟩ := pg_cells (HKc.out.below HA3_11.out HKc.out.lt)
         obtain ⟨hq0, hq1, hq2, hq3⟩ := pg_cells (KP9.out.below HA5_11.out KP9.out.lt)
         have he0 : w11.cell? ⟨gp10, 0, none⟩ = some (.int .i64 ((0 : Nat) : Int)) := (KS10.out.below HA5_11.out KS10.out.lt).cell 0
         have he1 : w11.cell? ⟨gp10, 1, none⟩ = some (.int .i64 ((0 : Nat) : Int)) := (KS10.out.below HA5_11.out KS10.out.lt).cell 1
         clear hk4 hg4 hz4 XB1 XB2 XB3 XB4 Kpa Kpb Kpc Ksb Ksc xs1 xs2 xl1 xl2)
      | (go_at_call 10; fail))

    have hz411 := HA4_11.out.size
    have hz4w := HW4.out.size
    refine (ref_same w4.heap.size pg0 q w11 (pg_more2 (HP.out.below HW11.out) hz4w) (HOkq.out.below HA4_11.out) hz411 true ⟨fun _ => C.same_iff.2 (by rw [HD.out, HDtq.out]), fun _ => rfl⟩).mono ?_
    rintro e w12 ⟨rfl, hb12⟩
    have HW12 : Kept (Below w.heap.size w w12) := kp (HW11.out.trans (hb12.mono hs11))
    have hf0 : w12.cell? ⟨gp13, 0, none⟩ = some (.int .i64 (at_ : Int)) := ((KS13.out.below HA7_11.out KS13.out.lt).below hb12 (KS13.out.below HA7_11.out KS13.out.lt).lt).cell 0
    have hf1 : w12.cell? ⟨gp13, 1, none⟩ = some (.int .i64 ((2 : Nat) : Int)) := ((KS13.out.below HA7_11.out KS13.out.lt).below hb12 (KS13.out.below HA7_11.out KS13.out.lt).lt).cell 1
    have hg0 : w12.cell? ⟨gp15, 0, none⟩ = some (.int .i64 (n : Int)) := (KS15.out.below hb12 KS15.out.lt).cell 0
    have hg1' : w12.cell? ⟨gp15, 1, none⟩ = some (.int .i64 ((7 : Nat) : Int)) := (KS15.out.below hb12 KS15.out.lt).cell 1
    have hda : decide (at_ ≤ k) = true := decide_eq_true hat
    clear hb12 hp0 hp1 hp2 hp3 hq0 hq1 hq2 hq3 he0 he1
    go_wp2
    go_ret
    exact ⟨rfl, HW12.out⟩
  · have hcb : ((c : Int) != 0) = true := by rw [bne_iff_ne]; omega
    have HC := kp hc
    have HCz := kp hcz
    clear hc hcz
    go_enter Try.func4, Try.ntmps4
    go_wp2_with (first
      | ((with_reducible refine wpList_box_agg rfl 26 (.tmp 0) rfl (pgC pg0) rfl ?_); intro g1 u1 hg1 hk1 hu1; have HK1 := kp hk1; have HU1 := kp hu1; have hz1 := hu1.size; clear hg1 hk1 hu1)
      | fail)
    refine (pc_awake u1).mono ?_
    rintro e w1 ⟨rfl, hb1⟩
    have HW1 : Kept (Below w.heap.size w w1) := kp (HU1.out.trans (hb1.mono hz1))
    have hs1 := HW1.out.size
    have HKa := kp (HK1.out.below hb1 HK1.out.lt)
    obtain ⟨hc0, hc1, hc2, hc3⟩ := pg_cells HKa.out
    clear hb1
    go_wp2_with fail
    refine (ref_small _ pg0 w1 (HP.out.below HW1.out) hs1 _ HR.out).mono ?_
    rintro e w2 ⟨rfl, hb2⟩
    have HW2 : Kept (Below w.heap.size w w2) := kp (HW1.out.trans (hb2.mono hs1))
    have hs2 := HW2.out.size
    have HKb := kp (HKa.out.below hb2 HKa.out.lt)
    clear hb2 hc0 hc1 hc2 hc3
    go_wp2_with (first
      | ((with_reducible show wpList _ _ _ (⟨some 25, _, _, _, _, _⟩ :: _) _ _); go_must (refine wpList_load_blk rfl 26 (.tmp 3) rfl g1 rfl _ (pgC pg0) _ HKb.out Try.underlying26 rfl pg_size ?_))
      | (go_at_call 12; fail))
    rw [← pgA_is]
    refine (pc_write_not _ pg0 w2 (HP.out.below HW2.out) hs2 HR.out a b c HC.out HCz.out).mono ?_
    rintro e w3 ⟨rfl, hb3⟩
    have HW3 : Kept (Below w.heap.size w w3) := kp (HW2.out.trans (hb3.mono hs2))
    clear hb3
    go_wp2
    go_ret
    exact ⟨rfl, HW3.out⟩
end Go.Proofs.Ytdnhfpphjpnklaa

