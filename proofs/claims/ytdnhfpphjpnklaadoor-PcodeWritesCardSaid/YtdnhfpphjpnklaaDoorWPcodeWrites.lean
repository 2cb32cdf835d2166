/- PcodeWrites, walked. -/
import Derived.Test.YtdnhfpphjpnklaaDoorPk11
import Derived.Test.YtdnhfpphjpnklaaDoorPcodeRefW
import Derived.Test.YtdnhfpphjpnklaaDoorPcodeDig
import Derived.Test.YtdnhfpphjpnklaaDoorProgRef5
import Derived.Test.YtdnhfpphjpnklaaDoorShaRef4
import Derived.Test.YtdnhfpphjpnklaaDoorPk5
namespace Go.Proofs.YtdnhfpphjpnklaaDoor
open Go.RowKit

/-- Such a block read whole, under a guard. -/
theorem wpList_load_blk_want {P : Program} {ops : Array Oper} {rest : List Oper} {o : Oper} {a : Act} {w : World} {Q : Exit → Act → World → Prop} (hgd : Region.wanted o (yielded ops a.tmps) = true) (ty : TypeId) (x : Operand) (ho : o.op = .load ty x)
    (g : Nat) (hx : a.eval x = .pointer (some ⟨g, 0, none⟩)) (t : TypeId) (cs : List Value) (d : TypeDesc) (hg : Blk w g t cs)
    (hu : P.underlying ty = some d) (hd : (match d with | .struct _ | .array _ _ => true | _ => false) = true) (hi : (P.info? ty).map (·.size) = some cs.length)
    (h : wpList P ops Q rest (a.put o.dst (.agg cs.toArray)) w) : wpList P ops Q (o :: rest) a w := by
  exact BigFrame.wpList_want hgd fun _ hK => wp_load_row ty x ho g hx t cs.toArray (0, 0) d hg hu hd (by simpa using hi) (hK _ _ h)
/-- The zero of an array, under a guard. -/
theorem wpList_build_zero_want {P : Program} {ops : Array Oper} {rest : List Oper} {o : Oper} {a : Act} {w : World} {Q : Exit → Act → World → Prop} (hgd : Region.wanted o (yielded ops a.tmps) = true) (ty : TypeId) (ho : o.op = .build ty #[])
    (cs : List Value) (n : Nat) (e : TypeId) (hu : P.underlying ty = some (.array n e)) (he : ((P.info? e).map (·.size)).isSome = true) (hz : (P.info? ty).map (·.zero) = some (some (.agg cs.toArray)))
    (h : wpList P ops Q rest (a.put o.dst (.agg cs.toArray)) w) : wpList P ops Q (o :: rest) a w := by
  refine BigFrame.wpList_want hgd fun K hK => ?_
  cases hq : P.info? ty with
  | none => simp [hq] at hz
  | some i =>
    have hz' : i.zero = some (.agg cs.toArray) := by simpa [hq] using hz
    cases hqe : P.info? e with
    | none => simp [hqe] at he
    | some ie =>
      unfold Oper.wp
      simp [execOp, ho, Instr.build, zeroValue, typeInfo, sizeOf, hq, hqe, hz', run_underlying hu, Instr.fill, Value.cells, Result.andThen]
      exact hK _ _ h

open Classical in
set_option maxRecDepth 1000000 in
set_option maxHeartbeats 8000000 in
theorem walkPcodeWrites (pg0 : Pg) (w : World) (w0 : pg0.Ok w w.heap.size) (hL : Row wordV w 1 (some ⟨0, 0, none⟩) 64 H.K) :
    Calls Tryd.prog 3 #[pgA pg0] w fun e w' => e = .returned (.bool true) ∧ Below w.heap.size w w' := by
  have HP := kp w0; have HKey := kp hL
  have hkey := keys_size hL
  clear w0 hL
  obtain ⟨r, hr⟩ : ∃ r, Q.small pg0 = r := ⟨_, rfl⟩
  have HR := kp hr
  clear hr
  rw [pgA_is]
  cases r
  · go_enter Tryd.func3, Tryd.ntmps3
    go_wp2_with (first
      | ((with_reducible refine wpList_box_agg rfl 24 (.tmp 0) rfl (pgC pg0) rfl ?_); intro g1 u1 hg1 hk1 hu1; have HK1 := kp hk1; have HU1 := kp hu1; have hz1 := hu1.size; clear hg1 hk1 hu1)
      | fail)
    refine (pc_awake u1).mono ?_
    rintro e w1 ⟨rfl, hb1⟩
    have HW1 : Kept (Below w.heap.size w w1) := kp (HU1.out.trans (hb1.mono hz1))
    have hs1 := HW1.out.size
    have HKa := kp (HK1.out.below hb1 HK1.out.lt)
    obtain ⟨hc0, hc1, hc2, hc3⟩ := pg_cells HKa.out
    clear hb1
    go_wp2_with fail
    refine (ref_small _ pg0 w1 (HP.out.below HW1.out) hs1 _ HR.out).mono ?_
    rintro e w2 ⟨rfl, hb2⟩
    have HW2 : Kept (Below w.heap.size w w2) := kp (HW1.out.trans (hb2.mono hs1))
    have hs2 := HW2.out.size
    have HKb := kp (HKa.out.below hb2 HKa.out.lt)
    clear hb2 hc0 hc1 hc2 hc3
    go_wp2_with fail
    refine (pc_awake w2).mono ?_
    rintro e w9 ⟨rfl, hb9⟩
    have HW9 := kp (HW2.out.trans (hb9.mono hs2))
    clear hb9
    go_wp2
    go_ret
    exact ⟨rfl, HW9.out⟩
  obtain ⟨a, b, c, hc⟩ : ∃ a b c, Q.check pg0 = (a, b, c) := ⟨_, _, _, rfl⟩
  by_cases hcz : c = 0
  · subst hcz
    have hok := C.fine_ok HP.out.row.len (fine_of hc)
    have hle := C.pgB_le hok
    have hby := C.pgB_small (C.dataOf pg0)
    have HOk := kp hok; have HC := kp hc
    obtain ⟨l, hl⟩ : ∃ l, C.pgB (C.dataOf pg0) = l := ⟨_, rfl⟩
    have HL := kp hl
    rw [hl] at hle hby
    have HBy := kp hby
    obtain ⟨n, hn⟩ : ∃ n, l.length = n := ⟨_, rfl⟩
    have HN := kp hn
    rw [hn] at hle
    obtain ⟨dig, hd⟩ : ∃ dig, H.digest l = dig := ⟨_, rfl⟩
    have HDl : Kept (dig.length = 32) := kp (by rw [← hd]; exact digest_len _)
    have HD := kp hd
    have HDp : Kept (H.digest (C.pgB (C.dataOf pg0)) = dig) := kp (by rw [hl]; exact hd)
    have HLe : Kept ((C.pgB (C.dataOf pg0)).length ≤ 65536) := kp (by rw [hl, hn]; omega)
    clear hok hby hc hl hn hd
    go_enter Tryd.func3, Tryd.ntmps3
    go_wp2_with (first
      | ((with_reducible refine wpList_box_agg rfl 24 (.tmp 0) rfl (pgC pg0) rfl ?_); intro g1 u1 hg1 hk1 hu1; have HK1 := kp hk1; have HU1 := kp hu1; have hz1 := hu1.size; clear hg1 hk1 hu1)
      | fail)
    refine (pc_awake u1).mono ?_
    rintro e w1 ⟨rfl, hb1⟩
    have HW1 : Kept (Below w.heap.size w w1) := kp (HU1.out.trans (hb1.mono hz1))
    have hs1 := HW1.out.size
    have HKa := kp (HK1.out.below hb1 HK1.out.lt)
    obtain ⟨hc0, hc1, hc2, hc3⟩ := pg_cells HKa.out
    clear hb1
    go_wp2_with fail
    refine (ref_small _ pg0 w1 (HP.out.below HW1.out) hs1 _ HR.out).mono ?_
    rintro e w2 ⟨rfl, hb2⟩
    have HW2 : Kept (Below w.heap.size w w2) := kp (HW1.out.trans (hb2.mono hs1))
    have hs2 := HW2.out.size
    have HKb := kp (HKa.out.below hb2 HKa.out.lt)
    clear hb2 hc0 hc1 hc2 hc3
    go_wp2_with (first
      | ((with_reducible show wpList _ _ _ (⟨some 20, _, _, _, _, _⟩ :: _) _ _); go_must (refine wpList_load_blk rfl 24 (.tmp 1) rfl g1 rfl _ (pgC pg0) _ HKb.out Tryd.underlying24 rfl pg_size ?_))
      | (go_at_call 6; fail))
    rw [← pgA_is]
    refine (pc_write _ pg0 w2 (HP.out.below HW2.out) hs2 HR.out a b HC.out).mono ?_
    rintro e w3 ⟨v, rfl, hown, hb3⟩
    rw [HL.out] at hown
    obtain ⟨A1, c1, rfl, hc1, hm1, hr1⟩ := Own.readsN hown HN.out
    have HR3 := kp hr1
    have HW3 : Kept (Below w.heap.size w w3) := kp (HW2.out.trans (hb3.mono hs2))
    have hs3 := HW3.out.size
    have HKc := kp (HKb.out.below hb3 HKb.out.lt)
    clear hb3
    clear hown hr1
    go_wp2_with (first
      | ((with_reducible show wpList _ _ _ (⟨some 25, _, _, _, _, _⟩ :: _) _ _); go_must (refine wpList_load_blk rfl 24 (.tmp 1) rfl g1 rfl _ (pgC pg0) _ HKc.out Tryd.underlying24 rfl pg_size ?_))
      | (go_at_call 7; fail))
    rw [← pgA_is]
    refine (pc_digest _ pg0 w3 (HP.out.below HW3.out) hs3 HR.out a b HC.out (HKey.out.below (HW3.out.mono hkey)) dig HDp.out HLe.out).mono ?_
    rintro e w4 ⟨rfl, hb4⟩
    have HR4 := kp (HR3.out.below hb4)
    have hs34 := hb4.size
    have HW4 : Kept (Below w.heap.size w w4) := kp (HW3.out.trans (hb4.mono hs3))
    have hs4 := HW4.out.size
    have HKd := kp (HKc.out.below hb4 HKc.out.lt)
    clear hb4
    go_wp2_with (first
      | ((with_reducible show wpList _ _ _ (⟨some 5, _, _, _, _, _⟩ :: _) _ _); go_must (refine wpList_alloc_zero rfl 31 rfl _ zero32 ?_); intro g5 w5 hg5 hk5 hw5
         have HD5 := kp hk5; have HW5 : Kept (Below w.heap.size w w5) := kp (HW4.out.trans (hw5.mono hs4)); have hs5 := HW5.out.size; have HKe := kp (HKd.out.below hw5 HKd.out.lt); have hg5' : w.heap.size ≤ g5 := Nat.le_trans hs4 hg5
         have hgne : g1 ≠ g5 := by have := HKd.out.lt; omega
         have HR5 := kp (HR4.out.below (hw5.mono hs34)); have hs35 := Nat.le_trans hs34 hw5.size; have hg35 := Nat.le_trans hs34 hg5
         clear hk5 hw5 hg5)
      | ((with_reducible show wpList _ _ _ (⟨none, _, _, _, _, _⟩ :: _) _ _); (refine wpList_store_blk rfl 31 (.tmp 5) (.tmp 27) rfl g5 (dig.map byteV) rfl rfl _ _ HD5.out (size32.trans (by rw [List.length_map, HDl.out])) (by rw [List.length_map, List.length_map, HDl.out]; rfl) (ones _ one_byteV _) ?_); intro w6 hk6 hg6 hz6
         have HDk6 := kp hk6; have HW6 : Kept (Below w.heap.size w w6) := kp (HW5.out.grown hg6 hs5 (by intro k e; cases e; exact hg5')); have hs6 := HW6.out.size; have HKf := kp (HKe.out.grown hg6 (by intro e; cases e; exact hgne rfl))
         have HR6 := kp (HR5.out.below ((Below.refl w3.heap.size w5).grown hg6 hs35 (by intro k e; cases e; exact hg35)))
         have hs36 : w3.heap.size ≤ w6.heap.size := by omega
         clear hk6 hg6 hz6)
      | ((with_reducible show wpList _ _ _ (⟨some 30, _, _, _, _, _⟩ :: _) _ _); go_must (refine wpList_load_blk rfl 24 (.tmp 1) rfl g1 rfl _ (pgC pg0) _ HKf.out Tryd.underlying24 rfl pg_size ?_))
      | (go_at_call 8; fail))
    rw [← pgA_is]
    refine (ref_check _ pg0 w6 (HP.out.below HW6.out) hs6 a b 0 HC.out).mono ?_
    rintro e w7 ⟨rfl, hb7⟩
    have HR7 := kp (HR6.out.below (hb7.mono hs36))
    have hs37 := Nat.le_trans hs36 hb7.size
    have HW7 : Kept (Below w.heap.size w w7) := kp (HW6.out.trans (hb7.mono hs6))
    have hs7 := HW7.out.size
    have HKg := kp (HKf.out.below hb7 HKf.out.lt)
    have HDk7 := kp (HDk6.out.below hb7 HDk6.out.lt)
    clear hb7
    go_wp2_with (first
      | ((with_reducible show wpList _ _ _ (⟨some 55, _, _, _, _, _⟩ :: _) _ _); go_must (refine wpList_load_blk rfl 24 (.tmp 1) rfl g1 rfl _ (pgC pg0) _ HKg.out Tryd.underlying24 rfl pg_size ?_))
      | (go_at_call 9; fail))
    rw [← pgA_is]
    refine (ref_write _ pg0 w7 (HP.out.below HW7.out) hs7 HOk.out).mono ?_
    rintro e w8 ⟨v8, rfl, hown8, hb8⟩
    rw [HL.out] at hown8
    obtain ⟨A8, c8, rfl, hc8, hm8, hr8⟩ := Own.readsN hown8 HN.out
    have HRw := kp hr8
    have HR8 := kp (HR7.out.below (hb8.mono hs37))
    have hs38 := Nat.le_trans hs37 hb8.size
    have HD8 := kp (HDk7.out.below hb8 HDk7.out.lt)
    have HW8 : Kept (Below w.heap.size w w8) := kp (HW7.out.trans (hb8.mono hs7))
    have hs8 := HW8.out.size
    have hse : ((strOf l).toList == (strOf l).toList) = true := beq_self_eq_true _
    clear hb8 hr8 hown8
    go_wp2
    apply region_list (.is _ :: .is _ :: .is _ :: .is _ :: .is _ :: .is _ :: .is _ :: .is _ :: .is _ :: .is _ :: .is _ :: .is (.bool true) :: .is _ :: .is _ :: .is _ :: .is _ :: .is _ :: .is _ :: .is _ :: .is _ :: [])
      [[], [(0, 57)], [(1, 58)], [(2, 59)], [(3, 60), (2, 59)], [(2, 59), (4, 61)], [(5, 62)], [(6, 63)], [(7, 64), (6, 63)], [(6, 63)], [(9, 66), (6, 63)], [(8, 65), (10, 67), (6, 63)], [(6, 63), (11, 68)], [(12, 69)], [(13, 70)], [(13, 70)], [(15, 72), (13, 70)], [(14, 71), (16, 73), (13, 70)], [(13, 70), (17, 74)], [(18, 75)]]
      [(0, 57), (1, 58), (2, 59), (3, 60), (4, 61), (5, 62), (6, 63), (7, 64), (8, 65), (9, 66), (10, 67), (11, 68), (12, 69), (13, 70), (14, 71), (15, 72), (16, 73), (17, 74), (18, 75), (19, 2)] (by kernel_rfl) (by kernel_rfl)
    case hob =>
      refine ⟨?o0, ?o1, ?o2, ?o3, ?o4, ?o5, ?o6, ?o7, ?o8, ?o9, ?o10, ?o11, ?o12, ?o13, ?o14, ?o15, ?o16, ?o17, ?o18, ?o19, trivial⟩
      case o0 => intro W hW; change wpList _ _ _ _ _ _; go_wp2; exact pure_post rfl rfl rfl
      case o1 => intro W hW; rintro _ rfl; change wpList _ _ _ _ _ _; go_wp2; exact pure_post rfl rfl rfl
      case o2 => intro W hW; rintro _ rfl; change wpList _ _ _ _ _ _; go_wp2; exact pure_post rfl rfl rfl
      case o3 => intro W hW; rintro _ rfl; change wpList _ _ _ _ _ _; go_wp2; exact pure_post rfl rfl rfl
      case o4 => intro W hW; rintro _ rfl; rintro _ rfl; change wpList _ _ _ _ _ _; go_wp2; exact pure_post rfl rfl rfl
      case o5 => intro W hW; rintro _ rfl; rintro _ rfl; change wpList _ _ _ _ _ _; go_wp2; exact pure_post rfl rfl rfl
      case o6 => intro W hW; rintro _ rfl; change wpList _ _ _ _ _ _; go_wp2; exact pure_post rfl rfl rfl
      case o7 => intro W hW; rintro _ rfl; change wpList _ _ _ _ _ _; go_wp2; exact pure_post rfl rfl rfl
      case o8 =>
        intro W hW; rintro _ rfl; rintro _ rfl; change wpList _ _ _ _ _ _
        have hcv := cvr (c := c1) (HR8.out.below (hW.mono hs38))
        go_wp2; exact pure_post rfl rfl rfl
      case o9 => intro W hW; rintro _ rfl; change wpList _ _ _ _ _ _; go_wp2; exact pure_post rfl rfl rfl
      case o10 =>
        intro W hW; rintro _ rfl; rintro _ rfl; change wpList _ _ _ _ _ _
        have hcv := cvr (c := c8) (HRw.out.below hW)
        go_wp2; exact pure_post rfl rfl rfl
      case o11 => intro W hW; rintro _ rfl; rintro _ rfl; rintro _ rfl; change wpList _ _ _ _ _ _; go_wp2; exact pure_post rfl rfl rfl
      case o12 => intro W hW; rintro _ rfl; rintro _ rfl; change wpList _ _ _ _ _ _; go_wp2; exact pure_post rfl rfl rfl
      case o13 => intro W hW; rintro _ rfl; change wpList _ _ _ _ _ _; go_wp2; exact pure_post rfl rfl rfl
      case o14 =>
        intro W hW; rintro _ rfl; change wpList _ _ _ _ _ _
        refine wpList_load_blk_want rfl 31 (.tmp 5) rfl g5 rfl _ (dig.map byteV) _ (HD8.out.below hW HD8.out.lt) Tryd.underlying31 rfl (size32.trans (by rw [List.length_map, HDl.out])) ?_
        go_wp2; exact pure_post rfl rfl rfl
      case o15 => intro W hW; rintro _ rfl; change wpList _ _ _ _ _ _; go_wp2; exact pure_post rfl rfl rfl
      case o16 =>
        intro W hW; rintro _ rfl; rintro _ rfl; change wpList _ _ _ _ _ _
        go_wp2_with fail
        refine (ref_of A8 n c8 l W ((HRw.out.below hW).more hW.size) HBy.out (by omega) dig HD.out).mono ?_
        rintro e w2 ⟨rfl, hb2⟩
        have HB2 := kp hb2; clear hb2
        go_wp2
        exact made_post rfl rfl rfl HB2.out rfl
      case o17 =>
        intro W hW; rintro _ rfl; rintro _ rfl; rintro _ rfl; change wpList _ _ _ _ _ _
        refine wpList_eql_dig_want rfl (.tmp 71) (.tmp 73) _ rfl dig HDl.out rfl rfl ?_
        go_wp2; exact pure_post rfl rfl rfl
      case o18 => intro W hW; rintro _ rfl; rintro _ rfl; change wpList _ _ _ _ _ _; go_wp2; exact pure_post rfl rfl rfl
      case o19 => intro W hW; rintro _ rfl; change wpList _ _ _ _ _ _; go_wp2; exact pure_post rfl rfl rfl
    case hend =>
      intro W hW; rintro _ rfl; rintro _ rfl; rintro _ rfl; rintro _ rfl; rintro _ rfl; rintro _ rfl; rintro _ rfl; rintro _ rfl; rintro _ rfl; rintro _ rfl; rintro _ rfl; rintro _ rfl; rintro _ rfl; rintro _ rfl; rintro _ rfl; rintro _ rfl; rintro _ rfl; rintro _ rfl; rintro _ rfl; rintro _ rfl
      simp only [given, put_lit, List.set]
      go_wp2
      go_ret
      exact ⟨rfl, HW8.out.trans (hW.mono hs8)⟩
  · have hcb : ((c : Int) != 0) = true := by rw [bne_iff_ne]; omega
    have HC := kp hc; have H0 := kp hcz
    obtain ⟨z, hz⟩ : ∃ z, dig0 = z := ⟨_, rfl⟩
    have HZl : Kept (z.length = 32) := kp (by rw [← hz]; rfl)
    have HZ : Kept ((Tryd.prog.info? 31).map (·.zero) = some (some (.agg (z.map byteV).toArray))) := kp (by rw [← hz]; exact zero32)
    have HZz := kp hz
    clear hc hcz hz
    go_enter Tryd.func3, Tryd.ntmps3
    go_wp2_with (first
      | ((with_reducible refine wpList_box_agg rfl 24 (.tmp 0) rfl (pgC pg0) rfl ?_); intro g1 u1 hg1 hk1 hu1; have HK1 := kp hk1; have HU1 := kp hu1; have hz1 := hu1.size; clear hg1 hk1 hu1)
      | fail)
    refine (pc_awake u1).mono ?_
    rintro e w1 ⟨rfl, hb1⟩
    have HW1 : Kept (Below w.heap.size w w1) := kp (HU1.out.trans (hb1.mono hz1))
    have hs1 := HW1.out.size
    have HKa := kp (HK1.out.below hb1 HK1.out.lt)
    obtain ⟨hc0, hc1, hc2, hc3⟩ := pg_cells HKa.out
    clear hb1
    go_wp2_with fail
    refine (ref_small _ pg0 w1 (HP.out.below HW1.out) hs1 _ HR.out).mono ?_
    rintro e w2 ⟨rfl, hb2⟩
    have HW2 : Kept (Below w.heap.size w w2) := kp (HW1.out.trans (hb2.mono hs1))
    have hs2 := HW2.out.size
    have HKb := kp (HKa.out.below hb2 HKa.out.lt)
    clear hb2 hc0 hc1 hc2 hc3
    go_wp2_with (first
      | ((with_reducible show wpList _ _ _ (⟨some 20, _, _, _, _, _⟩ :: _) _ _); go_must (refine wpList_load_blk rfl 24 (.tmp 1) rfl g1 rfl _ (pgC pg0) _ HKb.out Tryd.underlying24 rfl pg_size ?_))
      | (go_at_call 6; fail))
    rw [← pgA_is]
    refine (pc_write_not _ pg0 w2 (HP.out.below HW2.out) hs2 HR.out a b c HC.out H0.out).mono ?_
    rintro e w3 ⟨rfl, hb3⟩
    have HW3 : Kept (Below w.heap.size w w3) := kp (HW2.out.trans (hb3.mono hs2))
    have hs3 := HW3.out.size
    have HKc := kp (HKb.out.below hb3 HKb.out.lt)
    clear hb3
    go_wp2_with (first
      | ((with_reducible show wpList _ _ _ (⟨some 25, _, _, _, _, _⟩ :: _) _ _); go_must (refine wpList_load_blk rfl 24 (.tmp 1) rfl g1 rfl _ (pgC pg0) _ HKc.out Tryd.underlying24 rfl pg_size ?_))
      | (go_at_call 7; fail))
    rw [← pgA_is]
    refine (pc_digest_not _ pg0 w3 (HP.out.below HW3.out) hs3 HR.out a b c HC.out H0.out).mono ?_
    rw [HZz.out]
    rintro e w4 ⟨rfl, hb4⟩
    have HW4 : Kept (Below w.heap.size w w4) := kp (HW3.out.trans (hb4.mono hs3))
    have hs4 := HW4.out.size
    have HKd := kp (HKc.out.below hb4 HKc.out.lt)
    clear hb4
    go_wp2_with (first
      | ((with_reducible show wpList _ _ _ (⟨some 5, _, _, _, _, _⟩ :: _) _ _); go_must (refine wpList_alloc_zero rfl 31 rfl _ zero32 ?_); intro g5 w5 hg5 hk5 hw5
         have HD5 := kp hk5; have HW5 : Kept (Below w.heap.size w w5) := kp (HW4.out.trans (hw5.mono hs4)); have hs5 := HW5.out.size; have HKe := kp (HKd.out.below hw5 HKd.out.lt); have hg5' : w.heap.size ≤ g5 := Nat.le_trans hs4 hg5
         have hgne : g1 ≠ g5 := by have := HKd.out.lt; omega
         clear hk5 hw5 hg5)
      | ((with_reducible show wpList _ _ _ (⟨none, _, _, _, _, _⟩ :: _) _ _); (refine wpList_store_blk rfl 31 (.tmp 5) (.tmp 27) rfl g5 (z.map byteV) rfl rfl _ _ HD5.out (size32.trans (by rw [List.length_map, HZl.out])) (by rw [List.length_map, List.length_map, HZl.out]; rfl) (ones _ one_byteV _) ?_); intro w6 hk6 hg6 hz6
         have HDk6 := kp hk6; have HW6 : Kept (Below w.heap.size w w6) := kp (HW5.out.grown hg6 hs5 (by intro k e; cases e; exact hg5')); have hs6 := HW6.out.size; have HKf := kp (HKe.out.grown hg6 (by intro e; cases e; exact hgne rfl))
         clear hk6 hg6 hz6)
      | ((with_reducible show wpList _ _ _ (⟨some 30, _, _, _, _, _⟩ :: _) _ _); go_must (refine wpList_load_blk rfl 24 (.tmp 1) rfl g1 rfl _ (pgC pg0) _ HKf.out Tryd.underlying24 rfl pg_size ?_))
      | (go_at_call 8; fail))
    rw [← pgA_is]
    refine (ref_check _ pg0 w6 (HP.out.below HW6.out) hs6 a b c HC.out).mono ?_
    rintro e w7 ⟨rfl, hb7⟩
    have HW7 : Kept (Below w.heap.size w w7) := kp (HW6.out.trans (hb7.mono hs6))
    have hs7 := HW7.out.size
    have HKg := kp (HKf.out.below hb7 HKf.out.lt)
    have HDk7 := kp (HDk6.out.below hb7 HDk6.out.lt)
    clear hb7
    have hcc : ((c : Int) == (c : Int)) = true := beq_self_eq_true _
    go_wp2_with (first
      | ((with_reducible show wpList _ _ _ (⟨some 51, _, _, _, _, _⟩ :: _) _ _); go_must (refine wpList_load_blk_want rfl 31 (.tmp 5) rfl g5 rfl _ (z.map byteV) _ HDk7.out Tryd.underlying31 rfl (size32.trans (by rw [List.length_map, HZl.out])) ?_))
      | ((with_reducible show wpList _ _ _ (⟨some 52, _, _, _, _, _⟩ :: _) _ _); go_must (refine wpList_build_zero_want rfl 31 rfl _ 32 5 Tryd.underlying31 (by rw [size1b]; rfl) HZ.out ?_))
      | ((with_reducible show wpList _ _ _ (⟨some 53, _, _, _, _, _⟩ :: _) _ _); go_must (refine wpList_eql_dig_want rfl (.tmp 51) (.tmp 52) _ rfl z HZl.out rfl rfl ?_)))
    go_ret
    exact ⟨rfl, HW7.out⟩
end Go.Proofs.YtdnhfpphjpnklaaDoor
