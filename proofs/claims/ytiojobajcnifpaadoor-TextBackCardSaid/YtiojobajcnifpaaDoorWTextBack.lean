/- TextBack, walked. -/
import Derived.Test.YtiojobajcnifpaaDoorWTextCode
import Derived.Laws.Concat
namespace Go.Proofs.YtiojobajcnifpaaDoor
open Go.RowKit
set_option linter.unusedVariables false

theorem pg_mores {p : Pg} {w : World} {B B' : Nat} (h : p.Ok w B) (hB : B ≤ B') : p.Ok w B' := ⟨h.g, h.l, h.s, h.row.more hB, fun f hf => ⟨⟨(h.fns f hf).nodes.1.more hB, (h.fns f hf).nodes.2⟩, (h.fns f hf).lc, (h.fns f hf).cm, (h.fns f hf).nil⟩, h.lc, h.cm, h.nil⟩
theorem wrap_one (i : Nat) (h : i < 1000000) : wrap64 ((i : Int) + 1) = (i : Int) + 1 := by
  unfold wrap64; omega
theorem mod_three (n b : Nat) (h : n < 1000000) : ((wrap64 ((n : Int) + 1)).tmod 3 == (b : Int) % 3) = decide ((n + 1) % 3 = b % 3) := by
  rw [wrap_one n h, Int.tmod_eq_emod_of_nonneg (by omega)]
  by_cases hd : (n + 1) % 3 = b % 3
  · rw [decide_eq_true hd, beq_iff_eq]; omega
  · rw [decide_eq_false hd, beq_eq_false_iff_ne]; omega
theorem str_add (a b : List UInt8) : T.str a ++ T.str b = T.str (a ++ b) := by unfold T.str; rw [ByteArray.mk_append_mk]
theorem str_add10 (a : List UInt8) : T.str a ++ ⟨#[10]⟩ = T.str (a ++ [10]) := str_add a [10]
theorem tx_cut (L : List UInt8) (i : Nat) (x : UInt8) (h : L[i]? = some x) (h9 : i < 1000000) (wx : World) :
    (Instr.slice 9 (.string (T.str L)) (some (.int .i64 (i : Int))) (some (.int .i64 (wrap64 ((i : Int) + 1)))) none).run Tryd.prog wx = .ok (.string (T.str [x])) wx := by
  have hi : i < L.length := by by_cases hi : i < L.length; exact hi; rw [List.getElem?_eq_none (by omega)] at h; cases h
  have hw : wrap64 ((i : Int) + 1) = (i : Int) + 1 := wrap_one i h9
  rw [hw]
  have e := run_slice_string (P := Tryd.prog) wx 9 (T.str L) .i64 .i64 (i : Int) ((i : Int) + 1) Tryd.underlying9 (by omega) (by omega) (by rw [T.str_size]; omega)
  rw [e]
  have : (T.str L).extract (i : Int).toNat ((i : Int) + 1).toNat = T.str [x] := by
    have e1 : (i : Int).toNat = i := by omega
    have e2 : ((i : Int) + 1).toNat = i + 1 := by omega
    rw [e1, e2]
    unfold T.str
    rw [ByteArray.extract_mk]
    have e3 : i + 1 - i = 1 := by omega
    rw [e3, List.take_one, List.head?_drop, h]
    rfl
  rw [this]

set_option maxRecDepth 1000000 in
set_option maxHeartbeats 8000000 in
theorem walkTextBack (pg0 : Pg) (bk : Int) (w : World) (w0 : pg0.Ok w w.heap.size) (w1 : (Lit.int .u8 bk).wf = true) (hE : Env w) :
    Calls Tryd.prog 5 #[pgA pg0, .int .u8 bk] w fun e w' => e = .returned (.bool true) ∧ Below w.heap.size w w' := by
  have HP := kp w0; have HE := kp hE
  have hlen := w0.row.len
  obtain ⟨a, b, c, hc⟩ : ∃ a b c, Q.check pg0 = (a, b, c) := ⟨_, _, _, rfl⟩
  have HC := kp hc
  have hbk : 0 ≤ bk ∧ bk ≤ 255 := by simp [Lit.wf, IntKind.min, IntKind.max, IntKind.bits, IntKind.signed] at w1; omega
  have HBk := kp hbk
  clear w0 hE w1 hbk
  rw [pgA_is]
  obtain ⟨r, hr⟩ : ∃ r, Q.small pg0 = r := ⟨_, rfl⟩
  have HS := kp hr
  cases r
  · clear hr hc hlen
    go_enter Tryd.func5, Tryd.ntmps5
    go_wp2_with (first
      | ((with_reducible refine wpList_box_agg rfl 25 (.tmp 0) rfl (pgC pg0) rfl ?_); intro g1 w1 hg1 hk1 hw1; have HK := kp hk1; have HW := kp hw1; have hs1 := hw1.size; have HE1 := kp (HE.out.on hw1); have hgl := hk1.lt; clear hk1 hw1)
      | fail)
    refine (tx_awake w1 HE1.out).mono ?_
    rintro e w2 ⟨rfl, hb⟩
    have HK2 := kp (HK.out.below hb hgl); have HW2 := kp (HW.out.trans (hb.mono hs1)); have HE2 := kp (HE1.out.on hb)
    have hs2 := HW2.out.size
    clear hb
    obtain ⟨hc0, hc1, hc2, hc3⟩ := pg_cells HK2.out
    go_wp2_with fail
    refine (ref_small _ pg0 w2 (HP.out.below HW2.out) hs2 _ HS.out).mono ?_
    rintro e w3 ⟨rfl, hb3⟩
    have HW3 := kp (HW2.out.trans (hb3.mono hs2)); have HE3 := kp (HE2.out.on hb3)
    have hs3 := HW3.out.size
    clear hb3
    go_wp2_with fail
    refine (tx_awake w3 HE3.out).mono ?_
    rintro e w4 ⟨rfl, hb4⟩
    have HW4 := kp (HW3.out.trans (hb4.mono hs3))
    clear hb4
    go_wp2
    go_ret
    exact ⟨rfl, HW4.out⟩
  · clear hr
    by_cases h0 : c = 0
    · subst h0
      have hok : C.PDOk (C.dataOf pg0) := C.fine_ok hlen (fine_of hc)
      have HOk := kp hok
      obtain ⟨L, hL⟩ : ∃ L, T.print (C.dataOf pg0) = L := ⟨_, rfl⟩
      have hck : (Q.check (C.pgOf (C.dataOf pg0))).2.2 = 0 := by have := C.check_data hlen; rw [← this, hc]
      have HB : Kept (T.parse L = (C.dataOf pg0, 0, 0)) := kp (by rw [← hL]; exact print_back hok hck)
      have hL3 : L.length ≤ 30000 := by rw [← hL]; exact print_len hok
      have HL3 := kp hL3
      obtain ⟨bn, hbn⟩ : ∃ bn : Nat, bk = bn := ⟨bk.toNat, by have := HBk.out; omega⟩
      subst hbn
      have HB2 : Kept (T.parse (T.ex bn 0 L) = (C.dataOf pg0, 0, 0)) := kp (T.parse_of hok hck (by have := T.ex_len bn L 0; omega) (by rw [T.ex_full, ← hL]; exact T.print_full hok))
      have HX2 : Kept ((T.ex bn 0 L).length ≤ 60000) := kp (by have := T.ex_len bn L 0; omega)
      have hb2 : bn ≤ 255 := by have := HBk.out; omega
      have HL := kp hL
      have hsz : (T.str L).size = L.length := T.str_size L
      clear hok hL hc hlen hck hL3
      go_enter Tryd.func5, Tryd.ntmps5
      go_wp2_with (first
        | ((with_reducible refine wpList_box_agg rfl 25 (.tmp 0) rfl (pgC pg0) rfl ?_); intro g1 w1 hg1 hk1 hw1; have HK := kp hk1; have HW := kp hw1; have hs1 := hw1.size; have HE1 := kp (HE.out.on hw1); have hgl := hk1.lt; clear hk1 hw1)
        | fail)
      refine (tx_awake w1 HE1.out).mono ?_
      rintro e w2 ⟨rfl, hb⟩
      have HK2 := kp (HK.out.below hb hgl); have HW2 := kp (HW.out.trans (hb.mono hs1)); have HE2 := kp (HE1.out.on hb)
      have hs2 := HW2.out.size
      clear hb
      obtain ⟨hc0, hc1, hc2, hc3⟩ := pg_cells HK2.out
      go_wp2_with fail
      refine (ref_small _ pg0 w2 (HP.out.below HW2.out) hs2 _ HS.out).mono ?_
      rintro e w3 ⟨rfl, hb3⟩
      have HW3 := kp (HW2.out.trans (hb3.mono hs2)); have HE3 := kp (HE2.out.on hb3)
      have hs3 := HW3.out.size
      have HK3 := kp (HK2.out.below hb3 HK2.out.lt)
      clear hb3 hc0 hc1 hc2 hc3
      go_wp2_with (first
        | ((with_reducible show wpList _ _ _ (⟨some 25, _, _, _, _, _⟩ :: _) _ _); go_must (refine wpList_load_blk rfl 25 (.tmp 2) rfl g1 rfl _ (pgC pg0) _ HK3.out Tryd.underlying25 rfl pg_size ?_))
        | (go_at_call 15; fail))
      rw [← pgA_is]
      refine (tx_print _ pg0 w3 HE3.out (HP.out.below HW3.out) hs3 a b HC.out HOk.out).mono ?_
      rintro e w4 ⟨rfl, hb4⟩
      rw [HL.out]
      have HW4 := kp (HW3.out.trans (hb4.mono hs3)); have HE4 := kp (HE3.out.on hb4)
      have hs4 := HW4.out.size
      have HK4 := kp (HK3.out.below hb4 HK3.out.lt)
      clear hb4
      go_wp2
      go_loopw [7, 8, 9] (fun v7 v8 v9 wr => ∃ i n : Nat, ∃ t0 : List UInt8, i ≤ L.length ∧ n ≤ i ∧ v9 = .int .i64 i ∧ v8 = .int .i64 n ∧ v7 = .string (T.str t0) ∧ t0 ++ T.ex bn n (L.drop i) = T.ex bn 0 L ∧ wr = w4) (fun _ _ v9 _ => L.length - (intOf v9).toNat)
      case atStart => exact ⟨0, 0, [], by omega, by omega, rfl, rfl, rfl, rfl, rfl⟩
      case round =>
        obtain ⟨i, n, t0, hi, hn, rfl, rfl, rfl, hx, hwr⟩ := hrel
        have hwr' := hwr.symm
        subst hwr'
        by_cases hlt : i < L.length
        · obtain ⟨x, hxi⟩ : ∃ x, L[i]? = some x := ⟨_, List.getElem?_eq_getElem hlt⟩
          have hL3 := HL3.out
          have hi6 : i < 1000000 := by omega
          have hcut := fun wx => tx_cut L i x hxi hi6 wx
          rw [wrap_one i hi6] at hcut
          have hlen0 : t0.length ≤ 60000 := by have := congrArg List.length hx; rw [List.length_append] at this; have := HX2.out; omega
          have hd : L.drop i = x :: L.drop (i + 1) := by rw [List.drop_eq_getElem_cons hlt]; rw [List.getElem?_eq_getElem hlt] at hxi; cases hxi; rfl
          rw [hd] at hx
          have hidx : (T.str L)[i]'(by rw [T.str_size]; exact hlt) = x := by
            have := byte_at L (k := i) (by rw [T.str_size]; exact hlt)
            rw [hxi] at this; cases this; rfl
          have HX := kp hx
          clear hx hd hxi hwr
          have hst : (T.str t0).size = t0.length := T.str_size t0
          have hsx : (T.str [x]).size = 1 := T.str_size [x]
          have hn6 : n < 1000000 := by omega
          have hmod := mod_three n bn hn6
          rw [wrap_one n hn6] at hmod
          by_cases h10 : x = 10
          · subst h10
            have hq : (((10 : UInt8).toNat : Int) == 10) = true := rfl
            by_cases hm : (n + 1) % 3 = bn % 3
            · rw [decide_eq_true hm] at hmod
              have HNx : Kept ((t0 ++ [10] ++ [10]) ++ T.ex bn (n + 1) (L.drop (i + 1)) = T.ex bn 0 L) := kp (by rw [← HX.out, T.ex, if_pos rfl, if_pos hm]; simp)
              go_wp2
              go_roundw
              case rel => exact ⟨i + 1, n + 1, t0 ++ [10] ++ [10], by omega, by omega, by go_num, by go_num, by rw [← str_add, ← str_add]; rfl, HNx.out, trivial⟩
              case measure => simp [intOf]; omega
            · rw [decide_eq_false hm] at hmod
              have HNx : Kept ((t0 ++ [10]) ++ T.ex bn (n + 1) (L.drop (i + 1)) = T.ex bn 0 L) := kp (by rw [← HX.out, T.ex, if_pos rfl, if_neg hm]; simp)
              go_wp2
              go_roundw
              case rel => exact ⟨i + 1, n + 1, t0 ++ [10], by omega, by omega, by go_num, by go_num, by rw [← str_add], HNx.out, trivial⟩
              case measure => simp [intOf]; omega
          · have hq : ((x.toNat : Int) == 10) = false := by
              rw [beq_eq_false_iff_ne]
              intro e
              apply h10
              exact UInt8.toNat_inj.1 (by show x.toNat = 10; omega)
            have HNx : Kept ((t0 ++ [x]) ++ T.ex bn n (L.drop (i + 1)) = T.ex bn 0 L) := kp (by rw [← HX.out, T.ex, if_neg h10]; simp)
            go_wp2
            go_roundw
            case rel => exact ⟨i + 1, n, t0 ++ [x], by omega, by omega, by go_num, by go_num, by rw [← str_add], HNx.out, trivial⟩
            case measure => simp [intOf]; omega
        · have hie : i = L.length := by omega
          have HX3 : Kept (t0 = T.ex bn 0 L) := kp (by rw [← hx, hie, List.drop_length]; simp [T.ex])
          clear hx hwr
          go_wp2_with fail
          refine (tx_parse L w4 HE4.out).mono ?_
          intro e w5 h5
          rw [HB.out] at h5
          obtain ⟨q, rfl, hqok, hqd, hb5⟩ := h5
          have HQ5 := kp hqok
          have HQD : Kept (C.dataOf q = C.dataOf pg0) := kp hqd
          have HW5 := kp (HW4.out.trans (hb5.mono hs4)); have HE5 := kp (HE4.out.on hb5)
          have hs5 := HW5.out.size
          have HK5 := kp (HK4.out.below hb5 HK4.out.lt)
          clear hb5 hqok hqd
          rw [pgA_is]
          go_wp2_with (first
            | ((with_reducible show wpList _ _ _ (⟨some 10, _, _, _, _, _⟩ :: _) _ _); go_must (refine wpList_alloc_zero rfl 25 rfl _ tx_pg_zero ?_); intro g10 w6 hg10 hk6 hw6; have HZ6 := kp hk6; have HW6 := kp (HW5.out.trans (hw6.mono hs5)); have HE6 := kp (HE5.out.on hw6); have HK6 := kp (HK5.out.below hw6 HK5.out.lt)
               have hs6 := HW6.out.size; have HV6 := kp hw6; have hg10' : w.heap.size ≤ g10 := Nat.le_trans hs5 hg10; have hne10 : g1 ≠ g10 := by have := HK5.out.lt; omega
               clear hk6 hw6)
            | ((with_reducible show wpList _ _ _ (⟨none, _, _, _, _, _⟩ :: _) _ _); (refine wpList_store_blk rfl 25 (.tmp 10) (.tmp 63) rfl g10 (pgC q) rfl rfl _ _ HZ6.out pg_size rfl (tx_pg_ones q) ?_); intro w7 hk7 hg7 hz7
               have HG7 := kp hk7; have HW7 : Kept (Below w.heap.size w w7) := kp (HW6.out.grown hg7 hs6 (by intro k e; cases e; exact hg10')); have HK7 := kp (HK6.out.grown hg7 (by intro e; cases e; exact hne10 rfl))
               have hb67 : Below w5.heap.size w5 w7 := HV6.out.grown hg7 HV6.out.size (by intro k e; cases e; exact hg10)
               have HV7 := kp hb67; have HE7 := kp (HE5.out.on hb67); have hs7 := HW7.out.size
               clear hk7 hg7 hz7 hb67)
            | (go_at_call 9; fail))
          rw [HX3.out]
          refine (tx_parse (T.ex bn 0 L) w7 HE7.out).mono ?_
          intro e w8 h8
          rw [HB2.out] at h8
          obtain ⟨u, rfl, huok, hud, hb8⟩ := h8
          have HU8 := kp huok
          have HUD : Kept (C.dataOf u = C.dataOf pg0) := kp hud
          have HW8 := kp (HW7.out.trans (hb8.mono hs7))
          have hs8 := HW8.out.size
          have HK8 := kp (HK7.out.below hb8 HK7.out.lt); have HG8 := kp (HG7.out.below hb8 HG7.out.lt)
          have HV8 := kp (HV7.out.trans (hb8.mono HV7.out.size))
          clear hb8 huok hud
          rw [pgA_is]
          go_wp2_with (first
            | ((with_reducible show wpList _ _ _ (⟨some 13, _, _, _, _, _⟩ :: _) _ _); go_must (refine wpList_alloc_zero rfl 25 rfl _ tx_pg_zero ?_); intro g13 w9 hg13 hk9 hw9; have HZ9 := kp hk9; have HW9 := kp (HW8.out.trans (hw9.mono hs8)); have HK9 := kp (HK8.out.below hw9 HK8.out.lt); have HG9 := kp (HG8.out.below hw9 HG8.out.lt)
               have hs9 := HW9.out.size; have HV9 := kp (HV8.out.trans (hw9.mono HV8.out.size)); have HU9 := kp hw9; have hg13' : w.heap.size ≤ g13 := Nat.le_trans hs8 hg13; have hne13 : g1 ≠ g13 := by have := HK8.out.lt; omega
               have hne13' : g10 ≠ g13 := by have := HG8.out.lt; omega
               have hg13v : w5.heap.size ≤ g13 := Nat.le_trans HV8.out.size hg13
               clear hk9 hw9)
            | ((with_reducible show wpList _ _ _ (⟨none, _, _, _, _, _⟩ :: _) _ _); (refine wpList_store_blk rfl 25 (.tmp 13) (.tmp 69) rfl g13 (pgC u) rfl rfl _ _ HZ9.out pg_size rfl (tx_pg_ones u) ?_); intro wa hka hga hza
               have HGa := kp hka; have HWa : Kept (Below w.heap.size w wa) := kp (HW9.out.grown hga hs9 (by intro k e; cases e; exact hg13'))
               have HKa := kp (HK9.out.grown hga (by intro e; cases e; exact hne13 rfl)); have HG1 := kp (HG9.out.grown hga (by intro e; cases e; exact hne13' rfl))
               have HVa := kp (HV9.out.grown hga HV9.out.size (by intro k e; cases e; exact hg13v)); have HUa := kp (HU9.out.grown hga HU9.out.size (by intro k e; cases e; exact hg13))
               have hsa := HWa.out.size
               obtain ⟨hp0, hp1, hp2, hp3⟩ := pg_cells HKa.out
               obtain ⟨hq0, hq1, hq2, hq3⟩ := pg_cells HG1.out
               clear hka hga hza)
            | (go_at_call 11; fail))
          refine (ref_same wa.heap.size pg0 q wa (pg_mores (HP.out.below HWa.out) hsa) (pg_mores (HQ5.out.below HVa.out) HVa.out.size) (Nat.le_refl _) true ⟨fun _ => C.same_iff.2 HQD.out.symm, fun _ => rfl⟩).mono ?_
          rintro e wb ⟨rfl, hbb⟩
          have HWb := kp (HWa.out.trans (hbb.mono hsa)); have HUb := kp (HUa.out.trans (hbb.mono HUa.out.size)); have hsb := HWb.out.size
          have HKb := kp (HKa.out.below hbb HKa.out.lt); have HGb := kp (HGa.out.below hbb HGa.out.lt)
          clear hbb hp0 hp1 hp2 hp3 hq0 hq1 hq2 hq3
          obtain ⟨hp0, hp1, hp2, hp3⟩ := pg_cells HKb.out
          obtain ⟨hu0, hu1, hu2, hu3⟩ := pg_cells HGb.out
          go_wp2_with fail
          refine (ref_same wb.heap.size pg0 u wb (pg_mores (HP.out.below HWb.out) hsb) (pg_mores (HU8.out.below HUb.out) HUb.out.size) (Nat.le_refl _) true ⟨fun _ => C.same_iff.2 HUD.out.symm, fun _ => rfl⟩).mono ?_
          rintro e wc ⟨rfl, hbc⟩
          have HWc := kp (HWb.out.trans (hbc.mono hsb))
          clear hbc hp0 hp1 hp2 hp3 hu0 hu1 hu2 hu3
          go_wp2
          go_ret
          exact ⟨rfl, HWc.out⟩
    · have hcb : ((c : Int) != 0) = true := by rw [bne_iff_ne]; omega
      have H0 := kp h0
      have hnil := lit_is (x := []) (s := []) rfl
      clear h0 hc hlen
      go_enter Tryd.func5, Tryd.ntmps5
      go_wp2_with (first
        | ((with_reducible refine wpList_box_agg rfl 25 (.tmp 0) rfl (pgC pg0) rfl ?_); intro g1 w1 hg1 hk1 hw1; have HK := kp hk1; have HW := kp hw1; have hs1 := hw1.size; have HE1 := kp (HE.out.on hw1); have hgl := hk1.lt; clear hk1 hw1)
        | fail)
      refine (tx_awake w1 HE1.out).mono ?_
      rintro e w2 ⟨rfl, hb⟩
      have HK2 := kp (HK.out.below hb hgl); have HW2 := kp (HW.out.trans (hb.mono hs1))
      have hs2 := HW2.out.size
      clear hb
      obtain ⟨hc0, hc1, hc2, hc3⟩ := pg_cells HK2.out
      go_wp2_with fail
      refine (ref_small _ pg0 w2 (HP.out.below HW2.out) hs2 _ HS.out).mono ?_
      rintro e w3 ⟨rfl, hb3⟩
      have HW3 := kp (HW2.out.trans (hb3.mono hs2))
      have hs3 := HW3.out.size
      have HK3 := kp (HK2.out.below hb3 HK2.out.lt)
      clear hb3 hc0 hc1 hc2 hc3
      go_wp2_with (first
        | ((with_reducible show wpList _ _ _ (⟨some 25, _, _, _, _, _⟩ :: _) _ _); go_must (refine wpList_load_blk rfl 25 (.tmp 2) rfl g1 rfl _ (pgC pg0) _ HK3.out Tryd.underlying25 rfl pg_size ?_))
        | (go_at_call 15; fail))
      rw [← pgA_is]
      refine (tx_print_not _ pg0 w3 (HP.out.below HW3.out) hs3 a b c HC.out H0.out).mono ?_
      rintro e w4 ⟨rfl, hb4⟩
      have HW4 := kp (HW3.out.trans (hb4.mono hs3))
      clear hb4
      go_wp2
      go_ret
      exact ⟨rfl, HW4.out⟩
end Go.Proofs.YtiojobajcnifpaaDoor
