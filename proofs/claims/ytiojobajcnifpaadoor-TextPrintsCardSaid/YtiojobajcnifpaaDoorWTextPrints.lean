/- TextPrints, walked (gen/l8/wprints.py writes this). -/
import Derived.Test.YtiojobajcnifpaaDoorWTextCode
import Derived.Test.YtiojobajcnifpaaDoorTextR5
namespace Go.Proofs.YtiojobajcnifpaaDoor
open Go.RowKit
set_option linter.unusedVariables false

set_option maxRecDepth 1000000 in
set_option maxHeartbeats 8000000 in
theorem walkTextPrints (pg0 : Pg) (kd : Int) (w : World) (w0 : pg0.Ok w w.heap.size) (w1 : (Lit.int .i64 kd).wf = true) (hE : Env w) :
    Calls Tryd.prog 4 #[pgA pg0, .int .i64 kd] w fun e w' => e = .returned (.bool true) ∧ Below w.heap.size w w' := by
  have HP := kp w0; have HE := kp hE
  have hlen := w0.row.len
  obtain ⟨a, b, c, hc⟩ : ∃ a b c, Q.check pg0 = (a, b, c) := ⟨_, _, _, rfl⟩
  have HC := kp hc
  have hkd : I64 kd := by unfold I64; simp [Lit.wf, IntKind.min, IntKind.max, IntKind.bits, IntKind.signed] at w1; omega
  have HKd := kp hkd
  clear w0 hE w1 hkd
  rw [pgA_is]
  obtain ⟨r, hr⟩ : ∃ r, Q.small pg0 = r := ⟨_, rfl⟩
  have HS := kp hr
  cases r
  · clear hr hc hlen
    go_enter Tryd.func4, Tryd.ntmps4
    go_wp2_with (first
      | ((with_reducible refine wpList_box_agg rfl 25 (.tmp 0) rfl (pgC pg0) rfl ?_); intro g1 w1 hg1 hk1 hw1; have HK := kp hk1; have HW := kp hw1; have hs1 := hw1.size; have HE1 := kp (HE.out.on hw1); have hgl := hk1.lt; clear hk1 hw1)
      | fail)
    refine (tx_awake w1 HE1.out).mono ?_
    rintro e w2 ⟨rfl, hb⟩
    have HK2 := kp (HK.out.below hb hgl); have HW2 := kp (HW.out.trans (hb.mono hs1)); have HE2 := kp (HE1.out.on hb)
    have hs2 := HW2.out.size
    clear hb
    obtain ⟨hc0, hc1, hc2, hc3⟩ := pg_cells HK2.out
    go_wp2_with fail
    refine (ref_small _ pg0 w2 (HP.out.below HW2.out) hs2 _ HS.out).mono ?_
    rintro e w3 ⟨rfl, hb3⟩
    have HW3 := kp (HW2.out.trans (hb3.mono hs2)); have HE3 := kp (HE2.out.on hb3)
    have hs3 := HW3.out.size
    clear hb3
    go_wp2_with fail
    refine (tx_awake w3 HE3.out).mono ?_
    rintro e w4 ⟨rfl, hb4⟩
    have HW4 := kp (HW3.out.trans (hb4.mono hs3))
    clear hb4
    go_wp2
    go_ret
    exact ⟨rfl, HW4.out⟩
  · clear hr
    by_cases h0 : c = 0
    · subst h0
      have hok : C.PDOk (C.dataOf pg0) := C.fine_ok hlen (fine_of hc)
      have HOk := kp hok
      obtain ⟨L, hL⟩ : ∃ L, T.print (C.dataOf pg0) = L := ⟨_, rfl⟩
      have HL := kp hL
      have hsl := str_is (x := L) (s := L) rfl
      clear hok hL hc hlen
      by_cases hk0 : 0 ≤ kd
      · by_cases hk9 : kd < 10
        · obtain ⟨kn, hkn⟩ : ∃ kn : Nat, kd = kn := ⟨kd.toNat, by omega⟩
          subst hkn
          have hk10 : kn < 10 := by omega
          obtain ⟨nm, hnm⟩ : ∃ nm, T.names[kn]? = some nm := ⟨_, List.getElem?_eq_getElem (show kn < T.names.length from hk10)⟩
          have HNm := kp hnm
          have HNn : Kept ((if (kn : Int) < 0 ∨ 9 < (kn : Int) then [] else T.names.getD (kn : Int).toNat []) = nm) := kp (by rw [if_neg (by omega), Int.toNat_natCast, List.getD_eq_getElem?_getD, hnm]; rfl)
          have hsn := str_is (x := nm) (s := nm) rfl
          clear hnm
          go_enter Tryd.func4, Tryd.ntmps4
          go_wp2_with (first
            | ((with_reducible refine wpList_box_agg rfl 25 (.tmp 0) rfl (pgC pg0) rfl ?_); intro g1 w1 hg1 hk1 hw1; have HK := kp hk1; have HW := kp hw1; have hs1 := hw1.size; have HE1 := kp (HE.out.on hw1); have hgl := hk1.lt; clear hk1 hw1)
            | fail)
          refine (tx_awake w1 HE1.out).mono ?_
          rintro e w2 ⟨rfl, hb⟩
          have HK2 := kp (HK.out.below hb hgl); have HW2 := kp (HW.out.trans (hb.mono hs1)); have HE2 := kp (HE1.out.on hb)
          have hs2 := HW2.out.size
          clear hb
          obtain ⟨hc0, hc1, hc2, hc3⟩ := pg_cells HK2.out
          go_wp2_with fail
          refine (ref_small _ pg0 w2 (HP.out.below HW2.out) hs2 _ HS.out).mono ?_
          rintro e w3 ⟨rfl, hb3⟩
          have HW3 := kp (HW2.out.trans (hb3.mono hs2)); have HE3 := kp (HE2.out.on hb3)
          have hs3 := HW3.out.size
          have HK3 := kp (HK2.out.below hb3 HK2.out.lt)
          clear hb3 hc0 hc1 hc2 hc3
          go_wp2_with fail
          refine (rf_names w3).mono ?_
          rintro e w4 ⟨v4, rfl, hown4, hb4⟩
          obtain ⟨A4, c4, rfl, _, _, hr4⟩ := Own.readsN (f := wordT) (l := T.names) hown4 rfl
          obtain ⟨ad, y, rfl, hab, hy, hcy⟩ := hr4.get (k := kn) (by show kn < 10; omega)
          have hy : T.names[kn]? = some y := hy
          rw [HNm.out] at hy
          cases hy
          replace hcy : w4.cell? (ad.add kn) = some (.string (T.str nm)) := hcy
          have HW4 := kp (HW3.out.trans (hb4.mono hs3)); have HE4 := kp (HE3.out.on hb4); have hs4 := HW4.out.size
          have HK4 := kp (HK3.out.below hb4 HK3.out.lt)
          have hl10 : T.names.length = 10 := rfl
          clear hown4 hr4 hb4
          go_wp2_with fail
          refine (tx_name (kn : Int) w4 HE4.out HKd.out nm HNn.out).mono ?_
          rintro e wn ⟨rfl, hwn⟩
          have hwn' := hwn.symm
          subst hwn'
          clear hcy
          go_wp2_with (first
            | ((with_reducible show wpList _ _ _ (⟨some 34, _, _, _, _, _⟩ :: _) _ _); go_must (refine wpList_load_blk rfl 25 (.tmp 2) rfl g1 rfl _ (pgC pg0) _ HK4.out Tryd.underlying25 rfl pg_size ?_))
            | (go_at_call 15; fail))
          rw [← pgA_is]
          refine (tx_print _ pg0 _ HE4.out (HP.out.below HW4.out) hs4 a b HC.out HOk.out).mono ?_
          rintro e w5 ⟨rfl, hb5⟩
          rw [HL.out]
          have HW5 := kp (HW4.out.trans (hb5.mono hs4)); have hs5 := HW5.out.size
          have HK5 := kp (HK4.out.below hb5 HK4.out.lt)
          clear hb5
          go_wp2_with (first
            | ((with_reducible show wpList _ _ _ (⟨some 39, _, _, _, _, _⟩ :: _) _ _); go_must (refine wpList_load_blk rfl 25 (.tmp 2) rfl g1 rfl _ (pgC pg0) _ HK5.out Tryd.underlying25 rfl pg_size ?_))
            | (go_at_call 16; fail))
          rw [← pgA_is]
          refine (ref_check _ pg0 w5 (HP.out.below HW5.out) hs5 a b 0 HC.out).mono ?_
          rintro e w6 ⟨rfl, hb6⟩
          have HW6 := kp (HW5.out.trans (hb6.mono hs5)); have hs6 := HW6.out.size
          have HK6 := kp (HK5.out.below hb6 HK5.out.lt)
          clear hb6
          obtain ⟨hc0, hc1, hc2, hc3⟩ := pg_cells HK6.out
          go_wp2_with fail
          refine (rf_print _ pg0 w6 (HP.out.below HW6.out) hs6 HOk.out).mono ?_
          rintro e w7 ⟨rfl, hb7⟩
          rw [HL.out]
          have HW7 := kp (HW6.out.trans (hb7.mono hs6))
          clear hb7 hc0 hc1 hc2 hc3
          go_wp2
          go_ret
          exact ⟨rfl, HW7.out⟩
        · obtain ⟨nm, hnm⟩ : ∃ nm : List UInt8, [] = nm := ⟨_, rfl⟩
          have HNn : Kept ((if kd < 0 ∨ 9 < kd then [] else T.names.getD kd.toNat []) = nm) := kp (by rw [if_pos (by omega), hnm])
          have hsn := lit_is (x := nm) (s := []) hnm.symm
          clear hnm
          go_enter Tryd.func4, Tryd.ntmps4
          go_wp2_with (first
            | ((with_reducible refine wpList_box_agg rfl 25 (.tmp 0) rfl (pgC pg0) rfl ?_); intro g1 w1 hg1 hk1 hw1; have HK := kp hk1; have HW := kp hw1; have hs1 := hw1.size; have HE1 := kp (HE.out.on hw1); have hgl := hk1.lt; clear hk1 hw1)
            | fail)
          refine (tx_awake w1 HE1.out).mono ?_
          rintro e w2 ⟨rfl, hb⟩
          have HK2 := kp (HK.out.below hb hgl); have HW2 := kp (HW.out.trans (hb.mono hs1)); have HE2 := kp (HE1.out.on hb)
          have hs2 := HW2.out.size
          clear hb
          obtain ⟨hc0, hc1, hc2, hc3⟩ := pg_cells HK2.out
          go_wp2_with fail
          refine (ref_small _ pg0 w2 (HP.out.below HW2.out) hs2 _ HS.out).mono ?_
          rintro e w3 ⟨rfl, hb3⟩
          have HW3 := kp (HW2.out.trans (hb3.mono hs2)); have HE3 := kp (HE2.out.on hb3)
          have hs3 := HW3.out.size
          have HK3 := kp (HK2.out.below hb3 HK2.out.lt)
          clear hb3 hc0 hc1 hc2 hc3
          go_wp2_with fail
          have HW4 := HW3; have HE4 := HE3; have hs4 := hs3; have HK4 := HK3
          refine (tx_name kd w3 HE4.out HKd.out nm HNn.out).mono ?_
          rintro e wn ⟨rfl, hwn⟩
          have hwn' := hwn.symm
          subst hwn'
          go_wp2_with (first
            | ((with_reducible show wpList _ _ _ (⟨some 34, _, _, _, _, _⟩ :: _) _ _); go_must (refine wpList_load_blk rfl 25 (.tmp 2) rfl g1 rfl _ (pgC pg0) _ HK4.out Tryd.underlying25 rfl pg_size ?_))
            | (go_at_call 15; fail))
          rw [← pgA_is]
          refine (tx_print _ pg0 _ HE4.out (HP.out.below HW4.out) hs4 a b HC.out HOk.out).mono ?_
          rintro e w5 ⟨rfl, hb5⟩
          rw [HL.out]
          have HW5 := kp (HW4.out.trans (hb5.mono hs4)); have hs5 := HW5.out.size
          have HK5 := kp (HK4.out.below hb5 HK4.out.lt)
          clear hb5
          go_wp2_with (first
            | ((with_reducible show wpList _ _ _ (⟨some 39, _, _, _, _, _⟩ :: _) _ _); go_must (refine wpList_load_blk rfl 25 (.tmp 2) rfl g1 rfl _ (pgC pg0) _ HK5.out Tryd.underlying25 rfl pg_size ?_))
            | (go_at_call 16; fail))
          rw [← pgA_is]
          refine (ref_check _ pg0 w5 (HP.out.below HW5.out) hs5 a b 0 HC.out).mono ?_
          rintro e w6 ⟨rfl, hb6⟩
          have HW6 := kp (HW5.out.trans (hb6.mono hs5)); have hs6 := HW6.out.size
          have HK6 := kp (HK5.out.below hb6 HK5.out.lt)
          clear hb6
          obtain ⟨hc0, hc1, hc2, hc3⟩ := pg_cells HK6.out
          go_wp2_with fail
          refine (rf_print _ pg0 w6 (HP.out.below HW6.out) hs6 HOk.out).mono ?_
          rintro e w7 ⟨rfl, hb7⟩
          rw [HL.out]
          have HW7 := kp (HW6.out.trans (hb7.mono hs6))
          clear hb7 hc0 hc1 hc2 hc3
          go_wp2
          go_ret
          exact ⟨rfl, HW7.out⟩
      · obtain ⟨nm, hnm⟩ : ∃ nm : List UInt8, [] = nm := ⟨_, rfl⟩
        have HNn : Kept ((if kd < 0 ∨ 9 < kd then [] else T.names.getD kd.toNat []) = nm) := kp (by rw [if_pos (by omega), hnm])
        have hsn := lit_is (x := nm) (s := []) hnm.symm
        clear hnm
        go_enter Tryd.func4, Tryd.ntmps4
        go_wp2_with (first
          | ((with_reducible refine wpList_box_agg rfl 25 (.tmp 0) rfl (pgC pg0) rfl ?_); intro g1 w1 hg1 hk1 hw1; have HK := kp hk1; have HW := kp hw1; have hs1 := hw1.size; have HE1 := kp (HE.out.on hw1); have hgl := hk1.lt; clear hk1 hw1)
          | fail)
        refine (tx_awake w1 HE1.out).mono ?_
        rintro e w2 ⟨rfl, hb⟩
        have HK2 := kp (HK.out.below hb hgl); have HW2 := kp (HW.out.trans (hb.mono hs1)); have HE2 := kp (HE1.out.on hb)
        have hs2 := HW2.out.size
        clear hb
        obtain ⟨hc0, hc1, hc2, hc3⟩ := pg_cells HK2.out
        go_wp2_with fail
        refine (ref_small _ pg0 w2 (HP.out.below HW2.out) hs2 _ HS.out).mono ?_
        rintro e w3 ⟨rfl, hb3⟩
        have HW3 := kp (HW2.out.trans (hb3.mono hs2)); have HE3 := kp (HE2.out.on hb3)
        have hs3 := HW3.out.size
        have HK3 := kp (HK2.out.below hb3 HK2.out.lt)
        clear hb3 hc0 hc1 hc2 hc3
        go_wp2_with fail
        have HW4 := HW3; have HE4 := HE3; have hs4 := hs3; have HK4 := HK3
        refine (tx_name kd w3 HE4.out HKd.out nm HNn.out).mono ?_
        rintro e wn ⟨rfl, hwn⟩
        have hwn' := hwn.symm
        subst hwn'
        go_wp2_with (first
          | ((with_reducible show wpList _ _ _ (⟨some 34, _, _, _, _, _⟩ :: _) _ _); go_must (refine wpList_load_blk rfl 25 (.tmp 2) rfl g1 rfl _ (pgC pg0) _ HK4.out Tryd.underlying25 rfl pg_size ?_))
          | (go_at_call 15; fail))
        rw [← pgA_is]
        refine (tx_print _ pg0 _ HE4.out (HP.out.below HW4.out) hs4 a b HC.out HOk.out).mono ?_
        rintro e w5 ⟨rfl, hb5⟩
        rw [HL.out]
        have HW5 := kp (HW4.out.trans (hb5.mono hs4)); have hs5 := HW5.out.size
        have HK5 := kp (HK4.out.below hb5 HK4.out.lt)
        clear hb5
        go_wp2_with (first
          | ((with_reducible show wpList _ _ _ (⟨some 39, _, _, _, _, _⟩ :: _) _ _); go_must (refine wpList_load_blk rfl 25 (.tmp 2) rfl g1 rfl _ (pgC pg0) _ HK5.out Tryd.underlying25 rfl pg_size ?_))
          | (go_at_call 16; fail))
        rw [← pgA_is]
        refine (ref_check _ pg0 w5 (HP.out.below HW5.out) hs5 a b 0 HC.out).mono ?_
        rintro e w6 ⟨rfl, hb6⟩
        have HW6 := kp (HW5.out.trans (hb6.mono hs5)); have hs6 := HW6.out.size
        have HK6 := kp (HK5.out.below hb6 HK5.out.lt)
        clear hb6
        obtain ⟨hc0, hc1, hc2, hc3⟩ := pg_cells HK6.out
        go_wp2_with fail
        refine (rf_print _ pg0 w6 (HP.out.below HW6.out) hs6 HOk.out).mono ?_
        rintro e w7 ⟨rfl, hb7⟩
        rw [HL.out]
        have HW7 := kp (HW6.out.trans (hb7.mono hs6))
        clear hb7 hc0 hc1 hc2 hc3
        go_wp2
        go_ret
        exact ⟨rfl, HW7.out⟩
    · have hcb : ((c : Int) != 0) = true := by rw [bne_iff_ne]; omega
      have hcc : ((c : Int) == (c : Int)) = true := beq_self_eq_true _
      have H0 := kp h0
      have hnil := lit_is (x := []) (s := []) rfl
      clear h0 hc hlen
      by_cases hk0 : 0 ≤ kd
      · by_cases hk9 : kd < 10
        · obtain ⟨kn, hkn⟩ : ∃ kn : Nat, kd = kn := ⟨kd.toNat, by omega⟩
          subst hkn
          have hk10 : kn < 10 := by omega
          obtain ⟨nm, hnm⟩ : ∃ nm, T.names[kn]? = some nm := ⟨_, List.getElem?_eq_getElem (show kn < T.names.length from hk10)⟩
          have HNm := kp hnm
          have HNn : Kept ((if (kn : Int) < 0 ∨ 9 < (kn : Int) then [] else T.names.getD (kn : Int).toNat []) = nm) := kp (by rw [if_neg (by omega), Int.toNat_natCast, List.getD_eq_getElem?_getD, hnm]; rfl)
          have hsn := str_is (x := nm) (s := nm) rfl
          clear hnm
          go_enter Tryd.func4, Tryd.ntmps4
          go_wp2_with (first
            | ((with_reducible refine wpList_box_agg rfl 25 (.tmp 0) rfl (pgC pg0) rfl ?_); intro g1 w1 hg1 hk1 hw1; have HK := kp hk1; have HW := kp hw1; have hs1 := hw1.size; have HE1 := kp (HE.out.on hw1); have hgl := hk1.lt; clear hk1 hw1)
            | fail)
          refine (tx_awake w1 HE1.out).mono ?_
          rintro e w2 ⟨rfl, hb⟩
          have HK2 := kp (HK.out.below hb hgl); have HW2 := kp (HW.out.trans (hb.mono hs1)); have HE2 := kp (HE1.out.on hb)
          have hs2 := HW2.out.size
          clear hb
          obtain ⟨hc0, hc1, hc2, hc3⟩ := pg_cells HK2.out
          go_wp2_with fail
          refine (ref_small _ pg0 w2 (HP.out.below HW2.out) hs2 _ HS.out).mono ?_
          rintro e w3 ⟨rfl, hb3⟩
          have HW3 := kp (HW2.out.trans (hb3.mono hs2)); have HE3 := kp (HE2.out.on hb3)
          have hs3 := HW3.out.size
          have HK3 := kp (HK2.out.below hb3 HK2.out.lt)
          clear hb3 hc0 hc1 hc2 hc3
          go_wp2_with fail
          refine (rf_names w3).mono ?_
          rintro e w4 ⟨v4, rfl, hown4, hb4⟩
          obtain ⟨A4, c4, rfl, _, _, hr4⟩ := Own.readsN (f := wordT) (l := T.names) hown4 rfl
          obtain ⟨ad, y, rfl, hab, hy, hcy⟩ := hr4.get (k := kn) (by show kn < 10; omega)
          have hy : T.names[kn]? = some y := hy
          rw [HNm.out] at hy
          cases hy
          replace hcy : w4.cell? (ad.add kn) = some (.string (T.str nm)) := hcy
          have HW4 := kp (HW3.out.trans (hb4.mono hs3)); have HE4 := kp (HE3.out.on hb4); have hs4 := HW4.out.size
          have HK4 := kp (HK3.out.below hb4 HK3.out.lt)
          have hl10 : T.names.length = 10 := rfl
          clear hown4 hr4 hb4
          go_wp2_with fail
          refine (tx_name (kn : Int) w4 HE4.out HKd.out nm HNn.out).mono ?_
          rintro e wn ⟨rfl, hwn⟩
          have hwn' := hwn.symm
          subst hwn'
          clear hcy
          go_wp2_with (first
            | ((with_reducible show wpList _ _ _ (⟨some 34, _, _, _, _, _⟩ :: _) _ _); go_must (refine wpList_load_blk rfl 25 (.tmp 2) rfl g1 rfl _ (pgC pg0) _ HK4.out Tryd.underlying25 rfl pg_size ?_))
            | (go_at_call 15; fail))
          rw [← pgA_is]
          refine (tx_print_not _ pg0 _ (HP.out.below HW4.out) hs4 a b c HC.out H0.out).mono ?_
          rintro e w5 ⟨rfl, hb5⟩
          have HW5 := kp (HW4.out.trans (hb5.mono hs4)); have hs5 := HW5.out.size
          have HK5 := kp (HK4.out.below hb5 HK4.out.lt)
          clear hb5
          go_wp2_with (first
            | ((with_reducible show wpList _ _ _ (⟨some 39, _, _, _, _, _⟩ :: _) _ _); go_must (refine wpList_load_blk rfl 25 (.tmp 2) rfl g1 rfl _ (pgC pg0) _ HK5.out Tryd.underlying25 rfl pg_size ?_))
            | (go_at_call 16; fail))
          rw [← pgA_is]
          refine (ref_check _ pg0 w5 (HP.out.below HW5.out) hs5 a b c HC.out).mono ?_
          rintro e w6 ⟨rfl, hb6⟩
          have HW6 := kp (HW5.out.trans (hb6.mono hs5))
          clear hb6
          go_wp2
          go_ret
          exact ⟨rfl, HW6.out⟩
        · obtain ⟨nm, hnm⟩ : ∃ nm : List UInt8, [] = nm := ⟨_, rfl⟩
          have HNn : Kept ((if kd < 0 ∨ 9 < kd then [] else T.names.getD kd.toNat []) = nm) := kp (by rw [if_pos (by omega), hnm])
          have hsn := lit_is (x := nm) (s := []) hnm.symm
          clear hnm
          go_enter Tryd.func4, Tryd.ntmps4
          go_wp2_with (first
            | ((with_reducible refine wpList_box_agg rfl 25 (.tmp 0) rfl (pgC pg0) rfl ?_); intro g1 w1 hg1 hk1 hw1; have HK := kp hk1; have HW := kp hw1; have hs1 := hw1.size; have HE1 := kp (HE.out.on hw1); have hgl := hk1.lt; clear hk1 hw1)
            | fail)
          refine (tx_awake w1 HE1.out).mono ?_
          rintro e w2 ⟨rfl, hb⟩
          have HK2 := kp (HK.out.below hb hgl); have HW2 := kp (HW.out.trans (hb.mono hs1)); have HE2 := kp (HE1.out.on hb)
          have hs2 := HW2.out.size
          clear hb
          obtain ⟨hc0, hc1, hc2, hc3⟩ := pg_cells HK2.out
          go_wp2_with fail
          refine (ref_small _ pg0 w2 (HP.out.below HW2.out) hs2 _ HS.out).mono ?_
          rintro e w3 ⟨rfl, hb3⟩
          have HW3 := kp (HW2.out.trans (hb3.mono hs2)); have HE3 := kp (HE2.out.on hb3)
          have hs3 := HW3.out.size
          have HK3 := kp (HK2.out.below hb3 HK2.out.lt)
          clear hb3 hc0 hc1 hc2 hc3
          go_wp2_with fail
          have HW4 := HW3; have HE4 := HE3; have hs4 := hs3; have HK4 := HK3
          refine (tx_name kd w3 HE4.out HKd.out nm HNn.out).mono ?_
          rintro e wn ⟨rfl, hwn⟩
          have hwn' := hwn.symm
          subst hwn'
          go_wp2_with (first
            | ((with_reducible show wpList _ _ _ (⟨some 34, _, _, _, _, _⟩ :: _) _ _); go_must (refine wpList_load_blk rfl 25 (.tmp 2) rfl g1 rfl _ (pgC pg0) _ HK4.out Tryd.underlying25 rfl pg_size ?_))
            | (go_at_call 15; fail))
          rw [← pgA_is]
          refine (tx_print_not _ pg0 _ (HP.out.below HW4.out) hs4 a b c HC.out H0.out).mono ?_
          rintro e w5 ⟨rfl, hb5⟩
          have HW5 := kp (HW4.out.trans (hb5.mono hs4)); have hs5 := HW5.out.size
          have HK5 := kp (HK4.out.below hb5 HK4.out.lt)
          clear hb5
          go_wp2_with (first
            | ((with_reducible show wpList _ _ _ (⟨some 39, _, _, _, _, _⟩ :: _) _ _); go_must (refine wpList_load_blk rfl 25 (.tmp 2) rfl g1 rfl _ (pgC pg0) _ HK5.out Tryd.underlying25 rfl pg_size ?_))
            | (go_at_call 16; fail))
          rw [← pgA_is]
          refine (ref_check _ pg0 w5 (HP.out.below HW5.out) hs5 a b c HC.out).mono ?_
          rintro e w6 ⟨rfl, hb6⟩
          have HW6 := kp (HW5.out.trans (hb6.mono hs5))
          clear hb6
          go_wp2
          go_ret
          exact ⟨rfl, HW6.out⟩
      · obtain ⟨nm, hnm⟩ : ∃ nm : List UInt8, [] = nm := ⟨_, rfl⟩
        have HNn : Kept ((if kd < 0 ∨ 9 < kd then [] else T.names.getD kd.toNat []) = nm) := kp (by rw [if_pos (by omega), hnm])
        have hsn := lit_is (x := nm) (s := []) hnm.symm
        clear hnm
        go_enter Tryd.func4, Tryd.ntmps4
        go_wp2_with (first
          | ((with_reducible refine wpList_box_agg rfl 25 (.tmp 0) rfl (pgC pg0) rfl ?_); intro g1 w1 hg1 hk1 hw1; have HK := kp hk1; have HW := kp hw1; have hs1 := hw1.size; have HE1 := kp (HE.out.on hw1); have hgl := hk1.lt; clear hk1 hw1)
          | fail)
        refine (tx_awake w1 HE1.out).mono ?_
        rintro e w2 ⟨rfl, hb⟩
        have HK2 := kp (HK.out.below hb hgl); have HW2 := kp (HW.out.trans (hb.mono hs1)); have HE2 := kp (HE1.out.on hb)
        have hs2 := HW2.out.size
        clear hb
        obtain ⟨hc0, hc1, hc2, hc3⟩ := pg_cells HK2.out
        go_wp2_with fail
        refine (ref_small _ pg0 w2 (HP.out.below HW2.out) hs2 _ HS.out).mono ?_
        rintro e w3 ⟨rfl, hb3⟩
        have HW3 := kp (HW2.out.trans (hb3.mono hs2)); have HE3 := kp (HE2.out.on hb3)
        have hs3 := HW3.out.size
        have HK3 := kp (HK2.out.below hb3 HK2.out.lt)
        clear hb3 hc0 hc1 hc2 hc3
        go_wp2_with fail
        have HW4 := HW3; have HE4 := HE3; have hs4 := hs3; have HK4 := HK3
        refine (tx_name kd w3 HE4.out HKd.out nm HNn.out).mono ?_
        rintro e wn ⟨rfl, hwn⟩
        have hwn' := hwn.symm
        subst hwn'
        go_wp2_with (first
          | ((with_reducible show wpList _ _ _ (⟨some 34, _, _, _, _, _⟩ :: _) _ _); go_must (refine wpList_load_blk rfl 25 (.tmp 2) rfl g1 rfl _ (pgC pg0) _ HK4.out Tryd.underlying25 rfl pg_size ?_))
          | (go_at_call 15; fail))
        rw [← pgA_is]
        refine (tx_print_not _ pg0 _ (HP.out.below HW4.out) hs4 a b c HC.out H0.out).mono ?_
        rintro e w5 ⟨rfl, hb5⟩
        have HW5 := kp (HW4.out.trans (hb5.mono hs4)); have hs5 := HW5.out.size
        have HK5 := kp (HK4.out.below hb5 HK4.out.lt)
        clear hb5
        go_wp2_with (first
          | ((with_reducible show wpList _ _ _ (⟨some 39, _, _, _, _, _⟩ :: _) _ _); go_must (refine wpList_load_blk rfl 25 (.tmp 2) rfl g1 rfl _ (pgC pg0) _ HK5.out Tryd.underlying25 rfl pg_size ?_))
          | (go_at_call 16; fail))
        rw [← pgA_is]
        refine (ref_check _ pg0 w5 (HP.out.below HW5.out) hs5 a b c HC.out).mono ?_
        rintro e w6 ⟨rfl, hb6⟩
        have HW6 := kp (HW5.out.trans (hb6.mono hs5))
        clear hb6
        go_wp2
        go_ret
        exact ⟨rfl, HW6.out⟩
end Go.Proofs.YtiojobajcnifpaaDoor
