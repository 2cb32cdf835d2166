/- GraphOrders, walked. -/
import Derived.Test.YtfifnahcobjjdaaGraphLaw1
import Derived.Test.YtfifnahcobjjdaaProgRef5
import Derived.Deep.QuietTactic
namespace Go.Proofs.Ytfifnahcobjjdaa
open Go.RowKit

set_option maxRecDepth 1000000 in
set_option maxHeartbeats 4000000 in
theorem walkGraphOrders (pg0 : Pg) (w : World) (w0 : pg0.Ok w w.heap.size) :
    Calls Try.prog 3 #[pgA pg0] w fun e w' => e = .returned (.bool true) ∧ Below w.heap.size w w' := by
  have HP := kp w0
  clear w0
  obtain ⟨r, hr⟩ : ∃ r, Q.small pg0 = r := ⟨_, rfl⟩
  have HR := kp hr
  clear hr
  rw [pgA_is]
  cases r
  · go_enter Try.func3, Try.ntmps3
    go_wp2_with (first
      | ((with_reducible refine wpList_box_agg rfl 24 (.tmp 0) rfl (pgC pg0) rfl ?_); intro g1 u1 hg1 hk1 hu1; have HK1 := kp hk1; have HU1 := kp hu1; have hz1 := hu1.size; clear hg1 hk1 hu1))
    refine (awake_any u1).mono ?_
    rintro e w1 ⟨rfl, hb1⟩
    have HW1 : Kept (Below w.heap.size w w1) := kp (HU1.out.trans (hb1.mono hz1))
    have hs1 := HW1.out.size
    have HP1 := kp (HP.out.below HW1.out)
    have HKa := kp (HK1.out.below hb1 HK1.out.lt)
    obtain ⟨hc0, hc1, hc2, hc3⟩ := pg_cells HKa.out
    clear hb1
    go_wp2_with fail
    refine (ref_small _ pg0 w1 HP1.out hs1 _ HR.out).mono ?_
    rintro e w2 ⟨rfl, hb2⟩
    have HW2 : Kept (Below w.heap.size w w2) := kp (HW1.out.trans (hb2.mono hs1))
    have hs2 := HW2.out.size
    have HP2 := kp (HP.out.below HW2.out)
    have HKb := kp (HKa.out.below hb2 HKa.out.lt)
    clear hb2 hc0 hc1 hc2 hc3
    obtain ⟨hc0, hc1, hc2, hc3⟩ := pg_cells HKb.out
    go_wp2_with fail
    refine (awake_any w2).mono ?_
    rintro e w9 ⟨rfl, hb9⟩
    have HW9 := kp (HW2.out.trans (hb9.mono hs2))
    clear hb9
    go_wp2
    go_ret
    exact ⟨rfl, HW9.out⟩
  · obtain ⟨a, b, c, hc⟩ : ∃ a b c, Q.check pg0 = (a, b, c) := ⟨_, _, _, rfl⟩
    have HC := kp hc
    by_cases hz : c = 0
    · subst hz
      have HF := kp (fine_of hc)
      clear hc
      go_enter Try.func3, Try.ntmps3
      go_wp2_with (first
        | ((with_reducible refine wpList_box_agg rfl 24 (.tmp 0) rfl (pgC pg0) rfl ?_); intro g1 u1 hg1 hk1 hu1; have HK1 := kp hk1; have HU1 := kp hu1; have hz1 := hu1.size; clear hg1 hk1 hu1))
      refine (awake_any u1).mono ?_
      rintro e w1 ⟨rfl, hb1⟩
      have HW1 : Kept (Below w.heap.size w w1) := kp (HU1.out.trans (hb1.mono hz1))
      have hs1 := HW1.out.size
      have HP1 := kp (HP.out.below HW1.out)
      have HKa := kp (HK1.out.below hb1 HK1.out.lt)
      obtain ⟨hc0, hc1, hc2, hc3⟩ := pg_cells HKa.out
      clear hb1
      go_wp2_with fail
      refine (ref_small _ pg0 w1 HP1.out hs1 _ HR.out).mono ?_
      rintro e w2 ⟨rfl, hb2⟩
      have HW2 : Kept (Below w.heap.size w w2) := kp (HW1.out.trans (hb2.mono hs1))
      have hs2 := HW2.out.size
      have HP2 := kp (HP.out.below HW2.out)
      have HKb := kp (HKa.out.below hb2 HKa.out.lt)
      clear hb2 hc0 hc1 hc2 hc3
      obtain ⟨hc0, hc1, hc2, hc3⟩ := pg_cells HKb.out
      go_wp2_with fail
      refine (graph_order _ pg0 w2 HP2.out hs2 HR.out a b 0 HC.out).mono ?_
      rintro e w3 ⟨v3, l, rfl, hne, hor, hown, hb3⟩
      have HW3 : Kept (Below w.heap.size w w3) := kp (HW2.out.trans (hb3.mono hs2))
      have hs3 := HW3.out.size
      have HP3 := kp (HP.out.below HW3.out)
      have HKc := kp (HKb.out.below hb3 HKb.out.lt)
      clear hb3 hc0 hc1 hc2 hc3
      obtain ⟨hc0, hc1, hc2, hc3⟩ := pg_cells HKc.out
      obtain ⟨ho, hl⟩ := hor rfl
      obtain ⟨A3, c3, rfl, hq1, hq2, hrow⟩ := hown.readsN hl
      have HO := kp ho; have HL := kp hl; have HR3 := kp hrow
      unfold maxLen at hq2
      clear hne hor hown ho hl hrow
      go_wp2_with fail
      refine (ref_check _ pg0 w3 HP3.out hs3 a b 0 HC.out).mono ?_
      rintro e w4 ⟨rfl, hb4⟩
      have HW4 : Kept (Below w.heap.size w w4) := kp (HW3.out.trans (hb4.mono hs3))
      have hs4 := HW4.out.size
      have HP4 := kp (HP.out.below HW4.out)
      have HKd := kp (HKc.out.below hb4 HKc.out.lt)
      have HB4 := kp hb4
      clear hb4 hc0 hc1 hc2 hc3
      obtain ⟨hc0, hc1, hc2, hc3⟩ := pg_cells HKd.out
      go_wp2_with fail
      refine (ref_order _ pg0 w4 HP4.out hs4 HF.out).mono ?_
      rintro e w5 ⟨v5, l2, rfl, ho2, hl2, hown2, hb5⟩
      have HW5 : Kept (Below w.heap.size w w5) := kp (HW4.out.trans (hb5.mono hs4))
      have hs5 := HW5.out.size
      have hll := ord_unique HO.out ho2 (by rw [HL.out, hl2])
      subst hll
      obtain ⟨A5, c5, rfl, hq3, hq4, hrow5⟩ := hown2.readsN HL.out
      have HR5 := kp hrow5
      have HR3b := kp (HR3.out.below (HB4.out.trans (hb5.mono HB4.out.size)))
      have HKe := kp (HKd.out.below hb5 HKd.out.lt)
      have hz5 := hb5.size
      have hz4 := HB4.out.size
      unfold maxLen at hq4
      clear hb5 hown2 hrow5 ho2 hl2 hc0 hc1 hc2 hc3
      obtain ⟨hc0, hc1, hc2, hc3⟩ := pg_cells HKe.out
      have hbn : ((pg0.len : Int) != (pg0.len : Int)) = false := by simp
      go_wp2
      clear hc0 hc1 hc2 hc3
      go_loopw [9] (fun v9 wr => ∃ i : Nat, i ≤ pg0.len ∧ v9 = .int .i64 i ∧ Below w5.heap.size w5 wr) (fun v9 _ => pg0.len - (intOf v9).toNat)
      case atStart => exact ⟨0, by omega, rfl, Below.refl _ _⟩
      case round =>
        obtain ⟨i, hi, rfl, hbl⟩ := hrel
        have HBL := kp hbl
        by_cases hlt : i < pg0.len
        · obtain ⟨ad3, x, e3, _, hx, hcx⟩ := (HR3b.out.below (hbl.mono (by omega))).get hlt
          obtain ⟨ad5, y, e5, _, hy, hcy⟩ := (HR5.out.below hbl).get hlt
          rw [hx] at hy
          cases hy
          rw [natV_def] at hcx hcy
          subst e3; subst e5
          have hxx : ((x : Int) != (x : Int)) = false := by simp
          clear hbl hx
          go_wp2
          go_quiet (fail)
          go_wp2
          go_roundw
          case rel => exact ⟨i + 1, by omega, by go_num, below_drewN HBL.out _⟩
          case measure => simp [intOf]; omega
        · have hge : pg0.len ≤ i := by omega
          clear hlt hbl
          go_wp2
          go_ret
          exact ⟨rfl, HW5.out.trans (HBL.out.mono hs5)⟩
    · clear hc
      go_enter Try.func3, Try.ntmps3
      go_wp2_with (first
        | ((with_reducible refine wpList_box_agg rfl 24 (.tmp 0) rfl (pgC pg0) rfl ?_); intro g1 u1 hg1 hk1 hu1; have HK1 := kp hk1; have HU1 := kp hu1; have hz1 := hu1.size; clear hg1 hk1 hu1))
      refine (awake_any u1).mono ?_
      rintro e w1 ⟨rfl, hb1⟩
      have HW1 : Kept (Below w.heap.size w w1) := kp (HU1.out.trans (hb1.mono hz1))
      have hs1 := HW1.out.size
      have HP1 := kp (HP.out.below HW1.out)
      have HKa := kp (HK1.out.below hb1 HK1.out.lt)
      obtain ⟨hc0, hc1, hc2, hc3⟩ := pg_cells HKa.out
      clear hb1
      go_wp2_with fail
      refine (ref_small _ pg0 w1 HP1.out hs1 _ HR.out).mono ?_
      rintro e w2 ⟨rfl, hb2⟩
      have HW2 : Kept (Below w.heap.size w w2) := kp (HW1.out.trans (hb2.mono hs1))
      have hs2 := HW2.out.size
      have HP2 := kp (HP.out.below HW2.out)
      have HKb := kp (HKa.out.below hb2 HKa.out.lt)
      clear hb2 hc0 hc1 hc2 hc3
      obtain ⟨hc0, hc1, hc2, hc3⟩ := pg_cells HKb.out
      go_wp2_with fail
      refine (graph_order _ pg0 w2 HP2.out hs2 HR.out a b c HC.out).mono ?_
      rintro e w3 ⟨v3, l, rfl, hne, hor, hown, hb3⟩
      have HW3 : Kept (Below w.heap.size w w3) := kp (HW2.out.trans (hb3.mono hs2))
      have hs3 := HW3.out.size
      have HP3 := kp (HP.out.below HW3.out)
      have HKc := kp (HKb.out.below hb3 HKb.out.lt)
      clear hb3 hc0 hc1 hc2 hc3
      obtain ⟨hc0, hc1, hc2, hc3⟩ := pg_cells HKc.out
      have hl0 := hne hz
      subst hl0
      obtain ⟨A3, c3, rfl, hq1, hq2, _⟩ := hown.readsN (n := 0) rfl
      unfold maxLen at hq2
      clear hne hor hown
      go_wp2_with fail
      refine (ref_check _ pg0 w3 HP3.out hs3 a b c HC.out).mono ?_
      rintro e w4 ⟨rfl, hb4⟩
      have HW4 : Kept (Below w.heap.size w w4) := kp (HW3.out.trans (hb4.mono hs3))
      have hs4 := HW4.out.size
      have HP4 := kp (HP.out.below HW4.out)
      have HKd := kp (HKc.out.below hb4 HKc.out.lt)
      have HB4 := kp hb4
      clear hb4 hc0 hc1 hc2 hc3
      obtain ⟨hc0, hc1, hc2, hc3⟩ := pg_cells HKd.out
      have hzb : ((c : Int) != 0) = true := by rw [bne_iff_ne]; omega
      clear hz
      go_wp2
      go_ret
      exact ⟨rfl, HW4.out⟩
end Go.Proofs.Ytfifnahcobjjdaa
