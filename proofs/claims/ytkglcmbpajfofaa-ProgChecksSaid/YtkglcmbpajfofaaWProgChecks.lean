/- ProgChecks, walked. -/
import Derived.Test.YtkglcmbpajfofaaProgLaw1
import Derived.Test.YtkglcmbpajfofaaProgRef5
namespace Go.Proofs.Ytkglcmbpajfofaa
open Go.RowKit

set_option maxRecDepth 1000000 in
set_option maxHeartbeats 4000000 in
theorem walkProgChecks (pg0 : Pg) (w : World) (w0 : pg0.Ok w w.heap.size) :
    Calls Try.prog 4 #[pgA pg0] w fun e w' => e = .returned (.bool true) ∧ Below w.heap.size w w' := by
  have HP := kp w0
  clear w0
  obtain ⟨r, hr⟩ : ∃ r, Q.small pg0 = r := ⟨_, rfl⟩
  have HR := kp hr
  clear hr
  rw [pgA_is]
  cases r
  · go_enter Try.func4, Try.ntmps4
    go_wp2_with (first
      | ((with_reducible refine wpList_box_agg rfl 24 (.tmp 0) rfl (pgC pg0) rfl ?_); intro g1 u1 hg1 hk1 hu1; have HK1 := kp hk1; have HU1 := kp hu1; have hz1 := hu1.size; clear hg1 hk1 hu1))
    refine (awake_any u1).mono ?_
    rintro e w1 ⟨rfl, hb1⟩
    have HW1 : Kept (Below w.heap.size w w1) := kp (HU1.out.trans (hb1.mono hz1))
    have hs1 := HW1.out.size
    have HP1 := kp (HP.out.below HW1.out)
    have HKa := kp (HK1.out.below hb1 HK1.out.lt)
    obtain ⟨hc0, hc1, hc2, hc3⟩ := pg_cells HKa.out
    clear hb1
    go_wp2_with fail
    refine (ref_small _ pg0 w1 HP1.out hs1 _ HR.out).mono ?_
    rintro e w2 ⟨rfl, hb2⟩
    have HW2 : Kept (Below w.heap.size w w2) := kp (HW1.out.trans (hb2.mono hs1))
    have hs2 := HW2.out.size
    have HP2 := kp (HP.out.below HW2.out)
    have HKb := kp (HKa.out.below hb2 HKa.out.lt)
    clear hb2 hc0 hc1 hc2 hc3
    obtain ⟨hc0, hc1, hc2, hc3⟩ := pg_cells HKb.out
    go_wp2_with fail
    refine (awake_any w2).mono ?_
    rintro e w3 ⟨rfl, hb3⟩
    have HW3 := kp (HW2.out.trans (hb3.mono hs2))
    clear hb3
    go_wp2
    go_ret
    exact ⟨rfl, HW3.out⟩
  · obtain ⟨a, b, c, hc⟩ : ∃ a b c, Q.check pg0 = (a, b, c) := ⟨_, _, _, rfl⟩
    have HC := kp hc
    clear hc
    go_enter Try.func4, Try.ntmps4
    go_wp2_with (first
      | ((with_reducible refine wpList_box_agg rfl 24 (.tmp 0) rfl (pgC pg0) rfl ?_); intro g1 u1 hg1 hk1 hu1; have HK1 := kp hk1; have HU1 := kp hu1; have hz1 := hu1.size; clear hg1 hk1 hu1))
    refine (awake_any u1).mono ?_
    rintro e w1 ⟨rfl, hb1⟩
    have HW1 : Kept (Below w.heap.size w w1) := kp (HU1.out.trans (hb1.mono hz1))
    have hs1 := HW1.out.size
    have HP1 := kp (HP.out.below HW1.out)
    have HKa := kp (HK1.out.below hb1 HK1.out.lt)
    obtain ⟨hc0, hc1, hc2, hc3⟩ := pg_cells HKa.out
    clear hb1
    go_wp2_with fail
    refine (ref_small _ pg0 w1 HP1.out hs1 _ HR.out).mono ?_
    rintro e w2 ⟨rfl, hb2⟩
    have HW2 : Kept (Below w.heap.size w w2) := kp (HW1.out.trans (hb2.mono hs1))
    have hs2 := HW2.out.size
    have HP2 := kp (HP.out.below HW2.out)
    have HKb := kp (HKa.out.below hb2 HKa.out.lt)
    clear hb2 hc0 hc1 hc2 hc3
    obtain ⟨hc0, hc1, hc2, hc3⟩ := pg_cells HKb.out
    go_wp2_with fail
    refine (prog_check _ pg0 w2 HP2.out hs2 HR.out a b c HC.out).mono ?_
    rintro e w3 ⟨rfl, hb3⟩
    have HW3 : Kept (Below w.heap.size w w3) := kp (HW2.out.trans (hb3.mono hs2))
    have hs3 := HW3.out.size
    have HP3 := kp (HP.out.below HW3.out)
    have HKc := kp (HKb.out.below hb3 HKb.out.lt)
    clear hb3 hc0 hc1 hc2 hc3
    obtain ⟨hc0, hc1, hc2, hc3⟩ := pg_cells HKc.out
    go_wp2_with fail
    refine (ref_check _ pg0 w3 HP3.out hs3 a b c HC.out).mono ?_
    rintro e w4 ⟨rfl, hb4⟩
    have HW4 : Kept (Below w.heap.size w w4) := kp (HW3.out.trans (hb4.mono hs3))
    clear hb4
    go_wp2
    go_ret
    exact ⟨rfl, HW4.out⟩
end Go.Proofs.Ytkglcmbpajfofaa
