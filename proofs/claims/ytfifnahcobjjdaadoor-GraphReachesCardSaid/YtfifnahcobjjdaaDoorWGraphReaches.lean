/- GraphReaches, walked. -/
import Derived.Test.YtfifnahcobjjdaaDoorGraphLaw1
import Derived.Test.YtfifnahcobjjdaaDoorPk4
import Derived.Test.YtfifnahcobjjdaaDoorPk16
import Derived.Laws.BitsAllLaws
namespace Go.Proofs.YtfifnahcobjjdaaDoor
open Go.RowKit

theorem graph_reach_is (B : Nat) (p : Pg) (w : World) (hp : p.Ok w B) (hB : B ≤ w.heap.size) (hs : Q.small p = true) (h32 : p.len ≤ 32) (a : Nat) (ha : a < 4294967296) (ht : Tab w) (m : Nat) (hm : BitsAre m (Comes p (fun x => a.testBit x = true))) :
    Calls Tryd.prog 11 #[pgA p, .int .u32 (a : Int)] w fun e w' => e = .returned (.int .u32 (m : Int)) ∧ Below w.heap.size w w' :=
  (graph_reach B p w hp hB hs h32 a ha ht).mono (by
    rintro e w' ⟨m', rfl, h, hb⟩
    rw [h.uniq hm]
    exact ⟨rfl, hb⟩)

set_option maxRecDepth 1000000 in
set_option maxHeartbeats 4000000 in
theorem walkGraphReaches (pg0 : Pg) (a1 : Int) (a2 : Int) (w : World) (w0 : pg0.Ok w w.heap.size) (w1 : (Lit.int .u32 a1).wf = true) (w2 : (Lit.int .u32 a2).wf = true) (hL : Tab w) :
    Calls Tryd.prog 4 #[pgA pg0, .int .u32 a1, .int .u32 a2] w fun e w' => e = .returned (.bool true) ∧ Below w.heap.size w w' := by
  obtain ⟨a, rfl, ha⟩ := nat_u32 w1
  obtain ⟨b, rfl, hb⟩ := nat_u32 w2
  clear w1 w2
  have HP := kp w0
  have HT := kp hL
  have hw1 := hL.size
  clear w0 hL
  obtain ⟨r, hr⟩ : ∃ r, Q.small pg0 = r := ⟨_, rfl⟩
  have HR := kp hr
  clear hr
  rw [pgA_is]
  cases r
  · go_enter Tryd.func4, Tryd.ntmps4
    go_wp2_with (first
      | ((with_reducible refine wpList_box_agg rfl 24 (.tmp 0) rfl (pgC pg0) rfl ?_); intro g1 u1 hg1 hk1 hu1; have HK1 := kp hk1; have HU1 := kp hu1; have hz1 := hu1.size; clear hg1 hk1 hu1))
    refine (awake_any u1).mono ?_
    rintro e w1 ⟨rfl, hb1⟩
    have HW1 : Kept (Below w.heap.size w w1) := kp (HU1.out.trans (hb1.mono hz1))
    have hs1 := HW1.out.size
    have HP1 := kp (HP.out.below HW1.out)
    have HKa := kp (HK1.out.below hb1 HK1.out.lt)
    obtain ⟨hc0, hc1, hc2, hc3⟩ := pg_cells HKa.out
    clear hb1
    go_wp2_with fail
    refine (ref_small _ pg0 w1 HP1.out hs1 _ HR.out).mono ?_
    rintro e w2 ⟨rfl, hb2⟩
    have HW2 : Kept (Below w.heap.size w w2) := kp (HW1.out.trans (hb2.mono hs1))
    have hs2 := HW2.out.size
    have HP2 := kp (HP.out.below HW2.out)
    have HKb := kp (HKa.out.below hb2 HKa.out.lt)
    clear hb2 hc0 hc1 hc2 hc3
    obtain ⟨hc0, hc1, hc2, hc3⟩ := pg_cells HKb.out
    go_wp2_with fail
    refine (awake_any w2).mono ?_
    rintro e w9 ⟨rfl, hb9⟩
    have HW9 := kp (HW2.out.trans (hb9.mono hs2))
    clear hb9
    go_wp2
    go_ret
    exact ⟨rfl, HW9.out⟩
  · by_cases h32 : pg0.len ≤ 32
    · go_enter Tryd.func4, Tryd.ntmps4
      go_wp2_with (first
        | ((with_reducible refine wpList_box_agg rfl 24 (.tmp 0) rfl (pgC pg0) rfl ?_); intro g1 u1 hg1 hk1 hu1; have HK1 := kp hk1; have HU1 := kp hu1; have hz1 := hu1.size; clear hg1 hk1 hu1))
      refine (awake_any u1).mono ?_
      rintro e w1 ⟨rfl, hb1⟩
      have HW1 : Kept (Below w.heap.size w w1) := kp (HU1.out.trans (hb1.mono hz1))
      have hs1 := HW1.out.size
      have HP1 := kp (HP.out.below HW1.out)
      have HKa := kp (HK1.out.below hb1 HK1.out.lt)
      obtain ⟨hc0, hc1, hc2, hc3⟩ := pg_cells HKa.out
      clear hb1
      go_wp2_with fail
      refine (ref_small _ pg0 w1 HP1.out hs1 _ HR.out).mono ?_
      rintro e w2 ⟨rfl, hb2⟩
      have HW2 : Kept (Below w.heap.size w w2) := kp (HW1.out.trans (hb2.mono hs1))
      have hs2 := HW2.out.size
      have HP2 := kp (HP.out.below HW2.out)
      have HKb := kp (HKa.out.below hb2 HKa.out.lt)
      clear hb2 hc0 hc1 hc2 hc3
      obtain ⟨hc0, hc1, hc2, hc3⟩ := pg_cells HKb.out
      obtain ⟨m, hm⟩ : ∃ m, BitsAre m (Comes pg0 (fun x => a.testBit x = true)) := ⟨_, reach_bits pg0 _ h32⟩
      obtain ⟨n, hn⟩ : ∃ m, BitsAre m (Comes pg0 (fun x => b.testBit x = true)) := ⟨_, reach_bits pg0 _ h32⟩
      have HM := kp hm; have HN := kp hn
      have hm32 := hm.1; have hn32 := hn.1
      have hl32 : decide ((32 : Int) < (pg0.len : Int)) = false := by simp; omega
      have HPA : Kept (∀ W, Below w2.heap.size w2 W → pg0.Ok W w.heap.size) := kp fun W hW => HP.out.below (HW2.out.trans (hW.mono hs2))
      have HTA : Kept (∀ W, Below w2.heap.size w2 W → Tab W) := kp fun W hW => HT.out.below (HW2.out.trans (hW.mono hs2)) hw1
      have HSZ : Kept (∀ W, Below w2.heap.size w2 W → w.heap.size ≤ W.heap.size) := kp fun W hW => by have := hW.size; omega
      have HCA : Kept (∀ W, Below w2.heap.size w2 W → W.cell? ⟨g1, 0, none⟩ = some (.int .i64 pg0.g) ∧ W.cell? ⟨g1, 1, none⟩ = some (.int .i64 pg0.l) ∧ W.cell? ⟨g1, 2, none⟩ = some (.int .i64 pg0.s) ∧ W.cell? ⟨g1, 3, none⟩ = some (.slice pg0.A pg0.len pg0.cap)) := kp fun W hW => pg_cells (HKb.out.below hW HKb.out.lt)
      clear hm hn
      go_wp2
      clear hc0 hc1 hc2 hc3
      apply region_list (.is _ :: .is _ :: .is _ :: .is _ :: .is _ :: .is _ :: .is _ :: .is _ :: [])
        [[], [], [(0, 24), (1, 25)], [], [], [(3, 27), (4, 28)], [(2, 26)], [(5, 29)]]
        [(0, 24), (1, 25), (2, 26), (3, 27), (4, 28), (5, 29), (6, 7), (7, 8)] (by kernel_rfl) (by kernel_rfl)
      case hob =>
        refine ⟨?o0, ?o1, ?o2, ?o3, ?o4, ?o5, ?o6, ?o7, trivial⟩
        case o0 =>
          intro W hW; change wpList _ _ _ _ _ _
          obtain ⟨hc0, hc1, hc2, hc3⟩ := HCA.out W hW
          go_wp2; exact pure_post rfl rfl rfl
        case o1 => intro W hW; change wpList _ _ _ _ _ _; go_wp2; exact pure_post rfl rfl rfl
        case o2 =>
          intro W hW; rintro _ rfl; rintro _ rfl; change wpList _ _ _ _ _ _
          go_wp2_with fail
          refine (graph_reach_is _ pg0 W (HPA.out W hW) (HSZ.out W hW) HR.out h32 a ha (HTA.out W hW) m HM.out).mono ?_
          rintro e w2 ⟨rfl, hb2⟩
          have HB2 := kp hb2; clear hb2
          go_wp2
          exact made_post rfl rfl rfl HB2.out rfl
        case o3 =>
          intro W hW; change wpList _ _ _ _ _ _
          obtain ⟨hc0, hc1, hc2, hc3⟩ := HCA.out W hW
          go_wp2; exact pure_post rfl rfl rfl
        case o4 => intro W hW; change wpList _ _ _ _ _ _; go_wp2; exact pure_post rfl rfl rfl
        case o5 =>
          intro W hW; rintro _ rfl; rintro _ rfl; change wpList _ _ _ _ _ _
          go_wp2_with fail
          refine (graph_reach_is _ pg0 W (HPA.out W hW) (HSZ.out W hW) HR.out h32 b hb (HTA.out W hW) n HN.out).mono ?_
          rintro e w2 ⟨rfl, hb2⟩
          have HB2 := kp hb2; clear hb2
          go_wp2
          exact made_post rfl rfl rfl HB2.out rfl
        case o6 => intro W hW; rintro _ rfl; change wpList _ _ _ _ _ _; go_wp2; exact pure_post rfl rfl rfl
        case o7 => intro W hW; rintro _ rfl; change wpList _ _ _ _ _ _; go_wp2; exact pure_post rfl rfl rfl
      case hend =>
        intro W hW; rintro _ rfl; rintro _ rfl; rintro _ rfl; rintro _ rfl; rintro _ rfl; rintro _ rfl; rintro _ rfl; rintro _ rfl
        simp only [given, put_lit, List.set]
        have HW3 := kp (HW2.out.trans (hW.mono hs2))
        have hs3 := HW3.out.size
        obtain ⟨hc0, hc1, hc2, hc3⟩ := HCA.out W hW
        obtain ⟨al, hal⟩ : ∃ al, 2 ^ pg0.len - 1 = al := ⟨_, rfl⟩
        obtain ⟨q, hq⟩ : ∃ q, a &&& al = q := ⟨_, rfl⟩
        obtain ⟨o, ho⟩ : ∃ o, a ||| b = o := ⟨_, rfl⟩
        obtain ⟨r, hr⟩ : ∃ r, m ||| n = r := ⟨_, rfl⟩
        have hal32 : al < 4294967296 := by
          have h3 : 2 ^ pg0.len ≤ 2 ^ 32 := Nat.pow_le_pow_right (by omega) h32
          have h4 : (2 : Nat) ^ 32 = 4294967296 := by decide
          have h5 : 0 < 2 ^ pg0.len := Nat.two_pow_pos _
          omega
        have hE : IntKind.u64.wrap (IntKind.u64.wrap (2 ^ pg0.len) - 1) % 4294967296 = (al : Int) := by
          have h3 : 2 ^ pg0.len ≤ 2 ^ 32 := Nat.pow_le_pow_right (by omega) h32
          have h4 : (2 : Nat) ^ 32 = 4294967296 := by decide
          have h5 : 0 < 2 ^ pg0.len := Nat.two_pow_pos _
          have h6 : (2 : Int) ^ pg0.len = ((2 ^ pg0.len : Nat) : Int) := by push_cast; rfl
          rw [h6]
          generalize 2 ^ pg0.len = P at *
          simp only [IntKind.wrap, IntKind.bits, IntKind.signed]
          simp
          omega
        have hq32 : q < 4294967296 := by rw [← hq]; exact Nat.lt_of_le_of_lt Nat.and_le_left ha
        have ho32 : o < 4294967296 := by rw [← ho]; exact Nat.or_lt_two_pow (n := 32) ha hb
        have hB1 : bits .and .u32 (m : Int) (al : Int) = (m : Int) := by rw [u32_and_nat m al hm32 hal32, ← hal, reach_all HM.out]
        have hB2 : bits .and .u32 (a : Int) (al : Int) = (q : Int) := by rw [u32_and_nat a al ha hal32, hq]
        have hB3 : bits .andNot .u32 (q : Int) (m : Int) = 0 := by rw [u32_andNot_nat q m hq32 hm32, ← hq, ← hal, reach_has ha HM.out]; rfl
        have hB4 : bits .or .u32 (a : Int) (b : Int) = (o : Int) := by rw [u32_or_nat a b ha hb, ho]
        have hB5 : bits .or .u32 (m : Int) (n : Int) = (r : Int) := by rw [u32_or_nat m n hm32 hn32, hr]
        have HR4 := kp (reach_idem h32 HM.out)
        have HR5 : Kept (BitsAre r (Comes pg0 (fun x => o.testBit x = true))) := kp (by have h := reach_or HM.out HN.out; rw [hr, ho] at h; exact h)
        clear hq ho hr hal
        go_wp2_with fail
        refine (graph_reach_is _ pg0 W (HPA.out W hW) (HSZ.out W hW) HR.out h32 m hm32 (HTA.out W hW) m HR4.out).mono ?_
        rintro e w4 ⟨rfl, hb4⟩
        have HW4 : Kept (Below w.heap.size w w4) := kp (HW3.out.trans (hb4.mono hs3))
        have hs4 := HW4.out.size
        have HKc := kp ((HKb.out.below hW HKb.out.lt).below hb4 (by rw [show W.heap.size = W.heap.size from rfl]; exact (HKb.out.below hW HKb.out.lt).lt))
        clear hc0 hc1 hc2 hc3 hb4
        obtain ⟨hc0, hc1, hc2, hc3⟩ := pg_cells HKc.out
        go_wp2_with fail
        refine (graph_reach_is _ pg0 w4 (HP.out.below HW4.out) hs4 HR.out h32 o ho32 (HT.out.below HW4.out hw1) r HR5.out).mono ?_
        rintro e w5 ⟨rfl, hb5⟩
        have HW5 : Kept (Below w.heap.size w w5) := kp (HW4.out.trans (hb5.mono hs4))
        have hs5 := HW5.out.size
        clear hc0 hc1 hc2 hc3 hb5
        go_wp2
        go_ret
        exact ⟨rfl, HW5.out⟩
    · go_enter Tryd.func4, Tryd.ntmps4
      go_wp2_with (first
        | ((with_reducible refine wpList_box_agg rfl 24 (.tmp 0) rfl (pgC pg0) rfl ?_); intro g1 u1 hg1 hk1 hu1; have HK1 := kp hk1; have HU1 := kp hu1; have hz1 := hu1.size; clear hg1 hk1 hu1))
      refine (awake_any u1).mono ?_
      rintro e w1 ⟨rfl, hb1⟩
      have HW1 : Kept (Below w.heap.size w w1) := kp (HU1.out.trans (hb1.mono hz1))
      have hs1 := HW1.out.size
      have HP1 := kp (HP.out.below HW1.out)
      have HKa := kp (HK1.out.below hb1 HK1.out.lt)
      obtain ⟨hc0, hc1, hc2, hc3⟩ := pg_cells HKa.out
      clear hb1
      go_wp2_with fail
      refine (ref_small _ pg0 w1 HP1.out hs1 _ HR.out).mono ?_
      rintro e w2 ⟨rfl, hb2⟩
      have HW2 : Kept (Below w.heap.size w w2) := kp (HW1.out.trans (hb2.mono hs1))
      have hs2 := HW2.out.size
      have HP2 := kp (HP.out.below HW2.out)
      have HKb := kp (HKa.out.below hb2 HKa.out.lt)
      clear hb2 hc0 hc1 hc2 hc3
      obtain ⟨hc0, hc1, hc2, hc3⟩ := pg_cells HKb.out
      have hgt : decide ((32 : Int) < (pg0.len : Int)) = true := by simp; omega
      clear h32
      go_wp2_with fail
      refine (awake_any w2).mono ?_
      rintro e w9 ⟨rfl, hb9⟩
      have HW9 := kp (HW2.out.trans (hb9.mono hs2))
      clear hb9
      go_wp2
      go_ret
      exact ⟨rfl, HW9.out⟩
end Go.Proofs.YtfifnahcobjjdaaDoor
