/- ProgGoes, walked. -/
import Derived.Test.YtkglcmbpajfofaaProgLaw2
import Derived.Test.YtkglcmbpajfofaaParts
namespace Go.Proofs.Ytkglcmbpajfofaa
open Go.RowKit

theorem succ_zero (x : Nd) : (((((Q.succ x).map intV).length : Nat) : Int) == 0) = (x.kind == 9) := by
  unfold Q.succ
  by_cases h : x.kind = 9
  · rw [if_pos h]; simp [h]
  · have h' : (x.kind == 9) = false := by simpa using h
    rw [if_neg h, h']
    split <;> simp
theorem succ_two (x : Nd) : (((((Q.succ x).map intV).length : Nat) : Int) == 2) = (x.kind == 8) := by
  unfold Q.succ
  by_cases h : x.kind = 9
  · rw [if_pos h]; simp [h]
  · rw [if_neg h]
    by_cases h8 : x.kind = 8
    · rw [if_pos h8]; simp [h8]
    · have h' : (x.kind == 8) = false := by simpa using h8
      rw [if_neg h8, h']; simp

set_option maxRecDepth 1000000 in
set_option maxHeartbeats 4000000 in
theorem walkProgGoes (pg0 : Pg) (w : World) (w0 : pg0.Ok w w.heap.size) :
    Calls Try.prog 7 #[pgA pg0] w fun e w' => e = .returned (.bool true) ∧ Below w.heap.size w w' := by
  have HP := kp w0
  clear w0
  obtain ⟨r, hr⟩ : ∃ r, Q.small pg0 = r := ⟨_, rfl⟩
  have HR := kp hr
  clear hr
  rw [pgA_is]
  cases r
  · go_enter Try.func7, Try.ntmps7
    go_wp2_with (first
      | ((with_reducible refine wpList_box_agg rfl 24 (.tmp 0) rfl (pgC pg0) rfl ?_); intro g1 u1 hg1 hk1 hu1; have HK1 := kp hk1; have HU1 := kp hu1; have hz1 := hu1.size; clear hg1 hk1 hu1))
    refine (awake_any u1).mono ?_
    rintro e w1 ⟨rfl, hb1⟩
    have HW1 : Kept (Below w.heap.size w w1) := kp (HU1.out.trans (hb1.mono hz1))
    have hs1 := HW1.out.size
    have HP1 := kp (HP.out.below HW1.out)
    have HKa := kp (HK1.out.below hb1 HK1.out.lt)
    obtain ⟨hc0, hc1, hc2, hc3⟩ := pg_cells HKa.out
    clear hb1
    go_wp2_with fail
    refine (ref_small _ pg0 w1 HP1.out hs1 _ HR.out).mono ?_
    rintro e w2 ⟨rfl, hb2⟩
    have HW2 : Kept (Below w.heap.size w w2) := kp (HW1.out.trans (hb2.mono hs1))
    have hs2 := HW2.out.size
    have HP2 := kp (HP.out.below HW2.out)
    have HKb := kp (HKa.out.below hb2 HKa.out.lt)
    clear hb2 hc0 hc1 hc2 hc3
    obtain ⟨hc0, hc1, hc2, hc3⟩ := pg_cells HKb.out
    go_wp2_with fail
    refine (awake_any w2).mono ?_
    rintro e w3 ⟨rfl, hb3⟩
    have HW3 := kp (HW2.out.trans (hb3.mono hs2))
    clear hb3
    go_wp2
    go_ret
    exact ⟨rfl, HW3.out⟩
  · obtain ⟨a, b, c, hc⟩ : ∃ a b c, Q.check pg0 = (a, b, c) := ⟨_, _, _, rfl⟩
    have HC := kp hc
    by_cases hc0 : c = 0
    · subst hc0
      have HF := kp (fine_of hc)
      clear hc
      go_enter Try.func7, Try.ntmps7
      go_wp2_with (first
        | ((with_reducible refine wpList_box_agg rfl 24 (.tmp 0) rfl (pgC pg0) rfl ?_); intro g1 u1 hg1 hk1 hu1; have HK1 := kp hk1; have HU1 := kp hu1; have hz1 := hu1.size; clear hg1 hk1 hu1))
      refine (awake_any u1).mono ?_
      rintro e w1 ⟨rfl, hb1⟩
      have HW1 : Kept (Below w.heap.size w w1) := kp (HU1.out.trans (hb1.mono hz1))
      have hs1 := HW1.out.size
      have HP1 := kp (HP.out.below HW1.out)
      have HKa := kp (HK1.out.below hb1 HK1.out.lt)
      obtain ⟨hc0, hc1, hc2, hc3⟩ := pg_cells HKa.out
      clear hb1
      go_wp2_with fail
      refine (ref_small _ pg0 w1 HP1.out hs1 _ HR.out).mono ?_
      rintro e w2 ⟨rfl, hb2⟩
      have HW2 : Kept (Below w.heap.size w w2) := kp (HW1.out.trans (hb2.mono hs1))
      have hs2 := HW2.out.size
      have HP2 := kp (HP.out.below HW2.out)
      have HKb := kp (HKa.out.below hb2 HKa.out.lt)
      clear hb2 hc0 hc1 hc2 hc3
      obtain ⟨hc0, hc1, hc2, hc3⟩ := pg_cells HKb.out
      go_wp2_with fail
      refine (prog_check _ pg0 w2 HP2.out hs2 HR.out a b 0 HC.out).mono ?_
      rintro e w3 ⟨rfl, hb3⟩
      have HW3 : Kept (Below w.heap.size w w3) := kp (HW2.out.trans (hb3.mono hs2))
      have hs3 := HW3.out.size
      have HKc := kp (HKb.out.below hb3 HKb.out.lt)
      clear hb3 hc0 hc1 hc2 hc3
      have HPW : Kept (∀ W, Below w3.heap.size w3 W → pg0.Ok W w.heap.size) := kp fun W hW => HP.out.below (HW3.out.trans (hW.mono hs3))
      obtain ⟨ad, hA⟩ : ∃ ad, pg0.A = some ad := by
        obtain ⟨ad, _, e, _⟩ := HP.out.fn (k := 0) (by have := HF.out.counts.f; rw [HP.out.row.len] at this; omega)
        exact ⟨ad, e⟩
      have HA := kp hA
      have hlen := HP.out.row.len
      have HLen := kp hlen
      have hl16 : pg0.len ≤ 16 := by have := HF.out.counts.f; omega
      have hcap : pg0.len ≤ pg0.cap := HP.out.lc
      have hcapm := HP.out.cm
      unfold maxLen at hcapm
      have HCA : Kept (∀ W, Below w3.heap.size w3 W → W.cell? ⟨g1, 0, none⟩ = some (.int .i64 pg0.g) ∧ W.cell? ⟨g1, 1, none⟩ = some (.int .i64 pg0.l) ∧ W.cell? ⟨g1, 2, none⟩ = some (.int .i64 pg0.s) ∧ W.cell? ⟨g1, 3, none⟩ = some (.slice pg0.A pg0.len pg0.cap)) := kp fun W hW => pg_cells (HKc.out.below hW HKc.out.lt)
      have HC3 : Kept (∀ W, Below w3.heap.size w3 W → W.cell? ⟨g1, 3, none⟩ = some (.slice (some ad) pg0.len pg0.cap)) := kp fun W hW => by rw [← HA.out]; exact (HCA.out W hW).2.2.2
      have HS3 : Kept (∀ W, Below w3.heap.size w3 W → w.heap.size ≤ W.heap.size) := kp fun W hW => Nat.le_trans hs3 hW.size
      clear hA hlen
      go_wp2
      go_loopw [6] (fun v6 wr => ∃ f : Nat, f ≤ pg0.len ∧ v6 = .int .i64 f ∧ Below w3.heap.size w3 wr) (fun v6 _ => pg0.len - (intOf v6).toNat)
      case atStart => exact ⟨0, by omega, rfl, Below.refl _ _⟩
      case round =>
        obtain ⟨f, hf, rfl, hbw⟩ := hrel
        have HBw := kp hbw
        have hc3 := HC3.out wr hbw
        clear hbw
        by_cases hlt : f < pg0.len
        · obtain ⟨ad0, fn, e0, _, hfn, hfok, hcf0⟩ := (HPW.out w3 (Below.refl _ _)).fn hlt
          rw [HA.out] at e0
          cases e0
          obtain ⟨fA, fl, fc, fns⟩ := fn
          obtain ⟨hf1, hf2, hf3⟩ := Q.fine_fn hfn (HF.out.nodes f (by rw [HLen.out]; exact hlt))
          simp only at hf1 hf2 hf3 hcf0
          have hfll : fns.length = fl := hfok.nodes.1.len
          obtain ⟨adf, _, e1, _⟩ := hfok.nodes.get (k := 0) (by show 0 < fl; omega)
          simp only at e1
          subst e1
          have HMayAll : Kept (∀ (i : Nat) (nd : Nd), fns[i]? = some nd → Q.may pg0.g pg0.l pg0.s pg0.len nd (fl : Int) = true) := kp (by rw [← hfll]; exact hf3)
          have HFn := kp hfn
          have hfl0 : 0 < fl := by omega
          have hfl64 : fl ≤ 64 := by omega
          have hflc : fl ≤ fc := hfok.lc
          have hfcm := hfok.cm
          simp only [maxLen] at hfcm
          have HFok : Kept (∀ W, Below w3.heap.size w3 W → Nodes W w.heap.size (some adf) fl fns) := kp fun W hW => hfok.nodes.keep fun p hp => hW.cell (by omega)
          have HCF : Kept (∀ W, Below w3.heap.size w3 W → W.cell? (ad.add f) = some (.slice (some adf) fl fc)) := kp fun W hW => by
            obtain ⟨ad1, fn1, e1, hab1, hfn1, _, hcell1⟩ := (HPW.out W hW).fn hlt
            rw [HA.out] at e1
            cases e1
            rw [HFn.out] at hfn1
            cases hfn1
            exact hcell1
          clear hfn hfok hcf0 hf1 hf2 hf3 hfll
          go_wp2
          go_loopw [7] (fun v7 wr => ∃ i : Nat, i ≤ fl ∧ v7 = .int .i64 i ∧ Below w3.heap.size w3 wr) (fun v7 _ => fl - (intOf v7).toNat)
          case atStart => exact ⟨0, by omega, rfl, HBw.out⟩
          case round =>
            clear HBw hc3
            obtain ⟨i, hi, rfl, hbw⟩ := hrel
            have HBw := kp hbw
            have hc3 := HC3.out wr hbw
            have hcf := HCF.out wr hbw
            have hs4 := hbw.size
            clear hbw
            by_cases hlti : i < fl
            · obtain ⟨adf1, nd, e2, hadf, hnd, hndok, he0, he1, he2, he3⟩ := (HFok.out wr HBw.out).get hlti
              cases e2
              have HNd := kp hndok
              have hmay := HMayAll.out i nd hnd
              have HMay := kp hmay
              have HNext := kp (may_next hmay hfl0)
              obtain ⟨us, hus⟩ : ∃ us, (Q.succ nd).map intV = us := ⟨_, rfl⟩
              have hz0 := succ_zero nd
              have hz2 := succ_two nd
              rw [hus] at hz0 hz2
              have HUs : Kept (∀ u ∈ us, ∃ y : Int, u = .int .i64 y ∧ 0 ≤ y ∧ y < (fl : Int)) := kp (by
                intro u hu
                rw [← hus] at hu
                obtain ⟨y, hy, rfl⟩ := List.mem_map.1 hu
                exact ⟨y, rfl, HNext.out y hy⟩)
              have hus2 : us.length ≤ 2 := by
                rw [← hus, List.length_map]; unfold Q.succ; split <;> (try split) <;> simp
              have HUs2 := kp hus
              have HI : Kept (I64 (fl : Int)) := kp (by unfold I64; omega)
              clear hnd hndok hmay hus
              go_wp2_with (first
                | ((with_reducible show wpList _ _ _ (⟨some 8, _, _, _, _, _⟩ :: _) _ _); go_must (refine wpList_alloc_zero rfl 26 rfl (ndC ⟨0, 0, 0, 0⟩) nd_zero ?_); intro g8 w6 hg8 hk6 hw6; have HK6 := kp hk6; have HW6 : Kept (Below w3.heap.size w3 w6) := kp (HBw.out.trans (hw6.mono hs4)); have hs6 := HW6.out.size; clear hk6 hw6)
                | ((with_reducible show wpList _ _ _ (⟨none, _, _, _, _, _⟩ :: _) _ _); go_must (refine wpList_store_blk rfl 26 (.tmp 8) (.tmp 51) rfl g8 (ndC nd) rfl rfl _ _ HK6.out nd_size rfl (nd_ones nd) ?_); intro w7 hk7 hg7 hs7
                   obtain ⟨hd0, hd1, hd2, hd3⟩ := nd_cells hk7
                   have HK7 := kp hk7
                   have HW7 : Kept (Below w3.heap.size w3 w7) := kp (HW6.out.grown hg7 hs6 (by intro k e; cases e; omega))
                   have hs77 := HW7.out.size
                   clear hk7 hg7 he0 he1 he2 he3 hc3 hcf)
                | (go_at_call 11; go_must (refine (prog_succ nd HNd.out w7).mono ?_); rintro e w8 ⟨v8, rfl, hown8, hb8⟩
                   rw [HUs2.out] at hown8
                   obtain ⟨A8, c8, rfl, hc8, hm8, hr8, _⟩ := hown8.form
                   have HR8 := kp hr8
                   have HK8 := kp (HK7.out.below hb8 HK7.out.lt)
                   have HW8 : Kept (Below w3.heap.size w3 w8) := kp (HW7.out.trans (hb8.mono hs77))
                   have hs8 := HW8.out.size
                   have hm88 : c8 ≤ 9223372036854775807 := by unfold maxLen at hm8; omega
                   clear hown8 hb8 hm8 hr8 hd0 hd1 hd2 hd3))
              have HBl : Kept (∀ W, Below w8.heap.size w8 W → Below w3.heap.size w3 W) := kp fun W hW => HW8.out.trans (hW.mono hs8)
              have HCN : Kept (∀ W, Below w8.heap.size w8 W → W.cell? ⟨g8, 0, none⟩ = some (.int .i64 nd.kind) ∧ W.cell? ⟨g8, 1, none⟩ = some (.int .i64 nd.arg) ∧ W.cell? ⟨g8, 2, none⟩ = some (.int .i64 nd.next) ∧ W.cell? ⟨g8, 3, none⟩ = some (.int .i64 nd.alt)) := kp fun W hW => nd_cells (HK8.out.below hW HK8.out.lt)
              have HSZ : Kept (∀ W, Below w8.heap.size w8 W → w.heap.size ≤ W.heap.size) := kp fun W hW => HS3.out W (HBl.out W hW)
              apply region_list (.is _ :: .is _ :: .is _ :: .is _ :: .is _ :: .is _ :: .is _ :: .is _ :: .is _ :: .is _ :: .is _ :: .is _ :: .is _ :: .is _ :: .is _ :: .is _ :: .is _ :: .is _ :: .is _ :: .is _ :: .is _ :: .is _ :: .is _ :: .is _ :: .is _ :: .is _ :: .is _ :: .is _ :: [])
                [[], [(0, 54)], [(1, 55)], [], [(3, 57)], [(4, 58)], [(2, 56), (5, 59)], [(6, 60)], [(7, 61)], [(8, 62), (7, 61)], [(9, 63), (7, 61)], [(7, 61)], [(11, 65), (7, 61)], [(12, 66), (7, 61)], [(10, 64), (13, 67), (7, 61)], [(7, 61), (14, 68)], [(15, 69)], [(16, 70)], [(16, 70)], [(16, 70)], [(19, 73), (16, 70)], [(16, 70)], [(20, 74), (21, 75), (16, 70)], [(22, 76), (16, 70)], [(23, 77), (16, 70)], [(17, 71), (18, 72), (24, 78), (16, 70)], [(25, 79), (16, 70)], [(16, 70), (26, 80)]]
                [(0, 54), (1, 55), (2, 56), (3, 57), (4, 58), (5, 59), (6, 60), (7, 61), (8, 62), (9, 63), (10, 64), (11, 65), (12, 66), (13, 67), (14, 68), (15, 69), (16, 70), (17, 71), (18, 72), (19, 73), (20, 74), (21, 75), (22, 76), (23, 77), (24, 78), (25, 79), (26, 80), (27, 81)] (by kernel_rfl) (by kernel_rfl)
              case hob =>
                refine ⟨?o0, ?o1, ?o2, ?o3, ?o4, ?o5, ?o6, ?o7, ?o8, ?o9, ?o10, ?o11, ?o12, ?o13, ?o14, ?o15, ?o16, ?o17, ?o18, ?o19, ?o20, ?o21, ?o22, ?o23, ?o24, ?o25, ?o26, ?o27, trivial⟩
                case o0 => intro W hW; change wpList _ _ _ _ _ _; go_wp2; exact pure_post rfl rfl rfl
                case o1 => intro W hW; rintro _ rfl; change wpList _ _ _ _ _ _; go_wp2; exact pure_post rfl rfl rfl
                case o2 => intro W hW; rintro _ rfl; change wpList _ _ _ _ _ _; go_wp2; exact pure_post rfl rfl rfl
                case o3 => intro W hW; change wpList _ _ _ _ _ _; go_wp2; exact pure_post rfl rfl rfl
                case o4 =>
                  intro W hW; rintro _ rfl; change wpList _ _ _ _ _ _
                  obtain ⟨hd0, hd1, hd2, hd3⟩ := HCN.out W hW
                  go_wp2; exact pure_post rfl rfl rfl
                case o5 => intro W hW; rintro _ rfl; change wpList _ _ _ _ _ _; go_wp2; exact pure_post rfl rfl rfl
                case o6 => intro W hW; rintro _ rfl; rintro _ rfl; change wpList _ _ _ _ _ _; go_wp2; exact pure_post rfl rfl rfl
                case o7 => intro W hW; rintro _ rfl; change wpList _ _ _ _ _ _; go_wp2; exact pure_post rfl rfl rfl
                case o8 => intro W hW; rintro _ rfl; change wpList _ _ _ _ _ _; go_wp2; exact pure_post rfl rfl rfl
                case o9 => intro W hW; rintro _ rfl; rintro _ rfl; change wpList _ _ _ _ _ _; go_wp2; exact pure_post rfl rfl rfl
                case o10 => intro W hW; rintro _ rfl; rintro _ rfl; change wpList _ _ _ _ _ _; go_wp2; exact pure_post rfl rfl rfl
                case o11 => intro W hW; rintro _ rfl; change wpList _ _ _ _ _ _; go_wp2; exact pure_post rfl rfl rfl
                case o12 =>
                  intro W hW; rintro _ rfl; rintro _ rfl; change wpList _ _ _ _ _ _
                  obtain ⟨hd0, hd1, hd2, hd3⟩ := HCN.out W hW
                  go_wp2; exact pure_post rfl rfl rfl
                case o13 => intro W hW; rintro _ rfl; rintro _ rfl; change wpList _ _ _ _ _ _; go_wp2; exact pure_post rfl rfl rfl
                case o14 => intro W hW; rintro _ rfl; rintro _ rfl; rintro _ rfl; change wpList _ _ _ _ _ _; go_wp2; exact pure_post rfl rfl rfl
                case o15 => intro W hW; rintro _ rfl; rintro _ rfl; change wpList _ _ _ _ _ _; go_wp2; exact pure_post rfl rfl rfl
                case o16 => intro W hW; rintro _ rfl; change wpList _ _ _ _ _ _; go_wp2; exact pure_post rfl rfl rfl
                case o17 =>
                  intro W hW; rintro _ rfl; change wpList _ _ _ _ _ _
                  obtain ⟨hc0, hc1, hc2, hc3⟩ := HCA.out W (HBl.out W hW)
                  go_wp2; exact pure_post rfl rfl rfl
                case o18 =>
                  intro W hW; rintro _ rfl; change wpList _ _ _ _ _ _
                  obtain ⟨hd0, hd1, hd2, hd3⟩ := HCN.out W hW
                  go_wp2; exact pure_post rfl rfl rfl
                case o19 => intro W hW; rintro _ rfl; change wpList _ _ _ _ _ _; go_wp2; exact pure_post rfl rfl rfl
                case o20 =>
                  intro W hW; rintro _ rfl; rintro _ rfl; change wpList _ _ _ _ _ _
                  have hc3 := HC3.out W (HBl.out W hW)
                  go_wp2; exact pure_post rfl rfl rfl
                case o21 => intro W hW; rintro _ rfl; change wpList _ _ _ _ _ _; go_wp2; exact pure_post rfl rfl rfl
                case o22 =>
                  intro W hW; rintro _ rfl; rintro _ rfl; rintro _ rfl; change wpList _ _ _ _ _ _
                  have hc3 := HC3.out W (HBl.out W hW)
                  go_wp2; exact pure_post rfl rfl rfl
                case o23 =>
                  intro W hW; rintro _ rfl; rintro _ rfl; change wpList _ _ _ _ _ _
                  have hcf := HCF.out W (HBl.out W hW)
                  go_wp2; exact pure_post rfl rfl rfl
                case o24 => intro W hW; rintro _ rfl; rintro _ rfl; change wpList _ _ _ _ _ _; go_wp2; exact pure_post rfl rfl rfl
                case o25 =>
                  intro W hW; rintro _ rfl; rintro _ rfl; rintro _ rfl; rintro _ rfl; change wpList _ _ _ _ _ _
                  go_wp2_with fail
                  refine (prog_may _ pg0 nd HNd.out (fl : Int) HI.out true HMay.out W (HPW.out W (HBl.out W hW)) (HSZ.out W hW)).mono ?_
                  rintro e w2 ⟨rfl, hb2⟩
                  have HB2 := kp hb2; clear hb2
                  go_wp2
                  exact made_post rfl rfl rfl HB2.out rfl
                case o26 => intro W hW; rintro _ rfl; rintro _ rfl; change wpList _ _ _ _ _ _; go_wp2; exact pure_post rfl rfl rfl
                case o27 => intro W hW; rintro _ rfl; rintro _ rfl; change wpList _ _ _ _ _ _; go_wp2; exact pure_post rfl rfl rfl
              case hend =>
                intro W hW; rintro _ rfl; rintro _ rfl; rintro _ rfl; rintro _ rfl; rintro _ rfl; rintro _ rfl; rintro _ rfl; rintro _ rfl; rintro _ rfl; rintro _ rfl; rintro _ rfl; rintro _ rfl; rintro _ rfl; rintro _ rfl; rintro _ rfl; rintro _ rfl; rintro _ rfl; rintro _ rfl; rintro _ rfl; rintro _ rfl; rintro _ rfl; rintro _ rfl; rintro _ rfl; rintro _ rfl; rintro _ rfl; rintro _ rfl; rintro _ rfl; rintro _ rfl
                simp only [given, put_lit, List.set]
                have HW9 := kp (HBl.out W hW)
                have HR9 := kp (HR8.out.below hW)
                have hs9 := hW.size
                clear hW HBl HCN HSZ
                go_wp2
                go_loopw [10] (fun v10 wq => ∃ k : Nat, k ≤ us.length ∧ v10 = .int .i64 k ∧ Below W.heap.size W wq) (fun v10 _ => us.length - (intOf v10).toNat)
                case atStart => exact ⟨0, by omega, rfl, Below.refl _ _⟩
                case round =>
                  obtain ⟨k, hk, rfl, hbq⟩ := hrel
                  have HBq := kp hbq
                  have HW10 : Kept (Below w3.heap.size w3 wr) := kp (HW9.out.trans (hbq.mono HW9.out.size))
                  have hc3 := HC3.out wr HW10.out
                  have hcf := HCF.out wr HW10.out
                  clear hbq
                  by_cases hltk : k < us.length
                  · obtain ⟨adu, u, rfl, _, hu, hcu⟩ := (HR9.out.below (HBq.out.mono hs9)).get hltk
                    obtain ⟨y, rfl, hy0, hy1⟩ := HUs.out u (List.mem_of_getElem? hu)
                    have hyb : decide (y < 0) = false := by rw [decide_eq_false_iff_not]; omega
                    have hyc : decide ((fl : Int) ≤ y) = false := by rw [decide_eq_false_iff_not]; omega
                    clear hu
                    go_wp2
                    go_quiet (fail)
                    go_wp2
                    go_roundw
                    case rel => exact ⟨k + 1, by omega, by go_num, below_drewN HBq.out _⟩
                    case measure => simp [intOf]; omega
                  · have hgek : us.length ≤ k := by omega
                    clear hltk
                    go_wp2
                    go_roundw
                    case rel => exact ⟨i + 1, by omega, by go_num, HW10.out⟩
                    case measure => simp [intOf]; omega
            · have hgei : fl ≤ i := by omega
              clear hlti
              go_wp2
              go_roundw
              case rel => exact ⟨f + 1, by omega, by go_num, HBw.out⟩
              case measure => simp [intOf]; omega
        · have hge : pg0.len ≤ f := by omega
          clear hlt
          go_wp2
          go_ret
          exact ⟨rfl, HW3.out.trans (HBw.out.mono hs3)⟩
    · have hcz : ((c : Int) != 0) = true := by simp; omega
      clear hc hc0
      go_enter Try.func7, Try.ntmps7
      go_wp2_with (first
        | ((with_reducible refine wpList_box_agg rfl 24 (.tmp 0) rfl (pgC pg0) rfl ?_); intro g1 u1 hg1 hk1 hu1; have HK1 := kp hk1; have HU1 := kp hu1; have hz1 := hu1.size; clear hg1 hk1 hu1))
      refine (awake_any u1).mono ?_
      rintro e w1 ⟨rfl, hb1⟩
      have HW1 : Kept (Below w.heap.size w w1) := kp (HU1.out.trans (hb1.mono hz1))
      have hs1 := HW1.out.size
      have HP1 := kp (HP.out.below HW1.out)
      have HKa := kp (HK1.out.below hb1 HK1.out.lt)
      obtain ⟨hc0, hc1, hc2, hc3⟩ := pg_cells HKa.out
      clear hb1
      go_wp2_with fail
      refine (ref_small _ pg0 w1 HP1.out hs1 _ HR.out).mono ?_
      rintro e w2 ⟨rfl, hb2⟩
      have HW2 : Kept (Below w.heap.size w w2) := kp (HW1.out.trans (hb2.mono hs1))
      have hs2 := HW2.out.size
      have HP2 := kp (HP.out.below HW2.out)
      have HKb := kp (HKa.out.below hb2 HKa.out.lt)
      clear hb2 hc0 hc1 hc2 hc3
      obtain ⟨hc0, hc1, hc2, hc3⟩ := pg_cells HKb.out
      go_wp2_with fail
      refine (prog_check _ pg0 w2 HP2.out hs2 HR.out a b c HC.out).mono ?_
      rintro e w3 ⟨rfl, hb3⟩
      have HW3 : Kept (Below w.heap.size w w3) := kp (HW2.out.trans (hb3.mono hs2))
      have hs3 := HW3.out.size
      have HKc := kp (HKb.out.below hb3 HKb.out.lt)
      clear hb3 hc0 hc1 hc2 hc3
      go_wp2
      go_ret
      exact ⟨rfl, HW3.out⟩
end Go.Proofs.Ytkglcmbpajfofaa
