/- RaceLocks, walked. -/
import Derived.Test.YticifjmkocgipaaRaceLaw2
namespace Go.Proofs.Yticifjmkocgipaa
open Go.RowKit

set_option maxRecDepth 1000000 in
set_option maxHeartbeats 8000000 in
theorem walkRaceLocks (pg0 : Pg) (a1 : Option Addr) (len1 cap1 : Nat) (z1 : List (Int × Bool)) (w : World) (w0 : pg0.Ok w w.heap.size) (w1 : Picks w w.heap.size a1 len1 z1) (c1 : len1 ≤ cap1 ∧ cap1 ≤ maxLen) :
    Calls Try.prog 5 #[pgA pg0, .slice a1 len1 cap1] w fun e w' => e = .returned (.bool true) ∧ Below w.heap.size w w' := by
  have HP := kp w0
  have HPi := kp w1
  have hc1 := c1.1; have hm1 := c1.2
  unfold maxLen at hm1
  obtain ⟨r, hr⟩ : ∃ r, Q.small pg0 = r := ⟨_, rfl⟩
  have HR := kp hr
  clear hr w0 w1 c1
  rw [pgA_is]
  cases r
  · go_enter Try.func5, Try.ntmps5
    go_wp2_with (first
      | ((with_reducible refine wpList_box_agg rfl 24 (.tmp 0) rfl (pgC pg0) rfl ?_); intro g1 u1 hg1 hk1 hu1; have HK1 := kp hk1; have HG1 := kp hg1; have HU1 := kp hu1; have hz1 := hu1.size; clear hg1 hk1 hu1))
    refine (race_awake u1).mono ?_
    rintro e u2 ⟨rfl, hb2⟩
    have HU2 : Kept (Below w.heap.size w u2) := kp (HU1.out.trans (hb2.mono hz1))
    have hs2 := HU2.out.size
    have HP2 := kp (HP.out.below HU2.out)
    have HK2 := kp (HK1.out.below hb2 HK1.out.lt)
    obtain ⟨hc0, hc1', hc2, hc3⟩ := pg_cells HK2.out
    clear hb2
    go_wp2_with fail
    refine (ref_small _ pg0 u2 HP2.out hs2 _ HR.out).mono ?_
    rintro e u3 ⟨rfl, hb3⟩
    have HU3 : Kept (Below w.heap.size w u3) := kp (HU2.out.trans (hb3.mono hs2))
    have hs3 := HU3.out.size
    have HP3 := kp (HP.out.below HU3.out)
    have HK3 := kp (HK2.out.below hb3 HK2.out.lt)
    clear hb3 hc0 hc1' hc2 hc3
    obtain ⟨hc0, hc1', hc2, hc3⟩ := pg_cells HK3.out
    go_wp2_with fail
    refine (race_awake u3).mono ?_
    rintro e u4 ⟨rfl, hb4⟩
    have HU4 := kp (HU3.out.trans (hb4.mono hs3))
    clear hb4
    go_wp2
    go_ret
    exact ⟨rfl, HU4.out⟩
  by_cases hbig : 300 < len1
  · go_enter Try.func5, Try.ntmps5
    go_wp2_with (first
      | ((with_reducible refine wpList_box_agg rfl 24 (.tmp 0) rfl (pgC pg0) rfl ?_); intro g1 u1 hg1 hk1 hu1; have HK1 := kp hk1; have HG1 := kp hg1; have HU1 := kp hu1; have hz1 := hu1.size; clear hg1 hk1 hu1))
    refine (race_awake u1).mono ?_
    rintro e u2 ⟨rfl, hb2⟩
    have HU2 : Kept (Below w.heap.size w u2) := kp (HU1.out.trans (hb2.mono hz1))
    have hs2 := HU2.out.size
    have HP2 := kp (HP.out.below HU2.out)
    have HK2 := kp (HK1.out.below hb2 HK1.out.lt)
    obtain ⟨hc0, hc1', hc2, hc3⟩ := pg_cells HK2.out
    clear hb2
    go_wp2_with fail
    refine (ref_small _ pg0 u2 HP2.out hs2 _ HR.out).mono ?_
    rintro e u3 ⟨rfl, hb3⟩
    have HU3 : Kept (Below w.heap.size w u3) := kp (HU2.out.trans (hb3.mono hs2))
    have hs3 := HU3.out.size
    have HP3 := kp (HP.out.below HU3.out)
    have HK3 := kp (HK2.out.below hb3 HK2.out.lt)
    clear hb3 hc0 hc1' hc2 hc3
    obtain ⟨hc0, hc1', hc2, hc3⟩ := pg_cells HK3.out
    go_wp2_with fail
    refine (race_awake u3).mono ?_
    rintro e u4 ⟨rfl, hb4⟩
    have HU4 := kp (HU3.out.trans (hb4.mono hs3))
    clear hb4
    go_wp2
    go_ret
    exact ⟨rfl, HU4.out⟩
  have HN3 := kp hbig
  go_enter Try.func5, Try.ntmps5
  go_wp2_with (first
    | ((with_reducible refine wpList_box_agg rfl 24 (.tmp 0) rfl (pgC pg0) rfl ?_); intro g1 u1 hg1 hk1 hu1; have HK1 := kp hk1; have HG1 := kp hg1; have HU1 := kp hu1; have hz1 := hu1.size; clear hg1 hk1 hu1))
  refine (race_awake u1).mono ?_
  rintro e u2 ⟨rfl, hb2⟩
  have HU2 : Kept (Below w.heap.size w u2) := kp (HU1.out.trans (hb2.mono hz1))
  have hs2 := HU2.out.size
  have HP2 := kp (HP.out.below HU2.out)
  have HK2 := kp (HK1.out.below hb2 HK1.out.lt)
  obtain ⟨hc0, hc1', hc2, hc3⟩ := pg_cells HK2.out
  clear hb2
  go_wp2_with fail
  refine (ref_small _ pg0 u2 HP2.out hs2 _ HR.out).mono ?_
  rintro e u3 ⟨rfl, hb3⟩
  have HU3 : Kept (Below w.heap.size w u3) := kp (HU2.out.trans (hb3.mono hs2))
  have hs3 := HU3.out.size
  have HP3 := kp (HP.out.below HU3.out)
  have HK3 := kp (HK2.out.below hb3 HK2.out.lt)
  clear hb3 hc0 hc1' hc2 hc3
  obtain ⟨hc0, hc1', hc2, hc3⟩ := pg_cells HK3.out
  obtain ⟨ca, cb, cc, hcc⟩ : ∃ a b c, Q.check pg0 = (a, b, c) := ⟨_, _, _, rfl⟩
  have HC := kp hcc
  clear hcc
  have hn300 : len1 ≤ 300 := by have := HN3.out; omega
  go_wp2_with fail
  refine (law_runs pg0 a1 len1 cap1 z1 u3 (pg_more9 HP3.out hs3) (picks_up HPi.out HU3.out) ⟨hc1, by unfold maxLen; exact hm1⟩ hn300 ca cb cc HC.out).mono ?_
  unfold RunsPost
  rintro e u4 ⟨q, ok, rfl, hmi, h16, hno, hyes, hb4⟩
  have HMi4 := kp hmi; have H17 := kp (conf_len h16); have HU4 := kp (HU3.out.trans (hb4.mono hs3)); have HK4 := kp (HK3.out.below hb4 HK3.out.lt); have hs4 := HU4.out.size; have hlk4 := HK4.out.lt
  clear hmi h16 hb4 hc0 hc1' hc2 hc3
  by_cases hz : cc = 0
  case neg =>
    obtain rfl := hno hz
    clear hno hyes
    go_wp2_with (first
      | ((with_reducible show wpList _ _ _ (⟨some 5, _, _, _, _, _⟩ :: _) _ _); go_must (refine wpList_alloc_zero rfl 31 rfl _ conf_zero ?_); intro gC u5 hgC hk5 hu5; have HKc := kp hk5; have HGC := kp hgC; have HU5 := kp (HU4.out.trans (hu5.mono hs4)); have HMi5 := kp (HMi4.out.below hu5 (Nat.le_refl _)); have HK5 := kp (HK4.out.below hu5 HK4.out.lt); have hs5 := HU5.out.size; have hs45 := hu5.size; clear hk5 hu5 hgC)
      | ((with_reducible show wpList _ _ _ (⟨none, _, _, _, _, _⟩ :: _) _ _); go_must (refine wpList_store_blk rfl 31 (.tmp 5) (.tmp 26) rfl gC (pcC q) rfl rfl _ _ HKc.out (by rw [H17.out]; exact conf_size) (by rw [H17.out]; rfl) (conf_ones q) ?_); intro u6 hk6 hg6 hs6'
         have HKC := kp hk6; have HB := kp (HU5.out.grown hg6 hs5 (fun k e => by cases e; have := HGC.out; omega)); have hBs := HB.out.size; have hlC := hk6.lt
         have HKP := kp (HK5.out.grown hg6 (fun e => by cases e; have := HGC.out; omega)); have hlP := HKP.out.lt
         have HMi := kp ((Mine.typed HMi5.out HKc.out hg6)); have HOq := kp HMi.out.ok; have HPr := kp (pg_more9 (HP.out.below HB.out) hBs)
         have HGw : Kept (w.heap.size ≤ g1 ∧ w.heap.size ≤ gC ∧ g1 ≠ gC) := kp ⟨by have := HG1.out; omega, by have := HGC.out; omega, by have := HGC.out; omega⟩
         clear hk6 hg6 hs6'))
    go_wp2
    go_ret
    exact ⟨rfl, HB.out⟩
  obtain ⟨rfl, hcf⟩ := hyes hz
  have HZ := kp hz; have HCf := kp hcf
  clear hno hyes hz hcf
  have HF : Kept (Fine pg0) := kp (fine_of (by rw [HC.out, HZ.out]))
  have HGd : Kept (∀ i, M.Good pg0 (runTo pg0 z1 i)) := kp (runTo_good HF.out HP.out.row.len z1)
  have HGq : Kept (M.Good pg0 q.cf) := kp (by rw [HCf.out]; exact HGd.out len1)
  go_wp2_with (first
    | ((with_reducible show wpList _ _ _ (⟨some 5, _, _, _, _, _⟩ :: _) _ _); go_must (refine wpList_alloc_zero rfl 31 rfl _ conf_zero ?_); intro gC u5 hgC hk5 hu5; have HKc := kp hk5; have HGC := kp hgC; have HU5 := kp (HU4.out.trans (hu5.mono hs4)); have HMi5 := kp (HMi4.out.below hu5 (Nat.le_refl _)); have HK5 := kp (HK4.out.below hu5 HK4.out.lt); have hs5 := HU5.out.size; have hs45 := hu5.size; clear hk5 hu5 hgC)
    | ((with_reducible show wpList _ _ _ (⟨none, _, _, _, _, _⟩ :: _) _ _); go_must (refine wpList_store_blk rfl 31 (.tmp 5) (.tmp 26) rfl gC (pcC q) rfl rfl _ _ HKc.out (by rw [H17.out]; exact conf_size) (by rw [H17.out]; rfl) (conf_ones q) ?_); intro u6 hk6 hg6 hs6'
       have HKC := kp hk6; have HB := kp (HU5.out.grown hg6 hs5 (fun k e => by cases e; have := HGC.out; omega)); have hBs := HB.out.size; have hlC := hk6.lt
       have HKP := kp (HK5.out.grown hg6 (fun e => by cases e; have := HGC.out; omega)); have hlP := HKP.out.lt
       have HMi := kp ((Mine.typed HMi5.out HKc.out hg6)); have HOq := kp HMi.out.ok; have HPr := kp (pg_more9 (HP.out.below HB.out) hBs)
       have HGw : Kept (w.heap.size ≤ g1 ∧ w.heap.size ≤ gC ∧ g1 ≠ gC) := kp ⟨by have := HG1.out; omega, by have := HGC.out; omega, by have := HGC.out; omega⟩
       clear hk6 hg6 hs6'))
  have h8 := most_8 HGq.out HOq.out
  have hqc := HOq.out.lc; have hqm := HOq.out.cm
  unfold maxLen at hqm
  have hcL := HKC.out.cell 0
  rw [show pcC q = .slice q.A q.len q.cap :: q.ow.map natV from rfl, List.getElem?_cons_zero] at hcL
  clear hcL
  go_loopw [7] (fun v7 wr => ∃ i : Nat, i ≤ q.len ∧ v7 = .int .i64 i ∧ Below u6.heap.size u6 wr) (fun v7 _ => q.len - (intOf v7).toNat)
  case atStart => exact ⟨0, by omega, rfl, Below.refl _ _⟩
  case round =>
    obtain ⟨wA, rfl⟩ : ∃ x, x = wr := ⟨_, rfl⟩
    obtain ⟨i, hi, rfl, hbi⟩ := hrel
    have HBi := kp hbi; have hsi := hbi.size
    have HKCi := kp (HKC.out.below hbi hlC)
    have hcL := HKCi.out.cell 0
    rw [show pcC q = .slice q.A q.len q.cap :: q.ow.map natV from rfl, List.getElem?_cons_zero] at hcL
    clear hbi
    by_cases hlt : i < q.len
    · go_wp2
      clear hcL
      go_loopw [8] (fun v8 W => ∃ j : Nat, j ≤ q.len ∧ v8 = .int .i64 j ∧ Below u6.heap.size u6 W) (fun v8 _ => q.len - (intOf v8).toNat)
      case atStart => exact ⟨0, by omega, rfl, HBi.out⟩
      case round =>
        obtain ⟨j, hj, rfl, hbj⟩ := hrel
        have HBj := kp hbj; have hsj := hbj.size
        have HKC2 := kp (HKC.out.below hbj hlC); have hlC2 := HKC2.out.lt
        have hcL := HKC2.out.cell 0
        rw [show pcC q = .slice q.A q.len q.cap :: q.ow.map natV from rfl, List.getElem?_cons_zero] at hcL
        clear hbj
        by_cases hjl : j < q.len
        · by_cases hij : i = j
          · have hb1 : ((i : Int) != (j : Int)) = false := by rw [bne_eq_false_iff_eq]; omega
            clear hij
            go_wp2
            go_quiet (fail)
            go_wp2
            go_roundw
            case rel => exact ⟨j + 1, by omega, by go_num, below_drewN HBj.out _⟩
            case measure => simp [intOf]; omega
          · have hb1 : ((i : Int) != (j : Int)) = true := by rw [bne_iff_ne]; omega
            obtain ⟨hi', hhi⟩ : ∃ x, M.held q.cf (i : Int) = x := ⟨_, rfl⟩
            obtain ⟨hj', hhj⟩ : ∃ x, M.held q.cf (j : Int) = x := ⟨_, rfl⟩
            have HHi := kp hhi; have HHj := kp hhj
            have HAnd : Kept (bits .and .u32 (hi' : Int) (hj' : Int) = 0) := kp (by rw [← hhi, ← hhj, held_in HOq.out hlt, held_in HOq.out hjl]; exact held_and q.ow hij)
            clear hhi hhj hij
            go_wp2
            apply region_list (.is (.int .i64 (i : Int)) :: .is (.int .i64 (j : Int)) :: .is (.bool true) :: .is (.bool true) :: .is (pcA q) :: .is (.int .i64 (i : Int)) :: .is (.int .u32 (hi' : Int)) :: .is (pcA q) :: .is (.int .i64 (j : Int)) :: .is (.int .u32 (hj' : Int)) :: .is (.int .u32 0) :: .is (.bool false) :: .is (.bool false) :: [])
              [[], [], [(0, 44), (1, 45)], [(2, 46)], [(3, 47)], [(3, 47)], [(4, 48), (5, 49), (3, 47)], [(3, 47)], [(3, 47)], [(7, 51), (8, 52), (3, 47)], [(6, 50), (9, 53), (3, 47)], [(10, 54), (3, 47)], [(3, 47), (11, 55)]]
              [(0, 44), (1, 45), (2, 46), (3, 47), (4, 48), (5, 49), (6, 50), (7, 51), (8, 52), (9, 53), (10, 54), (11, 55), (12, 56)] (by kernel_rfl) (by kernel_rfl)
            case hob =>
              refine ⟨?o0, ?o1, ?o2, ?o3, ?o4, ?o5, ?o6, ?o7, ?o8, ?o9, ?o10, ?o11, ?o12, trivial⟩
              case o0 => intro W hW; change wpList _ _ _ _ _ _; go_wp2; exact pure_post rfl rfl rfl
              case o1 => intro W hW; change wpList _ _ _ _ _ _; go_wp2; exact pure_post rfl rfl rfl
              case o2 => intro W hW; rintro _ rfl; rintro _ rfl; change wpList _ _ _ _ _ _; go_wp2; exact pure_post rfl rfl rfl
              case o3 => intro W hW; rintro _ rfl; change wpList _ _ _ _ _ _; go_wp2; exact pure_post rfl rfl rfl
              case o4 =>
                intro W hW; rintro _ rfl; change wpList _ _ _ _ _ _
                go_must (refine wpList_load_blk_w rfl 31 (.tmp 5) rfl gC rfl _ (pcC q) _ (HKC2.out.below hW hlC2) Try.underlying31 rfl (by rw [H17.out]; exact conf_size) ?_)
                go_wp2; exact pure_post rfl rfl rfl
              case o5 => intro W hW; rintro _ rfl; change wpList _ _ _ _ _ _; go_wp2; exact pure_post rfl rfl rfl
              case o6 =>
                intro W hW; rintro _ rfl; rintro _ rfl; rintro _ rfl; change wpList _ _ _ _ _ _
                have hsW := hW.size
                go_wp2_with fail
                refine (sem_held q W HOq.out.row.len h8 HGq.out.owns (own_8 HGq.out) (i : Int) (by unfold I64; omega) hi' HHi.out).mono ?_
                rintro e w2 ⟨rfl, hb2⟩
                have HB2 := kp hb2; clear hb2
                go_wp2
                exact made_post rfl rfl rfl HB2.out rfl
              case o7 =>
                intro W hW; rintro _ rfl; change wpList _ _ _ _ _ _
                go_must (refine wpList_load_blk_w rfl 31 (.tmp 5) rfl gC rfl _ (pcC q) _ (HKC2.out.below hW hlC2) Try.underlying31 rfl (by rw [H17.out]; exact conf_size) ?_)
                go_wp2; exact pure_post rfl rfl rfl
              case o8 => intro W hW; rintro _ rfl; change wpList _ _ _ _ _ _; go_wp2; exact pure_post rfl rfl rfl
              case o9 =>
                intro W hW; rintro _ rfl; rintro _ rfl; rintro _ rfl; change wpList _ _ _ _ _ _
                have hsW := hW.size
                go_wp2_with fail
                refine (sem_held q W HOq.out.row.len h8 HGq.out.owns (own_8 HGq.out) (j : Int) (by unfold I64; omega) hj' HHj.out).mono ?_
                rintro e w2 ⟨rfl, hb2⟩
                have HB2 := kp hb2; clear hb2
                go_wp2
                exact made_post rfl rfl rfl HB2.out rfl
              case o10 =>
                intro W hW; rintro _ rfl; rintro _ rfl; rintro _ rfl; change wpList _ _ _ _ _ _
                have hnd := HAnd.out
                go_wp2; exact pure_post rfl rfl rfl
              case o11 => intro W hW; rintro _ rfl; rintro _ rfl; change wpList _ _ _ _ _ _; go_wp2; exact pure_post rfl rfl rfl
              case o12 => intro W hW; rintro _ rfl; rintro _ rfl; change wpList _ _ _ _ _ _; go_wp2; exact pure_post rfl rfl rfl
            case hend =>
              intro W hW; rintro _ rfl; rintro _ rfl; rintro _ rfl; rintro _ rfl; rintro _ rfl; rintro _ rfl; rintro _ rfl; rintro _ rfl; rintro _ rfl; rintro _ rfl; rintro _ rfl; rintro _ rfl; rintro _ rfl
              simp only [given, put_lit, List.set]
              have HW := kp (HBj.out.trans (hW.mono hsj))
              clear hW
              go_wp2
              go_roundw
              case rel => exact ⟨j + 1, by omega, by go_num, HW.out⟩
              case measure => simp [intOf]; omega
        · have hge : q.len ≤ j := by omega
          go_wp2
          go_roundw
          case rel => exact ⟨i + 1, by omega, by go_num, HBj.out⟩
          case measure => simp [intOf]; omega
    · have hge : q.len ≤ i := by omega
      have HBW := kp (HB.out.trans (HBi.out.mono hBs))
      go_wp2
      go_ret
      exact ⟨rfl, HBW.out⟩
end Go.Proofs.Yticifjmkocgipaa
