/- RaceMore, walked. -/
import Derived.Test.YticifjmkocgipaaRaceLaw2
import Derived.Deep.Cut
import Derived.BigQuiet
namespace Go.Proofs.Yticifjmkocgipaa
open Go.RowKit

set_option maxRecDepth 1000000 in
set_option maxHeartbeats 8000000 in
theorem walkRaceMore (pg0 : Pg) (a1 : Option Addr) (len1 cap1 : Nat) (z1 : List (Int × Bool)) (a2 : Int) (w : World) (w0 : pg0.Ok w w.heap.size) (w1 : Picks w w.heap.size a1 len1 z1) (c1 : len1 ≤ cap1 ∧ cap1 ≤ maxLen) (w2 : (Lit.int .u8 a2).wf = true) :
    Calls Try.prog 7 #[pgA pg0, .slice a1 len1 cap1, .int .u8 a2] w fun e w' => e = .returned (.bool true) ∧ Below w.heap.size w w' := by
  have HP := kp w0
  have HPi := kp w1
  have hc1 := c1.1; have hm1 := c1.2
  unfold maxLen at hm1
  obtain ⟨r, hr⟩ : ∃ r, Q.small pg0 = r := ⟨_, rfl⟩
  have HR := kp hr
  clear hr w0 w1 c1
  have HU8 : Kept (0 ≤ a2 ∧ a2 < 256) := kp (u8_range _ w2)
  clear w2
  rw [pgA_is]
  cases r
  · go_enter Try.func7, Try.ntmps7
    go_wp2_with (first
      | ((with_reducible refine wpList_box_agg rfl 24 (.tmp 0) rfl (pgC pg0) rfl ?_); intro g1 u1 hg1 hk1 hu1; have HK1 := kp hk1; have HG1 := kp hg1; have HU1 := kp hu1; have hz1 := hu1.size; clear hg1 hk1 hu1))
    refine (race_awake u1).mono ?_
    rintro e u2 ⟨rfl, hb2⟩
    have HU2 : Kept (Below w.heap.size w u2) := kp (HU1.out.trans (hb2.mono hz1))
    have hs2 := HU2.out.size
    have HP2 := kp (HP.out.below HU2.out)
    have HK2 := kp (HK1.out.below hb2 HK1.out.lt)
    obtain ⟨hc0, hc1', hc2, hc3⟩ := pg_cells HK2.out
    clear hb2
    go_wp2_with fail
    refine (ref_small _ pg0 u2 HP2.out hs2 _ HR.out).mono ?_
    rintro e u3 ⟨rfl, hb3⟩
    have HU3 : Kept (Below w.heap.size w u3) := kp (HU2.out.trans (hb3.mono hs2))
    have hs3 := HU3.out.size
    have HP3 := kp (HP.out.below HU3.out)
    have HK3 := kp (HK2.out.below hb3 HK2.out.lt)
    clear hb3 hc0 hc1' hc2 hc3
    obtain ⟨hc0, hc1', hc2, hc3⟩ := pg_cells HK3.out
    go_wp2_with fail
    refine (race_awake u3).mono ?_
    rintro e u4 ⟨rfl, hb4⟩
    have HU4 := kp (HU3.out.trans (hb4.mono hs3))
    clear hb4
    go_wp2
    go_ret
    exact ⟨rfl, HU4.out⟩
  by_cases hbig : 300 < len1
  · go_enter Try.func7, Try.ntmps7
    go_wp2_with (first
      | ((with_reducible refine wpList_box_agg rfl 24 (.tmp 0) rfl (pgC pg0) rfl ?_); intro g1 u1 hg1 hk1 hu1; have HK1 := kp hk1; have HG1 := kp hg1; have HU1 := kp hu1; have hz1 := hu1.size; clear hg1 hk1 hu1))
    refine (race_awake u1).mono ?_
    rintro e u2 ⟨rfl, hb2⟩
    have HU2 : Kept (Below w.heap.size w u2) := kp (HU1.out.trans (hb2.mono hz1))
    have hs2 := HU2.out.size
    have HP2 := kp (HP.out.below HU2.out)
    have HK2 := kp (HK1.out.below hb2 HK1.out.lt)
    obtain ⟨hc0, hc1', hc2, hc3⟩ := pg_cells HK2.out
    clear hb2
    go_wp2_with fail
    refine (ref_small _ pg0 u2 HP2.out hs2 _ HR.out).mono ?_
    rintro e u3 ⟨rfl, hb3⟩
    have HU3 : Kept (Below w.heap.size w u3) := kp (HU2.out.trans (hb3.mono hs2))
    have hs3 := HU3.out.size
    have HP3 := kp (HP.out.below HU3.out)
    have HK3 := kp (HK2.out.below hb3 HK2.out.lt)
    clear hb3 hc0 hc1' hc2 hc3
    obtain ⟨hc0, hc1', hc2, hc3⟩ := pg_cells HK3.out
    go_wp2_with fail
    refine (race_awake u3).mono ?_
    rintro e u4 ⟨rfl, hb4⟩
    have HU4 := kp (HU3.out.trans (hb4.mono hs3))
    clear hb4
    go_wp2
    go_ret
    exact ⟨rfl, HU4.out⟩
  have HN3 := kp hbig
  go_enter Try.func7, Try.ntmps7
  go_wp2_with (first
    | ((with_reducible refine wpList_box_agg rfl 24 (.tmp 0) rfl (pgC pg0) rfl ?_); intro g1 u1 hg1 hk1 hu1; have HK1 := kp hk1; have HG1 := kp hg1; have HU1 := kp hu1; have hz1 := hu1.size; clear hg1 hk1 hu1))
  refine (race_awake u1).mono ?_
  rintro e u2 ⟨rfl, hb2⟩
  have HU2 : Kept (Below w.heap.size w u2) := kp (HU1.out.trans (hb2.mono hz1))
  have hs2 := HU2.out.size
  have HP2 := kp (HP.out.below HU2.out)
  have HK2 := kp (HK1.out.below hb2 HK1.out.lt)
  obtain ⟨hc0, hc1', hc2, hc3⟩ := pg_cells HK2.out
  clear hb2
  go_wp2_with fail
  refine (ref_small _ pg0 u2 HP2.out hs2 _ HR.out).mono ?_
  rintro e u3 ⟨rfl, hb3⟩
  have HU3 : Kept (Below w.heap.size w u3) := kp (HU2.out.trans (hb3.mono hs2))
  have hs3 := HU3.out.size
  have HP3 := kp (HP.out.below HU3.out)
  have HK3 := kp (HK2.out.below hb3 HK2.out.lt)
  clear hb3 hc0 hc1' hc2 hc3
  obtain ⟨hc0, hc1', hc2, hc3⟩ := pg_cells HK3.out
  obtain ⟨ca, cb, cc, hcc⟩ : ∃ a b c, Q.check pg0 = (a, b, c) := ⟨_, _, _, rfl⟩
  have HC := kp hcc
  clear hcc
  have hn300 : len1 ≤ 300 := by have := HN3.out; omega
  go_wp2_with fail
  refine (law_runs pg0 a1 len1 cap1 z1 u3 (pg_more9 HP3.out hs3) (picks_up HPi.out HU3.out) ⟨hc1, by unfold maxLen; exact hm1⟩ hn300 ca cb cc HC.out).mono ?_
  unfold RunsPost
  rintro e u4 ⟨q, ok, rfl, hmi, h16, hno, hyes, hb4⟩
  have HMi4 := kp hmi; have H17 := kp (conf_len h16); have HU4 := kp (HU3.out.trans (hb4.mono hs3)); have HK4 := kp (HK3.out.below hb4 HK3.out.lt); have hs4 := HU4.out.size; have hlk4 := HK4.out.lt
  clear hmi h16 hb4 hc0 hc1' hc2 hc3
  by_cases hz : cc = 0
  case neg =>
    obtain rfl := hno hz
    clear hno hyes
    go_wp2_with (first
      | ((with_reducible show wpList _ _ _ (⟨some 7, _, _, _, _, _⟩ :: _) _ _); go_must (refine wpList_alloc_zero rfl 31 rfl _ conf_zero ?_); intro gC u5 hgC hk5 hu5; have HKc := kp hk5; have HGC := kp hgC; have HU5 := kp (HU4.out.trans (hu5.mono hs4)); have HMi5 := kp (HMi4.out.below hu5 (Nat.le_refl _)); have HK5 := kp (HK4.out.below hu5 HK4.out.lt); have hs5 := HU5.out.size; have hs45 := hu5.size; clear hk5 hu5 hgC)
      | ((with_reducible show wpList _ _ _ (⟨none, _, _, _, _, _⟩ :: _) _ _); go_must (refine wpList_store_blk rfl 31 (.tmp 7) (.tmp 37) rfl gC (pcC q) rfl rfl _ _ HKc.out (by rw [H17.out]; exact conf_size) (by rw [H17.out]; rfl) (conf_ones q) ?_); intro u6 hk6 hg6 hs6'
         have HKC := kp hk6; have HB := kp (HU5.out.grown hg6 hs5 (fun k e => by cases e; have := HGC.out; omega)); have hBs := HB.out.size; have hlC := hk6.lt
         have HKP := kp (HK5.out.grown hg6 (fun e => by cases e; have := HGC.out; omega)); have hlP := HKP.out.lt
         have HMi := kp ((Mine.typed HMi5.out HKc.out hg6)); have HOq := kp HMi.out.ok; have HPr := kp (pg_more9 (HP.out.below HB.out) hBs)
         have HGw : Kept (w.heap.size ≤ g1 ∧ w.heap.size ≤ gC ∧ g1 ≠ gC) := kp ⟨by have := HG1.out; omega, by have := HGC.out; omega, by have := HGC.out; omega⟩
         clear hk6 hg6 hs6'))
    go_wp2
    go_ret
    exact ⟨rfl, HB.out⟩
  obtain ⟨rfl, hcf⟩ := hyes hz
  have HZ := kp hz; have HCf := kp hcf
  clear hno hyes hz hcf
  have HF : Kept (Fine pg0) := kp (fine_of (by rw [HC.out, HZ.out]))
  have HGd : Kept (∀ i, M.Good pg0 (runTo pg0 z1 i)) := kp (runTo_good HF.out HP.out.row.len z1)
  have HGq : Kept (M.Good pg0 q.cf) := kp (by rw [HCf.out]; exact HGd.out len1)
  go_wp2_with (first
    | ((with_reducible show wpList _ _ _ (⟨some 7, _, _, _, _, _⟩ :: _) _ _); go_must (refine wpList_alloc_zero rfl 31 rfl _ conf_zero ?_); intro gC u5 hgC hk5 hu5; have HKc := kp hk5; have HGC := kp hgC; have HU5 := kp (HU4.out.trans (hu5.mono hs4)); have HMi5 := kp (HMi4.out.below hu5 (Nat.le_refl _)); have HK5 := kp (HK4.out.below hu5 HK4.out.lt); have hs5 := HU5.out.size; have hs45 := hu5.size; clear hk5 hu5 hgC)
    | ((with_reducible show wpList _ _ _ (⟨none, _, _, _, _, _⟩ :: _) _ _); go_must (refine wpList_store_blk rfl 31 (.tmp 7) (.tmp 37) rfl gC (pcC q) rfl rfl _ _ HKc.out (by rw [H17.out]; exact conf_size) (by rw [H17.out]; rfl) (conf_ones q) ?_); intro u6 hk6 hg6 hs6'
       have HKC := kp hk6; have HB := kp (HU5.out.grown hg6 hs5 (fun k e => by cases e; have := HGC.out; omega)); have hBs := HB.out.size; have hlC := hk6.lt
       have HKP := kp (HK5.out.grown hg6 (fun e => by cases e; have := HGC.out; omega)); have hlP := HKP.out.lt
       have HMi := kp ((Mine.typed HMi5.out HKc.out hg6)); have HOq := kp HMi.out.ok; have HPr := kp (pg_more9 (HP.out.below HB.out) hBs)
       have HGw : Kept (w.heap.size ≤ g1 ∧ w.heap.size ≤ gC ∧ g1 ≠ gC) := kp ⟨by have := HG1.out; omega, by have := HGC.out; omega, by have := HGC.out; omega⟩
       clear hk6 hg6 hs6')
    | ((with_reducible show wpList _ _ _ (⟨some 44, _, _, _, _, _⟩ :: _) _ _); go_must (refine wpList_load_blk rfl 31 (.tmp 7) rfl gC rfl _ (pcC q) _ HKC.out Try.underlying31 rfl (by rw [H17.out]; exact conf_size) ?_))
    | ((with_reducible show wpList _ _ _ (⟨some 45, _, _, _, _, _⟩ :: _) _ _); go_must (refine wpList_load_blk rfl 24 (.tmp 3) rfl g1 rfl _ (pgC pg0) _ HKP.out Try.underlying24 rfl pg_size ?_))
    | (go_at_call 21; fail))
  obtain ⟨k, hk⟩ : ∃ k : Nat, k = (a2 % 8).toNat := ⟨_, rfl⟩
  have h8 := HU8.out
  have hwr : wrap64 a2 = a2 := by unfold wrap64; omega
  have hkk : (wrap64 a2).tmod 8 = (k : Int) := by rw [hwr, Int.tmod_eq_emod_of_nonneg h8.1]; omega
  have hk8 : k < 8 := by omega
  have HIk : Kept (I64 (k : Int)) := kp (by unfold I64; omega)
  rw [hkk]
  clear hk h8 hwr hkk
  obtain ⟨cd, hcd⟩ : ∃ c, M.step pg0 q.cf (k : Int) false = c := ⟨_, rfl⟩
  have HcD := kp hcd
  have HGd2 := kp (show M.Good pg0 cd by rw [← hcd]; exact M.good_step HF.out HP.out.row.len HGq.out (k : Int) false)
  clear hcd
  refine (sem_step _ pg0 HF.out q u6 HPr.out HOq.out HGq.out (Nat.le_refl _) (k : Int) HIk.out false).mono ?_
  rintro e u7 ⟨d, rfl, hmd, hcfd, hb7⟩
  have HMd7 := kp hmd; have HCd : Kept (d.cf = cd) := kp (by rw [hcfd, HcD.out])
  have HGdd := kp (show M.Good pg0 d.cf by rw [HCd.out]; exact HGd2.out)
  have HD17 := kp (conf_len HGdd.out.owns)
  have HU7 := kp (HB.out.trans (hb7.mono hBs)); have hs7 := HU7.out.size; have hs67 := hb7.size; have HB7 := kp hb7
  clear hmd hcfd hb7
  go_wp2_with (first
    | ((with_reducible show wpList _ _ _ (⟨some 10, _, _, _, _, _⟩ :: _) _ _); go_must (refine wpList_alloc_zero rfl 31 rfl _ conf_zero ?_); intro gD u8 hgD hk8 hu8; have HKd := kp hk8; have HGD := kp hgD; have HB8 := kp (HB7.out.trans (hu8.mono hs67)); have HMd8 := kp (HMd7.out.below hu8 (Nat.le_refl _)); have hs8 := HB8.out.size; clear hk8 hu8 hgD)
    | ((with_reducible show wpList _ _ _ (⟨none, _, _, _, _, _⟩ :: _) _ _); go_must (refine wpList_store_blk rfl 31 (.tmp 10) (.tmp 48) rfl gD (pcC d) rfl rfl _ _ HKd.out (by rw [HD17.out]; exact conf_size) (by rw [HD17.out]; rfl) (conf_ones d) ?_); intro u9 hk9 hg9 hs9'
       have HKD := kp hk9; have HB9 := kp (HB8.out.grown hg9 hs8 (fun k e => by cases e; have := HGD.out; omega)); have hlD := hk9.lt; have hs9 := HB9.out.size
       have HMd9 := kp (Mine.typed HMd8.out HKd.out hg9); have HOd := kp HMd9.out.ok
       have HU9 := kp (HB.out.trans (HB9.out.mono hBs)); have hsU9 := HU9.out.size
       have HKC9 := kp (HKC.out.below HB9.out hlC); have HKP9 := kp (HKP.out.below HB9.out hlP); have hlC9 := HKC9.out.lt; have hlP9 := HKP9.out.lt
       have HOq9 := kp ((HOq.out.below HB9.out).more hs9); have HPr9 := kp (pg_more9 (HPr.out.below HB9.out) hs9)
       clear hk9 hg9 hs9')
    | ((with_reducible show wpList _ _ _ (⟨some 50, _, _, _, _, _⟩ :: _) _ _); go_must (refine wpList_load_blk rfl 24 (.tmp 3) rfl g1 rfl _ (pgC pg0) _ HKP9.out Try.underlying24 rfl pg_size ?_))
    | ((with_reducible show wpList _ _ _ (⟨some 51, _, _, _, _, _⟩ :: _) _ _); go_must (refine wpList_load_blk rfl 31 (.tmp 7) rfl gC rfl _ (pcC q) _ HKC9.out Try.underlying31 rfl (by rw [H17.out]; exact conf_size) ?_))
    | (go_at_call 15; fail))
  refine (race_first _ pg0 HF.out q u9 HPr9.out HOq9.out HGq.out (Nat.le_refl _)).mono ?_
  unfold FirstPost
  rintro e u10 ⟨x, y, z, b, rfl, hfi, hb10⟩
  have HFi := kp hfi
  have HU10 := kp (HU9.out.trans (hb10.mono hsU9)); have hs10 := HU10.out.size; have hs910 := hb10.size
  have HKC10 := kp (HKC9.out.below hb10 hlC9); have HKP10 := kp (HKP9.out.below hb10 hlP9); have HKD10 := kp (HKD.out.below hb10 hlD); have hlC10 := HKC10.out.lt; have hlP10 := HKP10.out.lt; have hlD10 := HKD10.out.lt
  have HOq10 := kp ((HOq9.out.below hb10).more hs910); have HOd10 := kp ((HOd.out.below hb10).more hs910); have HPr10 := kp (pg_more9 (HPr9.out.below hb10) hs910)
  clear hfi hb10
  go_upto_region 9 with fail
  go_cut [76] from 57 (fun v76 wx => v76 = .bool false ∧ Below u10.heap.size u10 wx)
  case first =>
    rcases first_cases HFi.out with ⟨rfl, rfl, rfl, rfl, _⟩ | ⟨rfl, i, j, rfl, rfl, hij, hjl, hpr⟩
    · go_wp2
      go_meet
      exact ⟨rfl, Below.refl _ _⟩
    · have HPair := kp hpr
      clear hpr
      by_cases hik : i = k
      · have h1 : ((i : Int) != (k : Int)) = false := by rw [bne_eq_false_iff_eq]; omega
        clear hik
        go_wp2
        go_meet
        exact ⟨rfl, Below.refl _ _⟩
      by_cases hjk : j = k
      · have h1 : ((i : Int) != (k : Int)) = true := by rw [bne_iff_ne]; omega
        have h2 : ((j : Int) != (k : Int)) = false := by rw [bne_eq_false_iff_eq]; omega
        clear hik hjk
        go_wp2
        go_meet
        exact ⟨rfl, Below.refl _ _⟩
      have h1 : ((i : Int) != (k : Int)) = true := by rw [bne_iff_ne]; omega
      have h2 : ((j : Int) != (k : Int)) = true := by rw [bne_iff_ne]; omega
      have HPd : Kept (M.pair pg0 d.cf (i : Int) (j : Int) z = true) := kp (by rw [HCd.out, ← HcD.out]; exact M.step_pair HPair.out (by omega) (by omega))
      clear hik hjk
      go_wp2_with (first
        | ((with_reducible show wpList _ _ _ (⟨some 69, _, _, _, _, _⟩ :: _) _ _); go_must (refine wpList_load_blk_w rfl 24 (.tmp 3) rfl g1 rfl _ (pgC pg0) _ HKP10.out Try.underlying24 rfl pg_size ?_))
        | ((with_reducible show wpList _ _ _ (⟨some 70, _, _, _, _, _⟩ :: _) _ _); go_must (refine wpList_load_blk_w rfl 31 (.tmp 10) rfl gD rfl _ (pcC d) _ HKD10.out Try.underlying31 rfl (by rw [HD17.out]; exact conf_size) ?_))
        | (go_at_call 17; fail))
      refine (race_pair _ pg0 HF.out d u10 HPr10.out HOd10.out HGdd.out (Nat.le_refl _) (i : Int) (j : Int) z true HPd.out).mono ?_
      rintro e u11 ⟨rfl, hb11⟩
      have HB11 := kp hb11
      clear hb11
      go_wp2
      go_meet
      exact ⟨rfl, HB11.out⟩
  case rest =>
    obtain ⟨rfl, hW⟩ := hcut
    obtain ⟨u11, rfl⟩ : ∃ x, x = wc := ⟨_, rfl⟩
    have HU11 := kp (HU10.out.trans (hW.mono hs10)); have hs11 := HU11.out.size; have hs1011 := hW.size
    have HKC11 := kp (HKC10.out.below hW hlC10); have HKP11 := kp (HKP10.out.below hW hlP10); have HKD11 := kp (HKD10.out.below hW hlD10); have hlC11 := HKC11.out.lt; have hlP11 := HKP11.out.lt; have hlD11 := HKD11.out.lt
    have HOq11 := kp ((HOq10.out.below hW).more hs1011); have HOd11 := kp ((HOd10.out.below hW).more hs1011); have HPr11 := kp (pg_more9 (HPr10.out.below hW) hs1011)
    clear hW HFi
    go_wp2
    apply region_list (.is (pgA pg0) :: .is (pcA q) :: (.touches (touchesTo pg0 q.cf q.len)) :: .is (pgA pg0) :: .is (pcA d) :: (.touches (touchesTo pg0 d.cf d.len)) :: (.touches (touchesTo pg0 q.cf q.len)) :: (.touches (touchesTo pg0 d.cf d.len)) :: [])
      [[], [], [(0, 77), (1, 78)], [], [], [(3, 80), (4, 81)], [(2, 79)], [(5, 82)]]
      [(0, 77), (1, 78), (2, 79), (3, 80), (4, 81), (5, 82), (6, 15), (7, 16)] (by kernel_rfl) (by kernel_rfl)
    case hob =>
      refine ⟨?o0, ?o1, ?o2, ?o3, ?o4, ?o5, ?o6, ?o7, trivial⟩
      case o0 =>
        intro W hW; change wpList _ _ _ _ _ _
        go_must (refine wpList_load_blk rfl 24 (.tmp 3) rfl g1 rfl _ (pgC pg0) _ (HKP11.out.below hW hlP11) Try.underlying24 rfl pg_size ?_)
        go_wp2; exact pure_post rfl rfl rfl
      case o1 =>
        intro W hW; change wpList _ _ _ _ _ _
        go_must (refine wpList_load_blk rfl 31 (.tmp 7) rfl gC rfl _ (pcC q) _ (HKC11.out.below hW hlC11) Try.underlying31 rfl (by rw [H17.out]; exact conf_size) ?_)
        go_wp2; exact pure_post rfl rfl rfl
      case o2 =>
        intro W hW; rintro _ rfl; rintro _ rfl; change wpList _ _ _ _ _ _
        have hsW := hW.size
        go_wp2_with fail
        refine (race_touches _ pg0 HF.out q W (pg_more9 (HPr11.out.below hW) hsW) ((HOq11.out.below hW).more hsW) HGq.out (Nat.le_refl _)).mono ?_
        rintro e w4 ⟨v, rfl, hown, hb4⟩
        obtain ⟨A, c, rfl, h1, h2, h3⟩ := touches_open hown rfl
        have HB4 := kp hb4; have H1 := kp h1; have H2 := kp h2; have H3 := kp h3; clear hb4 hown h1 h2 h3
        go_wp2
        exact made_post rfl rfl rfl HB4.out ⟨A, c, rfl, H1.out, H2.out, H3.out⟩
      case o3 =>
        intro W hW; change wpList _ _ _ _ _ _
        go_must (refine wpList_load_blk rfl 24 (.tmp 3) rfl g1 rfl _ (pgC pg0) _ (HKP11.out.below hW hlP11) Try.underlying24 rfl pg_size ?_)
        go_wp2; exact pure_post rfl rfl rfl
      case o4 =>
        intro W hW; change wpList _ _ _ _ _ _
        go_must (refine wpList_load_blk rfl 31 (.tmp 10) rfl gD rfl _ (pcC d) _ (HKD11.out.below hW hlD11) Try.underlying31 rfl (by rw [HD17.out]; exact conf_size) ?_)
        go_wp2; exact pure_post rfl rfl rfl
      case o5 =>
        intro W hW; rintro _ rfl; rintro _ rfl; change wpList _ _ _ _ _ _
        have hsW := hW.size
        go_wp2_with fail
        refine (race_touches _ pg0 HF.out d W (pg_more9 (HPr11.out.below hW) hsW) ((HOd11.out.below hW).more hsW) HGdd.out (Nat.le_refl _)).mono ?_
        rintro e w4 ⟨v, rfl, hown, hb4⟩
        obtain ⟨A, c, rfl, h1, h2, h3⟩ := touches_open hown rfl
        have HB4 := kp hb4; have H1 := kp h1; have H2 := kp h2; have H3 := kp h3; clear hb4 hown h1 h2 h3
        go_wp2
        exact made_post rfl rfl rfl HB4.out ⟨A, c, rfl, H1.out, H2.out, H3.out⟩
      case o6 =>
        intro W hW; rintro _ ⟨A2, c2, rfl, h12, h22, h32⟩; change wpList _ _ _ _ _ _
        have H1 := kp h12; have H2 := kp h22; have H3 := kp h32; clear h12 h22 h32
        go_wp2; exact made_post rfl rfl rfl (Below.refl _ _) ⟨A2, c2, rfl, H1.out, H2.out, H3.out⟩
      case o7 =>
        intro W hW; rintro _ ⟨A5, c5, rfl, h15, h25, h35⟩; change wpList _ _ _ _ _ _
        have H1 := kp h15; have H2 := kp h25; have H3 := kp h35; clear h15 h25 h35
        go_wp2; exact made_post rfl rfl rfl (Below.refl _ _) ⟨A5, c5, rfl, H1.out, H2.out, H3.out⟩
    case hend =>
      intro W hW; rintro _ rfl; rintro _ rfl; rintro _ ⟨A2, c2, rfl, h12, h22, h32⟩; rintro _ rfl; rintro _ rfl; rintro _ ⟨A5, c5, rfl, h15, h25, h35⟩; rintro _ ⟨A6, c6, rfl, h16, h26, h36⟩; rintro _ ⟨A7, c7, rfl, h17, h27, h37⟩
      simp only [given, put_lit, List.set]
      obtain ⟨u12, rfl⟩ : ∃ x, x = W := ⟨_, rfl⟩
      have HU12 := kp (HU11.out.trans (hW.mono hs11)); have hs12 := HU12.out.size
      obtain ⟨l, hl⟩ : ∃ l, touchesTo pg0 q.cf q.len = l := ⟨_, rfl⟩
      obtain ⟨m, hm⟩ : ∃ l, touchesTo pg0 d.cf d.len = l := ⟨_, rfl⟩
      have hl8 := touches_len pg0 q.cf q.len
      have hm8 := touches_len pg0 d.cf d.len
      have h8q := most_8 HGq.out HOq11.out; have h8d := most_8 HGdd.out HOd11.out
      rw [hl] at h16 h36 hl8 ⊢
      rw [hm] at h17 h37 hm8 ⊢
      have HIn : Kept (∀ x ∈ l, x.who ≠ k → x ∈ m) := kp (by
        rw [← hl, ← hm]
        intro x hx hne
        refine touch_stays HOd11.out.len hx ?_
        rw [HCd.out, ← HcD.out]
        exact fun hp => M.step_acc hp (by omega))
      obtain ⟨nl, hnl⟩ : ∃ n, l.length = n := ⟨_, rfl⟩
      obtain ⟨nm, hnm⟩ : ∃ n, m.length = n := ⟨_, rfl⟩
      rw [hnl] at h16 h36 hl8 ⊢
      rw [hnm] at h17 h37 hm8 ⊢
      have HR6 := kp h36; have HR7 := kp h37
      have HNm := kp hnm; have HNl := kp hnl
      unfold maxLen at h26 h27
      clear hW h36 h37 hl hm hnl hnm h12 h22 h32 h15 h25 h35
      go_wp2
      go_loopw [17] (fun v17 wr => ∃ i : Nat, i ≤ nl ∧ v17 = .int .i64 i ∧ Below u12.heap.size u12 wr) (fun v17 _ => nl - (intOf v17).toNat)
      case atStart => exact ⟨0, by omega, rfl, Below.refl _ _⟩
      case round =>
        obtain ⟨wA, rfl⟩ : ∃ x, x = wr := ⟨_, rfl⟩
        obtain ⟨i, hi, rfl, hbi⟩ := hrel
        have HBi := kp hbi; have hsi := hbi.size
        have HR6i := kp ((HR6.out.below hbi).more hsi)
        clear hbi
        by_cases hlt : i < nl
        · obtain ⟨ad, x, rfl, hab, hx, hat⟩ := tc_at HR6i.out hlt
          have HXi := kp hx; have HXm := kp (List.mem_of_getElem? hx)
          have hx0 := hat.who
          obtain ⟨m0, hm0⟩ : ∃ b, ((x.who : Int) == (k : Int)) = b := ⟨_, rfl⟩
          have HM0 : Kept (m0 = false → x.who ≠ k) := kp (by rintro rfl; rw [beq_eq_false_iff_ne] at hm0; omega)
          clear hat hx
          go_wp2
          clear hx0 hm0
          go_loopw [18, 19] (fun v18 v19 W => ∃ (j : Nat) (b : Bool), j ≤ nm ∧ v19 = .int .i64 j ∧ v18 = .bool b ∧ (b = false → x.who ≠ k ∧ ∀ (j' : Nat) y, j' < j → m[j']? = some y → y ≠ x) ∧ Below u12.heap.size u12 W) (fun _ v19 _ => nm - (intOf v19).toNat)
          case atStart => exact ⟨0, m0, by omega, rfl, rfl, (fun h => ⟨HM0.out h, fun _ _ h => by omega⟩), HBi.out⟩
          case round =>
            obtain ⟨j, b, hj, rfl, rfl, hbb, hbj⟩ := hrel
            have HBb := kp hbb; have HBj := kp hbj; have hsj := hbj.size
            have HR7j := kp ((HR7.out.below hbj).more hsj)
            have HR6j := kp ((HR6.out.below hbj).more hsj)
            clear hbb hbj
            by_cases hjl : j < nm
            · cases b with
              | true =>
                go_wp2
                go_quiet (fail)
                go_wp2
                go_roundw
                case rel => exact ⟨j + 1, true, by omega, by go_num, rfl, (fun h => by cases h), below_drewN HBj.out _⟩
                case measure => simp [intOf]; omega
              | false =>
                obtain ⟨ad7, y, rfl, _, hy, haty⟩ := tc_at HR7j.out hjl
                obtain ⟨ad6, x6, e6, _, hx6, hatx⟩ := tc_at HR6j.out hlt
                obtain rfl : ad = ad6 := Option.some.inj e6
                have hxx : x6 = x := by rw [HXi.out] at hx6; exact (Option.some.inj hx6).symm
                subst hxx
                have HY := kp hy
                have hy0 := haty.who; have hy1 := haty.glob; have hy2 := haty.wr
                have hx0 := hatx.who; have hx1 := hatx.glob; have hx2 := hatx.wr
                obtain ⟨s, g, u⟩ := x6
                obtain ⟨s', g', u'⟩ := y
                have HNew : Kept ((⟨s', g', u'⟩ : Tc) ≠ ⟨s, g, u⟩ → ((⟨s, g, u⟩ : Tc).who ≠ k ∧ ∀ (j' : Nat) y, j' < j + 1 → m[j']? = some y → y ≠ ⟨s, g, u⟩)) := kp (fun hne => ⟨(HBb.out rfl).1, fun j' y h1 h2 => by
                  by_cases e : j' = j
                  · subst e
                    rw [HY.out] at h2
                    cases h2
                    exact hne
                  · exact (HBb.out rfl).2 j' y (by omega) h2⟩)
                clear hy haty hatx hx6 e6
                simp only at hy0 hy1 hy2 hx0 hx1 hx2
                by_cases e0 : s' = s
                · subst e0
                  have b0 : ((s' : Int) == (s' : Int)) = true := beq_self_eq_true _
                  by_cases e1 : g' = g
                  · subst e1
                    have b1 : (g' == g') = true := beq_self_eq_true _
                    by_cases e2 : u' = u
                    · subst e2
                      have b2 : (u' == u') = true := beq_self_eq_true _
                      go_wp2
                      go_quiet (fail)
                      go_wp2
                      go_roundw
                      case rel => exact ⟨j + 1, true, by omega, by go_num, rfl, (fun h => by cases h), below_drewN HBj.out _⟩
                      case measure => simp [intOf]; omega
                    · have b2 : (u' == u) = false := by rw [beq_eq_false_iff_ne]; exact e2
                      have HN2 := kp (HNew.out (fun h => e2 (by injection h)))
                      clear e2
                      go_wp2
                      go_quiet (fail)
                      go_wp2
                      go_roundw
                      case rel => exact ⟨j + 1, false, by omega, by go_num, rfl, (fun _ => HN2.out), below_drewN HBj.out _⟩
                      case measure => simp [intOf]; omega
                  · have b1 : (g' == g) = false := by rw [beq_eq_false_iff_ne]; exact e1
                    have HN2 := kp (HNew.out (fun h => e1 (by injection h)))
                    clear e1
                    go_wp2
                    go_quiet (fail)
                    go_wp2
                    go_roundw
                    case rel => exact ⟨j + 1, false, by omega, by go_num, rfl, (fun _ => HN2.out), below_drewN HBj.out _⟩
                    case measure => simp [intOf]; omega
                · have b0 : ((s' : Int) == (s : Int)) = false := by rw [beq_eq_false_iff_ne]; omega
                  have HN2 := kp (HNew.out (fun h => e0 (by injection h)))
                  clear e0
                  go_wp2
                  go_quiet (fail)
                  go_wp2
                  go_roundw
                  case rel => exact ⟨j + 1, false, by omega, by go_num, rfl, (fun _ => HN2.out), below_drewN HBj.out _⟩
                  case measure => simp [intOf]; omega
            · have hge : nm ≤ j := by omega
              have hbt : b = true := by
                cases b with
                | true => rfl
                | false =>
                  exfalso
                  obtain ⟨h1, h2⟩ := HBb.out rfl
                  have hmem := HIn.out x HXm.out h1
                  obtain ⟨j', hj'⟩ := List.getElem?_of_mem hmem
                  exact h2 j' x (by have := (List.getElem?_eq_some_iff.1 hj').1; have := HNm.out; omega) hj' rfl
              subst hbt
              go_wp2
              go_roundw
              case rel => exact ⟨i + 1, by omega, by go_num, HBj.out⟩
              case measure => simp [intOf]; omega
        · have hge : nl ≤ i := by omega
          have HUe := kp (HU12.out.trans (HBi.out.mono hs12))
          go_wp2
          go_ret
          exact ⟨rfl, HUe.out⟩
  end Go.Proofs.Yticifjmkocgipaa
