/- RaceBoth, walked. -/
import Derived.Test.YticifjmkocgipaaRaceLaw2
import Derived.Test.YticifjmkocgipaaSemTwo
import Derived.Test.YticifjmkocgipaaSemPl
import Derived.Test.YticifjmkocgipaaSemRS
import Derived.Test.YticifjmkocgipaaPk31
namespace Go.Proofs.Yticifjmkocgipaa
open Go.RowKit

set_option maxRecDepth 1000000 in
set_option maxHeartbeats 8000000 in
theorem walkRaceBoth (pg0 : Pg) (a1 : Option Addr) (len1 cap1 : Nat) (z1 : List (Int × Bool)) (w : World) (w0 : pg0.Ok w w.heap.size) (w1 : Picks w w.heap.size a1 len1 z1) (c1 : len1 ≤ cap1 ∧ cap1 ≤ maxLen) :
    Calls Try.prog 4 #[pgA pg0, .slice a1 len1 cap1] w fun e w' => e = .returned (.bool true) ∧ Below w.heap.size w w' := by
  have HP := kp w0
  have HPi := kp w1
  have hc1 := c1.1; have hm1 := c1.2
  unfold maxLen at hm1
  obtain ⟨r, hr⟩ : ∃ r, Q.small pg0 = r := ⟨_, rfl⟩
  have HR := kp hr
  clear hr w0 w1 c1
  rw [pgA_is]
  cases r
  · go_enter Try.func4, Try.ntmps4
    go_wp2_with (first
      | ((with_reducible refine wpList_box_agg rfl 24 (.tmp 0) rfl (pgC pg0) rfl ?_); intro g1 u1 hg1 hk1 hu1; have HK1 := kp hk1; have HG1 := kp hg1; have HU1 := kp hu1; have hz1 := hu1.size; clear hg1 hk1 hu1))
    refine (race_awake u1).mono ?_
    rintro e u2 ⟨rfl, hb2⟩
    have HU2 : Kept (Below w.heap.size w u2) := kp (HU1.out.trans (hb2.mono hz1))
    have hs2 := HU2.out.size
    have HP2 := kp (HP.out.below HU2.out)
    have HK2 := kp (HK1.out.below hb2 HK1.out.lt)
    obtain ⟨hc0, hc1', hc2, hc3⟩ := pg_cells HK2.out
    clear hb2
    go_wp2_with fail
    refine (ref_small _ pg0 u2 HP2.out hs2 _ HR.out).mono ?_
    rintro e u3 ⟨rfl, hb3⟩
    have HU3 : Kept (Below w.heap.size w u3) := kp (HU2.out.trans (hb3.mono hs2))
    have hs3 := HU3.out.size
    have HP3 := kp (HP.out.below HU3.out)
    have HK3 := kp (HK2.out.below hb3 HK2.out.lt)
    clear hb3 hc0 hc1' hc2 hc3
    obtain ⟨hc0, hc1', hc2, hc3⟩ := pg_cells HK3.out
    go_wp2_with fail
    refine (race_awake u3).mono ?_
    rintro e u4 ⟨rfl, hb4⟩
    have HU4 := kp (HU3.out.trans (hb4.mono hs3))
    clear hb4
    go_wp2
    go_ret
    exact ⟨rfl, HU4.out⟩
  by_cases hbig : 300 < len1
  · go_enter Try.func4, Try.ntmps4
    go_wp2_with (first
      | ((with_reducible refine wpList_box_agg rfl 24 (.tmp 0) rfl (pgC pg0) rfl ?_); intro g1 u1 hg1 hk1 hu1; have HK1 := kp hk1; have HG1 := kp hg1; have HU1 := kp hu1; have hz1 := hu1.size; clear hg1 hk1 hu1))
    refine (race_awake u1).mono ?_
    rintro e u2 ⟨rfl, hb2⟩
    have HU2 : Kept (Below w.heap.size w u2) := kp (HU1.out.trans (hb2.mono hz1))
    have hs2 := HU2.out.size
    have HP2 := kp (HP.out.below HU2.out)
    have HK2 := kp (HK1.out.below hb2 HK1.out.lt)
    obtain ⟨hc0, hc1', hc2, hc3⟩ := pg_cells HK2.out
    clear hb2
    go_wp2_with fail
    refine (ref_small _ pg0 u2 HP2.out hs2 _ HR.out).mono ?_
    rintro e u3 ⟨rfl, hb3⟩
    have HU3 : Kept (Below w.heap.size w u3) := kp (HU2.out.trans (hb3.mono hs2))
    have hs3 := HU3.out.size
    have HP3 := kp (HP.out.below HU3.out)
    have HK3 := kp (HK2.out.below hb3 HK2.out.lt)
    clear hb3 hc0 hc1' hc2 hc3
    obtain ⟨hc0, hc1', hc2, hc3⟩ := pg_cells HK3.out
    go_wp2_with fail
    refine (race_awake u3).mono ?_
    rintro e u4 ⟨rfl, hb4⟩
    have HU4 := kp (HU3.out.trans (hb4.mono hs3))
    clear hb4
    go_wp2
    go_ret
    exact ⟨rfl, HU4.out⟩
  have HN3 := kp hbig
  go_enter Try.func4, Try.ntmps4
  go_wp2_with (first
    | ((with_reducible refine wpList_box_agg rfl 24 (.tmp 0) rfl (pgC pg0) rfl ?_); intro g1 u1 hg1 hk1 hu1; have HK1 := kp hk1; have HG1 := kp hg1; have HU1 := kp hu1; have hz1 := hu1.size; clear hg1 hk1 hu1))
  refine (race_awake u1).mono ?_
  rintro e u2 ⟨rfl, hb2⟩
  have HU2 : Kept (Below w.heap.size w u2) := kp (HU1.out.trans (hb2.mono hz1))
  have hs2 := HU2.out.size
  have HP2 := kp (HP.out.below HU2.out)
  have HK2 := kp (HK1.out.below hb2 HK1.out.lt)
  obtain ⟨hc0, hc1', hc2, hc3⟩ := pg_cells HK2.out
  clear hb2
  go_wp2_with fail
  refine (ref_small _ pg0 u2 HP2.out hs2 _ HR.out).mono ?_
  rintro e u3 ⟨rfl, hb3⟩
  have HU3 : Kept (Below w.heap.size w u3) := kp (HU2.out.trans (hb3.mono hs2))
  have hs3 := HU3.out.size
  have HP3 := kp (HP.out.below HU3.out)
  have HK3 := kp (HK2.out.below hb3 HK2.out.lt)
  clear hb3 hc0 hc1' hc2 hc3
  obtain ⟨hc0, hc1', hc2, hc3⟩ := pg_cells HK3.out
  obtain ⟨ca, cb, cc, hcc⟩ : ∃ a b c, Q.check pg0 = (a, b, c) := ⟨_, _, _, rfl⟩
  have HC := kp hcc
  clear hcc
  have hn300 : len1 ≤ 300 := by have := HN3.out; omega
  go_wp2_with fail
  refine (law_runs pg0 a1 len1 cap1 z1 u3 (pg_more9 HP3.out hs3) (picks_up HPi.out HU3.out) ⟨hc1, by unfold maxLen; exact hm1⟩ hn300 ca cb cc HC.out).mono ?_
  unfold RunsPost
  rintro e u4 ⟨q, ok, rfl, hmi, h16, hno, hyes, hb4⟩
  have HMi4 := kp hmi; have H17 := kp (conf_len h16); have HU4 := kp (HU3.out.trans (hb4.mono hs3)); have HK4 := kp (HK3.out.below hb4 HK3.out.lt); have hs4 := HU4.out.size; have hlk4 := HK4.out.lt
  clear hmi h16 hb4 hc0 hc1' hc2 hc3
  by_cases hz : cc = 0
  case neg =>
    obtain rfl := hno hz
    clear hno hyes
    go_wp2_with (first
      | ((with_reducible show wpList _ _ _ (⟨some 5, _, _, _, _, _⟩ :: _) _ _); go_must (refine wpList_alloc_zero rfl 31 rfl _ conf_zero ?_); intro gC u5 hgC hk5 hu5; have HKc := kp hk5; have HGC := kp hgC; have HU5 := kp (HU4.out.trans (hu5.mono hs4)); have HMi5 := kp (HMi4.out.below hu5 (Nat.le_refl _)); have HK5 := kp (HK4.out.below hu5 HK4.out.lt); have hs5 := HU5.out.size; have hs45 := hu5.size; clear hk5 hu5 hgC)
      | ((with_reducible show wpList _ _ _ (⟨none, _, _, _, _, _⟩ :: _) _ _); go_must (refine wpList_store_blk rfl 31 (.tmp 5) (.tmp 32) rfl gC (pcC q) rfl rfl _ _ HKc.out (by rw [H17.out]; exact conf_size) (by rw [H17.out]; rfl) (conf_ones q) ?_); intro u6 hk6 hg6 hs6'
         have HKC := kp hk6; have HB := kp (HU5.out.grown hg6 hs5 (fun k e => by cases e; have := HGC.out; omega)); have hBs := HB.out.size; have hlC := hk6.lt
         have HKP := kp (HK5.out.grown hg6 (fun e => by cases e; have := HGC.out; omega)); have hlP := HKP.out.lt
         have HMi := kp ((Mine.typed HMi5.out HKc.out hg6)); have HOq := kp HMi.out.ok; have HPr := kp (pg_more9 (HP.out.below HB.out) hBs)
         have HGw : Kept (w.heap.size ≤ g1 ∧ w.heap.size ≤ gC ∧ g1 ≠ gC) := kp ⟨by have := HG1.out; omega, by have := HGC.out; omega, by have := HGC.out; omega⟩
         clear hk6 hg6 hs6'))
    go_wp2
    go_ret
    exact ⟨rfl, HB.out⟩
  obtain ⟨rfl, hcf⟩ := hyes hz
  have HZ := kp hz; have HCf := kp hcf
  clear hno hyes hz hcf
  have HF : Kept (Fine pg0) := kp (fine_of (by rw [HC.out, HZ.out]))
  have HGd : Kept (∀ i, M.Good pg0 (runTo pg0 z1 i)) := kp (runTo_good HF.out HP.out.row.len z1)
  have HGq : Kept (M.Good pg0 q.cf) := kp (by rw [HCf.out]; exact HGd.out len1)
  go_wp2_with (first
    | ((with_reducible show wpList _ _ _ (⟨some 5, _, _, _, _, _⟩ :: _) _ _); go_must (refine wpList_alloc_zero rfl 31 rfl _ conf_zero ?_); intro gC u5 hgC hk5 hu5; have HKc := kp hk5; have HGC := kp hgC; have HU5 := kp (HU4.out.trans (hu5.mono hs4)); have HMi5 := kp (HMi4.out.below hu5 (Nat.le_refl _)); have HK5 := kp (HK4.out.below hu5 HK4.out.lt); have hs5 := HU5.out.size; have hs45 := hu5.size; clear hk5 hu5 hgC)
    | ((with_reducible show wpList _ _ _ (⟨none, _, _, _, _, _⟩ :: _) _ _); go_must (refine wpList_store_blk rfl 31 (.tmp 5) (.tmp 32) rfl gC (pcC q) rfl rfl _ _ HKc.out (by rw [H17.out]; exact conf_size) (by rw [H17.out]; rfl) (conf_ones q) ?_); intro u6 hk6 hg6 hs6'
       have HKC := kp hk6; have HB := kp (HU5.out.grown hg6 hs5 (fun k e => by cases e; have := HGC.out; omega)); have hBs := HB.out.size; have hlC := hk6.lt
       have HKP := kp (HK5.out.grown hg6 (fun e => by cases e; have := HGC.out; omega)); have hlP := HKP.out.lt
       have HMi := kp ((Mine.typed HMi5.out HKc.out hg6)); have HOq := kp HMi.out.ok; have HPr := kp (pg_more9 (HP.out.below HB.out) hBs)
       have HGw : Kept (w.heap.size ≤ g1 ∧ w.heap.size ≤ gC ∧ g1 ≠ gC) := kp ⟨by have := HG1.out; omega, by have := HGC.out; omega, by have := HGC.out; omega⟩
       clear hk6 hg6 hs6')
    | ((with_reducible show wpList _ _ _ (⟨some 37, _, _, _, _, _⟩ :: _) _ _); go_must (refine wpList_load_blk rfl 24 (.tmp 2) rfl g1 rfl _ (pgC pg0) _ HKP.out Try.underlying24 rfl pg_size ?_))
    | ((with_reducible show wpList _ _ _ (⟨some 38, _, _, _, _, _⟩ :: _) _ _); go_must (refine wpList_load_blk rfl 31 (.tmp 5) rfl gC rfl _ (pcC q) _ HKC.out Try.underlying31 rfl (by rw [H17.out]; exact conf_size) ?_))
    | (go_at_call 15; fail))
  refine (race_first _ pg0 HF.out q u6 HPr.out HOq.out HGq.out (Nat.le_refl _)).mono ?_
  unfold FirstPost
  rintro e u7 ⟨x, y, z, b, rfl, hfi, hb7⟩
  have HU7 := kp (HB.out.trans (hb7.mono hBs)); have hs7 := HU7.out.size; have hs67 := hb7.size
  have HKC7 := kp (HKC.out.below hb7 hlC); have HKP7 := kp (HKP.out.below hb7 hlP); have hlC7 := HKC7.out.lt; have hlP7 := HKP7.out.lt
  have HOq7 := kp ((HOq.out.below hb7).more hs67); have HPr7 := kp (pg_more9 (HPr.out.below hb7) hs67)
  rcases first_cases hfi with ⟨rfl, rfl, rfl, rfl, hno⟩ | ⟨rfl, i, j, rfl, rfl, hij, hjl, hpr⟩
  · have HNo := kp (hno 0)
    clear hfi hb7 hno
    go_wp2_with (first
      | ((with_reducible show wpList _ _ _ (⟨some 57, _, _, _, _, _⟩ :: _) _ _); go_must (refine wpList_load_blk_w rfl 24 (.tmp 2) rfl g1 rfl _ (pgC pg0) _ HKP7.out Try.underlying24 rfl pg_size ?_))
      | ((with_reducible show wpList _ _ _ (⟨some 58, _, _, _, _, _⟩ :: _) _ _); go_must (refine wpList_load_blk_w rfl 31 (.tmp 5) rfl gC rfl _ (pcC q) _ HKC7.out Try.underlying31 rfl (by rw [H17.out]; exact conf_size) ?_))
      | (go_at_call 17; fail))
    refine (race_pair _ pg0 HF.out q u7 HPr7.out HOq7.out HGq.out (Nat.le_refl _) 0 1 0 false HNo.out).mono ?_
    rintro e u8 ⟨rfl, hb8⟩
    have HU8 := kp (HU7.out.trans (hb8.mono hs7))
    clear hb8
    go_wp2
    go_ret
    exact ⟨rfl, HU8.out⟩
  have HPab := kp hpr
  have HPba : Kept (M.pair pg0 q.cf (j : Int) (i : Int) z = true) := kp (by rw [M.pair_comm]; exact hpr)
  have HPaa := kp (M.pair_self pg0 q.cf (i : Int) z)
  have HEa := kp (M.acc_enabled (M.pair_is.1 hpr).2.1)
  have HEb := kp (M.acc_enabled (M.pair_is.1 hpr).2.2.1)
  have HLb := kp ((M.acc_pos (M.pair_is.1 hpr).2.2.1).1)
  have hne : (j : Int) ≠ (i : Int) := by omega
  obtain ⟨nd, hnd⟩ : ∃ nd, M.node pg0 q.cf j = nd := ⟨_, rfl⟩
  have HX : Kept (atNd pg0 q.cf (j : Int) = nd) := kp (atNd_is HLb.out hnd)
  obtain ⟨cA, hcA⟩ : ∃ c, M.step pg0 q.cf (i : Int) false = c := ⟨_, rfl⟩
  obtain ⟨cB, hcB⟩ : ∃ c, M.step pg0 q.cf (j : Int) false = c := ⟨_, rfl⟩
  have HXA : Kept (M.lives cA (j : Int) = true ∧ atNd pg0 cA (j : Int) = nd) := kp (by
    have h := M.step_node (p := pg0) (way := false) HLb.out hne
    rw [hcA, Int.toNat_natCast, hnd] at h
    exact ⟨h.1, atNd_is h.1 h.2⟩)
  have HSw : Kept (M.step pg0 cA (j : Int) false = M.step pg0 cB (i : Int) false) := kp (by rw [← hcA, ← hcB]; exact M.pair_swap hpr false false)
  have HcA := kp hcA; have HcB := kp hcB
  obtain ⟨cE, hcE⟩ : ∃ c, M.step pg0 cB (i : Int) false = c := ⟨_, rfl⟩
  rw [hcE] at HSw
  have HcE := kp hcE
  have HGA := kp (show M.Good pg0 cA by rw [← hcA]; exact M.good_step HF.out HP.out.row.len HGq.out (i : Int) false)
  have HGB := kp (show M.Good pg0 cB by rw [← hcB]; exact M.good_step HF.out HP.out.row.len HGq.out (j : Int) false)
  have HGE := kp (show M.Good pg0 cE by rw [← hcE]; exact M.good_step HF.out HP.out.row.len HGB.out (i : Int) false)
  have h8 := HGq.out.most
  have HIi : Kept (I64 (i : Int)) := kp (by unfold I64; omega)
  have HIj : Kept (I64 (j : Int)) := kp (by unfold I64; omega)
  have hij2 : decide (j ≤ i) = false := decide_eq_false (by omega)
  clear hfi hb7 hpr hne hnd hcA hcB hcE hjl h8
  go_wp2_with (first
    | ((with_reducible show wpList _ _ _ (⟨some 66, _, _, _, _, _⟩ :: _) _ _); go_must (refine wpList_load_blk_w rfl 24 (.tmp 2) rfl g1 rfl _ (pgC pg0) _ HKP7.out Try.underlying24 rfl pg_size ?_))
    | ((with_reducible show wpList _ _ _ (⟨some 67, _, _, _, _, _⟩ :: _) _ _); go_must (refine wpList_load_blk_w rfl 31 (.tmp 5) rfl gC rfl _ (pcC q) _ HKC7.out Try.underlying31 rfl (by rw [H17.out]; exact conf_size) ?_))
    | (go_at_call 17; fail))
  refine (race_pair _ pg0 HF.out q u7 HPr7.out HOq7.out HGq.out (Nat.le_refl _) (i : Int) (j : Int) z true HPab.out).mono ?_
  rintro e u8 ⟨rfl, hb8⟩
  have HU8 := kp (HU7.out.trans (hb8.mono hs7)); have hs8 := HU8.out.size
  have HKC8 := kp (HKC7.out.below hb8 hlC7); have HKP8 := kp (HKP7.out.below hb8 hlP7); have hlC8 := HKC8.out.lt; have hlP8 := HKP8.out.lt
  have HOq8 := kp ((HOq7.out.below hb8).more hb8.size); have HPr8 := kp (pg_more9 (HPr7.out.below hb8) hb8.size)
  clear hb8
  go_wp2_with (first
    | ((with_reducible show wpList _ _ _ (⟨some 75, _, _, _, _, _⟩ :: _) _ _); go_must (refine wpList_load_blk_w rfl 24 (.tmp 2) rfl g1 rfl _ (pgC pg0) _ HKP8.out Try.underlying24 rfl pg_size ?_))
    | ((with_reducible show wpList _ _ _ (⟨some 76, _, _, _, _, _⟩ :: _) _ _); go_must (refine wpList_load_blk_w rfl 31 (.tmp 5) rfl gC rfl _ (pcC q) _ HKC8.out Try.underlying31 rfl (by rw [H17.out]; exact conf_size) ?_))
    | (go_at_call 17; fail))
  refine (race_pair _ pg0 HF.out q u8 HPr8.out HOq8.out HGq.out (Nat.le_refl _) (j : Int) (i : Int) z true HPba.out).mono ?_
  rintro e u9 ⟨rfl, hb9⟩
  have HU9 := kp (HU8.out.trans (hb9.mono hs8)); have hs9 := HU9.out.size
  have HKC9 := kp (HKC8.out.below hb9 hlC8); have HKP9 := kp (HKP8.out.below hb9 hlP8); have hlC9 := HKC9.out.lt; have hlP9 := HKP9.out.lt
  have HOq9 := kp ((HOq8.out.below hb9).more hb9.size); have HPr9 := kp (pg_more9 (HPr8.out.below hb9) hb9.size)
  clear hb9
  go_wp2_with (first
    | ((with_reducible show wpList _ _ _ (⟨some 84, _, _, _, _, _⟩ :: _) _ _); go_must (refine wpList_load_blk_w rfl 24 (.tmp 2) rfl g1 rfl _ (pgC pg0) _ HKP9.out Try.underlying24 rfl pg_size ?_))
    | ((with_reducible show wpList _ _ _ (⟨some 85, _, _, _, _, _⟩ :: _) _ _); go_must (refine wpList_load_blk_w rfl 31 (.tmp 5) rfl gC rfl _ (pcC q) _ HKC9.out Try.underlying31 rfl (by rw [H17.out]; exact conf_size) ?_))
    | (go_at_call 17; fail))
  refine (race_pair _ pg0 HF.out q u9 HPr9.out HOq9.out HGq.out (Nat.le_refl _) (i : Int) (i : Int) z false HPaa.out).mono ?_
  rintro e u10 ⟨rfl, hb10⟩
  have HU10 := kp (HU9.out.trans (hb10.mono hs9)); have hs10 := HU10.out.size
  have HKC10 := kp (HKC9.out.below hb10 hlC9); have HKP10 := kp (HKP9.out.below hb10 hlP9); have hlC10 := HKC10.out.lt; have hlP10 := HKP10.out.lt
  have HOq10 := kp ((HOq9.out.below hb10).more hb10.size); have HPr10 := kp (pg_more9 (HPr9.out.below hb10) hb10.size)
  clear hb10
  go_wp2_with (first
    | ((with_reducible show wpList _ _ _ (⟨some 92, _, _, _, _, _⟩ :: _) _ _); go_must (refine wpList_load_blk_w rfl 31 (.tmp 5) rfl gC rfl _ (pcC q) _ HKC10.out Try.underlying31 rfl (by rw [H17.out]; exact conf_size) ?_))
    | ((with_reducible show wpList _ _ _ (⟨some 93, _, _, _, _, _⟩ :: _) _ _); go_must (refine wpList_load_blk_w rfl 24 (.tmp 2) rfl g1 rfl _ (pgC pg0) _ HKP10.out Try.underlying24 rfl pg_size ?_))
    | (go_at_call 19; fail))
  refine (sem_enabled _ pg0 HF.out q u10 HPr10.out HOq10.out HGq.out (Nat.le_refl _) (i : Int) HIi.out true HEa.out).mono ?_
  rintro e u11 ⟨rfl, hb11⟩
  have HU11 := kp (HU10.out.trans (hb11.mono hs10)); have hs11 := HU11.out.size
  have HKC11 := kp (HKC10.out.below hb11 hlC10); have HKP11 := kp (HKP10.out.below hb11 hlP10); have hlC11 := HKC11.out.lt; have hlP11 := HKP11.out.lt
  have HOq11 := kp ((HOq10.out.below hb11).more hb11.size); have HPr11 := kp (pg_more9 (HPr10.out.below hb11) hb11.size)
  clear hb11
  go_wp2_with (first
    | ((with_reducible show wpList _ _ _ (⟨some 99, _, _, _, _, _⟩ :: _) _ _); go_must (refine wpList_load_blk_w rfl 31 (.tmp 5) rfl gC rfl _ (pcC q) _ HKC11.out Try.underlying31 rfl (by rw [H17.out]; exact conf_size) ?_))
    | ((with_reducible show wpList _ _ _ (⟨some 100, _, _, _, _, _⟩ :: _) _ _); go_must (refine wpList_load_blk_w rfl 24 (.tmp 2) rfl g1 rfl _ (pgC pg0) _ HKP11.out Try.underlying24 rfl pg_size ?_))
    | (go_at_call 19; fail))
  refine (sem_enabled _ pg0 HF.out q u11 HPr11.out HOq11.out HGq.out (Nat.le_refl _) (j : Int) HIj.out true HEb.out).mono ?_
  rintro e u12 ⟨rfl, hb12⟩
  have HU12 := kp (HU11.out.trans (hb12.mono hs11)); have hs12 := HU12.out.size
  have HKC12 := kp (HKC11.out.below hb12 hlC11); have HKP12 := kp (HKP11.out.below hb12 hlP11); have hlC12 := HKC12.out.lt; have hlP12 := HKP12.out.lt
  have HOq12 := kp ((HOq11.out.below hb12).more hb12.size); have HPr12 := kp (pg_more9 (HPr11.out.below hb12) hb12.size)
  clear hb12
  go_wp2_with (first
    | ((with_reducible show wpList _ _ _ (⟨some 106, _, _, _, _, _⟩ :: _) _ _); go_must (refine wpList_load_blk rfl 31 (.tmp 5) rfl gC rfl _ (pcC q) _ HKC12.out Try.underlying31 rfl (by rw [H17.out]; exact conf_size) ?_))
    | ((with_reducible show wpList _ _ _ (⟨some 107, _, _, _, _, _⟩ :: _) _ _); go_must (refine wpList_load_blk rfl 24 (.tmp 2) rfl g1 rfl _ (pgC pg0) _ HKP12.out Try.underlying24 rfl pg_size ?_))
    | (go_at_call 20; fail))
  refine (sem_at _ pg0 HF.out q u12 HPr12.out HOq12.out HGq.out (Nat.le_refl _) (j : Int) HIj.out true HLb.out nd HX.out).mono ?_
  rintro e u13 ⟨rfl, hb13⟩
  have HU13 := kp (HU12.out.trans (hb13.mono hs12)); have hs13 := HU13.out.size; have HB13 := kp hb13; have hs1213 := hb13.size
  clear hb13
  go_wp2_with (first
    | ((with_reducible show wpList _ _ _ (⟨some 11, _, _, _, _, _⟩ :: _) _ _); go_must (refine wpList_alloc_zero rfl 56 rfl _ node_zero9 ?_); intro gN u14 hgN hk14 hu14; have HKN14 := kp hk14; have HGN := kp hgN; have HB14 := kp (HB13.out.trans (hu14.mono hs1213)); have hs14 := HB14.out.size; clear hk14 hu14 hgN)
    | ((with_reducible show wpList _ _ _ (⟨none, _, _, _, _, _⟩ :: _) _ _); (refine wpList_store_blk rfl 56 (.tmp 11) (.tmp 110) rfl gN (ndC nd) rfl rfl _ _ HKN14.out nd_size rfl (nd_ones9 nd) ?_); intro u15 hk15 hg15 hs15'
       have HKN := kp hk15; have HB15 := kp (HB14.out.grown hg15 hs14 (fun k e => by cases e; have := HGN.out; omega)); clear hk15 hg15 hs15'))
  have hb := HB15.out
  have HU15 := kp (HU12.out.trans (hb.mono hs12)); have hs15 := HU15.out.size
  have HKC15 := kp (HKC12.out.below hb hlC12); have HKP15 := kp (HKP12.out.below hb hlP12); have hlC15 := HKC15.out.lt; have hlP15 := HKP15.out.lt; have hlN := HKN.out.lt
  have HOq15 := kp ((HOq12.out.below hb).more hb.size); have HPr15 := kp (pg_more9 (HPr12.out.below hb) hb.size)
  clear hb
  try simp only [put_none_ru]
  go_wp2
  apply region_typed (Fill u15.heap.size 56 (nodeGood nd)) [(12, 13)] (.is (pcA q) :: .is (pgA pg0) :: .is _ :: .is (.agg #[.int .i64 (i : Int), .bool false]) :: (.steppedN u15.heap.size nd cA) :: .is (pgA pg0) :: .is (.int .i64 (j : Int)) :: .is (.tuple #[ndA nd, .bool true]) :: .is (.tuple #[ndA nd, .bool true]) :: .is (ndA nd) :: .is (.bool true) :: (.var (nodeGood_ok u15.heap.size nd)) :: (.good (nodeGood_ok u15.heap.size nd)) :: .is (.bool true) :: [])
    [[], [], [], [(2, 115)], [(0, 113), (1, 114), (3, 116)], [], [], [(4, 117), (5, 118), (6, 119)], [(7, 120)], [(8, 112)], [(8, 112)], [], [(11, 13), (9, 121)], [(10, 122)]]
    [(0, 113), (1, 114), (2, 115), (3, 116), (4, 117), (5, 118), (6, 119), (7, 120), (8, 112), (9, 121), (10, 122), (11, 13), (13, 14)] (by kernel_rfl) (by kernel_rfl) (by kernel_rfl) (by kernel_rfl) (Fill.ok (nodeGood_ok u15.heap.size nd))
  case hob =>
    refine ⟨?o0, ?o1, ?o2, ?o3, ?o4, ?o5, ?o6, ?o7, ?o8, ?o9, ?o10, ?o11, ?o12, ?o13, trivial⟩
    case o0 =>
      intro W hF; have hW := hF.below; clear hF; change wpList _ _ _ _ _ _
      go_must (refine wpList_load_blk rfl 31 (.tmp 5) rfl gC rfl _ (pcC q) _ (HKC15.out.below hW hlC15) Try.underlying31 rfl (by rw [H17.out]; exact conf_size) ?_)
      go_wp2; exact typed_post (Fill.ok (nodeGood_ok u15.heap.size nd)) rfl rfl rfl
    case o1 =>
      intro W hF; have hW := hF.below; clear hF; change wpList _ _ _ _ _ _
      go_must (refine wpList_load_blk rfl 24 (.tmp 2) rfl g1 rfl _ (pgC pg0) _ (HKP15.out.below hW hlP15) Try.underlying24 rfl pg_size ?_)
      go_wp2; exact typed_post (Fill.ok (nodeGood_ok u15.heap.size nd)) rfl rfl rfl
    case o2 => intro W hF; have hW := hF.below; clear hF; change wpList _ _ _ _ _ _; go_wp2; exact typed_post (Fill.ok (nodeGood_ok u15.heap.size nd)) rfl rfl rfl
    case o3 => intro W hF; have hW := hF.below; clear hF; rintro _ rfl; change wpList _ _ _ _ _ _; go_wp2; exact typed_post (Fill.ok (nodeGood_ok u15.heap.size nd)) rfl rfl rfl
    case o4 =>
      intro W hF; have hW := hF.below; clear hF; rintro _ rfl; rintro _ rfl; rintro _ rfl; change wpList _ _ _ _ _ _
      have hsW := hW.size
    
      go_wp2_with fail
      refine (sem_step W.heap.size pg0 HF.out q W (pg_more9 (HPr15.out.below hW) hsW) ((HOq15.out.below hW).more hsW) HGq.out (Nat.le_refl _) (i : Int) HIi.out false).mono ?_
      rintro e w2 ⟨q', rfl, hm2, hcf2, hb2⟩
      have HB2 := kp hb2; have HM2 := kp hm2; have HC2 := kp hcf2; clear hb2 hm2 hcf2
      go_wp2
      exact typed_made rfl rfl rfl (Fill.of_below HB2.out) ⟨q', rfl, HM2.out.less hsW, HC2.out.trans HcA.out⟩
    case o5 =>
      intro W hF; have hW := hF.below; clear hF; change wpList _ _ _ _ _ _
      go_must (refine wpList_load_blk rfl 24 (.tmp 2) rfl g1 rfl _ (pgC pg0) _ (HKP15.out.below hW hlP15) Try.underlying24 rfl pg_size ?_)
      go_wp2; exact typed_post (Fill.ok (nodeGood_ok u15.heap.size nd)) rfl rfl rfl
    case o6 => intro W hF; have hW := hF.below; clear hF; change wpList _ _ _ _ _ _; go_wp2; exact typed_post (Fill.ok (nodeGood_ok u15.heap.size nd)) rfl rfl rfl
    case o7 =>
      intro W hF; have hW := hF.below; clear hF; rintro _ ⟨qx, rfl, hmx, hcx⟩; rintro _ rfl; rintro _ rfl; change wpList _ _ _ _ _ _
      have hsW := hW.size
      have HMx := kp hmx; have HCx := kp hcx
      clear hmx hcx
      go_wp2_with fail
      refine (sem_at W.heap.size pg0 HF.out qx W (pg_more9 (HPr15.out.below hW) hsW) HMx.out.ok (by rw [HCx.out]; exact HGA.out) (Nat.le_refl _) (j : Int) HIj.out true (by rw [HCx.out]; exact HXA.out.1) nd (by rw [HCx.out]; exact HXA.out.2)).mono ?_
      rintro e w2 ⟨rfl, hb2⟩
      have HB2 := kp hb2; clear hb2
      go_wp2
      exact typed_made rfl rfl rfl (Fill.of_below HB2.out) rfl
    case o8 => intro W hF; have hW := hF.below; clear hF; rintro _ rfl; change wpList _ _ _ _ _ _; go_wp2; exact typed_post (Fill.ok (nodeGood_ok u15.heap.size nd)) rfl rfl rfl
    case o9 => intro W hF; have hW := hF.below; clear hF; rintro _ rfl; change wpList _ _ _ _ _ _; go_wp2; exact typed_post (Fill.ok (nodeGood_ok u15.heap.size nd)) rfl rfl rfl
    case o10 => intro W hF; have hW := hF.below; clear hF; rintro _ rfl; change wpList _ _ _ _ _ _; go_wp2; exact typed_post (Fill.ok (nodeGood_ok u15.heap.size nd)) rfl rfl rfl
    case o11 =>
      intro W hF; have hW := hF.below; clear hF; change wpList _ _ _ _ _ _
      have hsW := hW.size
      go_must (refine wpList_alloc_zero rfl 56 rfl _ node_zero9 ?_)
      intro gx wx hgx hkx hbx
      have HKx := kp hkx; have HGx := kp hgx; have HBx := kp hbx
      clear hgx hkx hbx
      go_wp2
      exact typed_made rfl rfl rfl (Fill.of_below HBx.out) ⟨gx, _, rfl, by have := HGx.out; omega, HKx.out, rfl⟩
    case o12 =>
      intro W hF; have hW := hF.below; clear hF; rintro _ ⟨gM, cn, rfl, hgM, hkM, hlM⟩; rintro _ rfl; change wpList _ _ _ _ _ _
      have HKn := kp hkM; have HGn := kp hgM; have hl4 : (ndC nd).length = cn.length := by rw [hlM]; rfl
      go_must (refine wpList_store_blk rfl 56 (.tmp 13) (.tmp 121) rfl gM (ndC nd) rfl rfl _ _ hkM nd_size hl4.symm (nd_ones nd) ?_)
      intro W2 hk2 hg2 _
      have HK2 := kp hk2; have HG2 := kp hg2
      clear hk2 hg2 hkM hlM hl4 hW hgM
      have HGood : Kept (nodeGood nd (ndC nd) W2) := kp rfl
      have HFill : Kept (Fill u15.heap.size 56 (nodeGood nd) W W2) := kp (Fill.of_store HG2.out HGn.out HKn.out HK2.out HGood.out)
      go_wp2
      exact typed_stored (d := 13) rfl rfl rfl HFill.out ⟨gM, _, rfl, HGn.out, HK2.out, HGood.out⟩
    case o13 => intro W hF; have hW := hF.below; clear hF; rintro _ rfl; change wpList _ _ _ _ _ _; go_wp2; exact typed_post (Fill.ok (nodeGood_ok u15.heap.size nd)) rfl rfl rfl
  case hend =>
    intro W hF; have hW := hF.below; clear hF; rintro _ rfl; rintro _ rfl; rintro _ rfl; rintro _ rfl; rintro _ ⟨qx, rfl, hmx, hcx⟩; rintro _ rfl; rintro _ rfl; rintro _ rfl; rintro _ rfl; rintro _ rfl; rintro _ rfl; rintro _ ⟨gM, cn, rfl, hgM, hkM, hlM⟩; rintro _ rfl
    simp only [tgiven, tends, put_lit, List.set]
    rintro ⟨gM2, cM2, eM, _, hkM2, hgood⟩
    have eM3 : gM = gM2 := by injection eM with eM; injection eM with eM; injection eM
    subst eM3
    have hcM2 : cM2 = ndC nd := hgood
    subst hcM2
    have HB16 := kp hW; have hb := hW
    have HKM16 := kp hkM2
    clear hW hkM hgM hlM hmx hcx eM hgood hkM2
    obtain ⟨u16, rfl⟩ : ∃ x, x = W := ⟨_, rfl⟩
    have hlNM := HKN.out.lt
    have HU16 := kp (HU15.out.trans (hb.mono hs15)); have hs16 := HU16.out.size; have hlM16 := HKM16.out.lt
    have HKC16 := kp (HKC15.out.below hb hlC15); have HKP16 := kp (HKP15.out.below hb hlP15); have HKN16 := kp (HKN.out.below hb hlNM); have hlC16 := HKC16.out.lt; have hlP16 := HKP16.out.lt; have hlN16 := HKN16.out.lt
    have HOq16 := kp ((HOq15.out.below hb).more hb.size); have HPr16 := kp (pg_more9 (HPr15.out.below hb) hb.size)
    clear hb
    go_wp2
    apply region_list (.is (.agg #[.int .i64 nd.kind, .int .i64 nd.arg, .int .i64 nd.next, .int .i64 nd.alt]) :: .is (.agg #[.int .i64 nd.kind, .int .i64 nd.arg, .int .i64 nd.next, .int .i64 nd.alt]) :: .is (.bool true) :: .is (.bool true) :: .is (pcA q) :: .is (pgA pg0) :: .is (.int .i64 (i : Int)) :: .is (.agg #[.int .i64 (i : Int), .bool false]) :: (.stepped u16.heap.size cA) :: .is (pgA pg0) :: .is (.int .i64 (j : Int)) :: .is (.agg #[.int .i64 (j : Int), .bool false]) :: (.stepped u16.heap.size cE) :: (.plain u16.heap.size cE) :: .is (pcA q) :: .is (pgA pg0) :: .is (.int .i64 (j : Int)) :: .is (.agg #[.int .i64 (j : Int), .bool false]) :: (.stepped u16.heap.size cB) :: .is (pgA pg0) :: .is (.int .i64 (i : Int)) :: .is (.agg #[.int .i64 (i : Int), .bool false]) :: (.stepped u16.heap.size cE) :: (.plain u16.heap.size cE) :: .is (.bool true) :: .is (.bool true) :: .is (.bool true) :: [])
      [[], [], [(0, 123), (1, 124)], [(2, 125)], [(3, 126)], [(3, 126)], [(3, 126)], [(6, 129), (3, 126)], [(4, 127), (5, 128), (7, 130), (3, 126)], [(3, 126)], [(3, 126)], [(10, 133), (3, 126)], [(8, 131), (9, 132), (11, 134), (3, 126)], [(12, 135), (3, 126)], [(3, 126)], [(3, 126)], [(3, 126)], [(16, 139), (3, 126)], [(14, 137), (15, 138), (17, 140), (3, 126)], [(3, 126)], [(3, 126)], [(20, 143), (3, 126)], [(18, 141), (19, 142), (21, 144), (3, 126)], [(22, 145), (3, 126)], [(13, 136), (23, 146), (3, 126)], [(3, 126), (24, 147)], [(25, 148)]]
      [(0, 123), (1, 124), (2, 125), (3, 126), (4, 127), (5, 128), (6, 129), (7, 130), (8, 131), (9, 132), (10, 133), (11, 134), (12, 135), (13, 136), (14, 137), (15, 138), (16, 139), (17, 140), (18, 141), (19, 142), (20, 143), (21, 144), (22, 145), (23, 146), (24, 147), (25, 148), (26, 4)] (by kernel_rfl) (by kernel_rfl)
    case hob =>
      refine ⟨?o0, ?o1, ?o2, ?o3, ?o4, ?o5, ?o6, ?o7, ?o8, ?o9, ?o10, ?o11, ?o12, ?o13, ?o14, ?o15, ?o16, ?o17, ?o18, ?o19, ?o20, ?o21, ?o22, ?o23, ?o24, ?o25, ?o26, trivial⟩
      case o0 =>
        intro W hW; change wpList _ _ _ _ _ _
        go_must (refine wpList_load_blk rfl 56 (.tmp 11) rfl gN rfl _ (ndC nd) _ (HKN16.out.below hW hlN16) Try.underlying56 rfl nd_size ?_)
        go_wp2; exact pure_post rfl rfl rfl
      case o1 =>
        intro W hW; change wpList _ _ _ _ _ _
        go_must (refine wpList_load_blk rfl 56 (.tmp 13) rfl gM rfl _ (ndC nd) _ (HKM16.out.below hW hlM16) Try.underlying56 rfl nd_size ?_)
        go_wp2; exact pure_post rfl rfl rfl
      case o2 =>
        intro W hW; rintro _ rfl; rintro _ rfl; change wpList _ _ _ _ _ _
        have k0 : (nd.kind == nd.kind) = true := beq_self_eq_true _
        have k1 : (nd.arg == nd.arg) = true := beq_self_eq_true _
        have k2 : (nd.next == nd.next) = true := beq_self_eq_true _
        have k3 : (nd.alt == nd.alt) = true := beq_self_eq_true _
        go_wp2
        exact pure_post rfl rfl rfl
      case o3 => intro W hW; rintro _ rfl; change wpList _ _ _ _ _ _; go_wp2; exact pure_post rfl rfl rfl
      case o4 =>
        intro W hW; rintro _ rfl; change wpList _ _ _ _ _ _
        go_must (refine wpList_load_blk_w rfl 31 (.tmp 5) rfl gC rfl _ (pcC q) _ (HKC16.out.below hW hlC16) Try.underlying31 rfl (by rw [H17.out]; exact conf_size) ?_)
        go_wp2; exact pure_post rfl rfl rfl
      case o5 =>
        intro W hW; rintro _ rfl; change wpList _ _ _ _ _ _
        go_must (refine wpList_load_blk_w rfl 24 (.tmp 2) rfl g1 rfl _ (pgC pg0) _ (HKP16.out.below hW hlP16) Try.underlying24 rfl pg_size ?_)
        go_wp2; exact pure_post rfl rfl rfl
      case o6 => intro W hW; rintro _ rfl; change wpList _ _ _ _ _ _; go_wp2; exact pure_post rfl rfl rfl
      case o7 => intro W hW; rintro _ rfl; rintro _ rfl; change wpList _ _ _ _ _ _; go_wp2; exact pure_post rfl rfl rfl
      case o8 =>
        intro W hW; rintro _ rfl; rintro _ rfl; rintro _ rfl; rintro _ rfl; change wpList _ _ _ _ _ _
        have hsW := hW.size
      
        go_wp2_with fail
        refine (sem_step W.heap.size pg0 HF.out q W (pg_more9 (HPr16.out.below hW) hsW) ((HOq16.out.below hW).more hsW) HGq.out (Nat.le_refl _) (i : Int) HIi.out false).mono ?_
        rintro e w2 ⟨q', rfl, hm2, hcf2, hb2⟩
        have HB2 := kp hb2; have HM2 := kp hm2; have HC2 := kp hcf2; clear hb2 hm2 hcf2
        go_wp2
        exact made_post rfl rfl rfl HB2.out ⟨q', rfl, HM2.out.less hsW, HC2.out.trans HcA.out⟩
      case o9 =>
        intro W hW; rintro _ rfl; change wpList _ _ _ _ _ _
        go_must (refine wpList_load_blk_w rfl 24 (.tmp 2) rfl g1 rfl _ (pgC pg0) _ (HKP16.out.below hW hlP16) Try.underlying24 rfl pg_size ?_)
        go_wp2; exact pure_post rfl rfl rfl
      case o10 => intro W hW; rintro _ rfl; change wpList _ _ _ _ _ _; go_wp2; exact pure_post rfl rfl rfl
      case o11 => intro W hW; rintro _ rfl; rintro _ rfl; change wpList _ _ _ _ _ _; go_wp2; exact pure_post rfl rfl rfl
      case o12 =>
        intro W hW; rintro _ ⟨qx, rfl, hmx, hcx⟩; rintro _ rfl; rintro _ rfl; rintro _ rfl; change wpList _ _ _ _ _ _
        have hsW := hW.size
        have HMx := kp hmx; have HCx := kp hcx
        clear hmx hcx
        go_wp2_with fail
        refine (sem_step W.heap.size pg0 HF.out qx W (pg_more9 (HPr16.out.below hW) hsW) HMx.out.ok (by rw [HCx.out]; exact HGA.out) (Nat.le_refl _) (j : Int) HIj.out false).mono ?_
        rintro e w2 ⟨q', rfl, hm2, hcf2, hb2⟩
        have HB2 := kp hb2; have HM2 := kp hm2; have HC2 := kp hcf2; clear hb2 hm2 hcf2
        go_wp2
        exact made_post rfl rfl rfl HB2.out ⟨q', rfl, HM2.out.less hsW, by rw [HC2.out, HCx.out]; exact HSw.out⟩
      case o13 =>
        intro W hW; rintro _ ⟨qx, rfl, hmx, hcx⟩; rintro _ rfl; change wpList _ _ _ _ _ _
        have hsW := hW.size
        have HMx := kp hmx; have HCx := kp hcx
        have HGx := kp (show M.Good pg0 qx.cf by rw [hcx]; exact HGE.out)
        clear hmx hcx
        go_wp2_with fail
        refine (law_plain qx W HMx.out.ok (most_8 HGx.out HMx.out.ok) HGx.out.owns (low_stacks HF.out HP.out.row.len HGx.out HMx.out.ok) (good_8s HGx.out)).mono ?_
        rintro e w2 ⟨q', rfl, hm2, hcf2, _, _, hsl2, hb2⟩
        have HB2 := kp hb2; have HM2 := kp (hm2.lower hsW); have HC2 := kp hcf2; have HS2 := kp hsl2; clear hb2 hm2 hcf2 hsl2
        go_wp2
        exact made_post rfl rfl rfl HB2.out ⟨q', rfl, HM2.out, HC2.out.trans HCx.out, HS2.out⟩
      case o14 =>
        intro W hW; rintro _ rfl; change wpList _ _ _ _ _ _
        go_must (refine wpList_load_blk_w rfl 31 (.tmp 5) rfl gC rfl _ (pcC q) _ (HKC16.out.below hW hlC16) Try.underlying31 rfl (by rw [H17.out]; exact conf_size) ?_)
        go_wp2; exact pure_post rfl rfl rfl
      case o15 =>
        intro W hW; rintro _ rfl; change wpList _ _ _ _ _ _
        go_must (refine wpList_load_blk_w rfl 24 (.tmp 2) rfl g1 rfl _ (pgC pg0) _ (HKP16.out.below hW hlP16) Try.underlying24 rfl pg_size ?_)
        go_wp2; exact pure_post rfl rfl rfl
      case o16 => intro W hW; rintro _ rfl; change wpList _ _ _ _ _ _; go_wp2; exact pure_post rfl rfl rfl
      case o17 => intro W hW; rintro _ rfl; rintro _ rfl; change wpList _ _ _ _ _ _; go_wp2; exact pure_post rfl rfl rfl
      case o18 =>
        intro W hW; rintro _ rfl; rintro _ rfl; rintro _ rfl; rintro _ rfl; change wpList _ _ _ _ _ _
        have hsW := hW.size
      
        go_wp2_with fail
        refine (sem_step W.heap.size pg0 HF.out q W (pg_more9 (HPr16.out.below hW) hsW) ((HOq16.out.below hW).more hsW) HGq.out (Nat.le_refl _) (j : Int) HIj.out false).mono ?_
        rintro e w2 ⟨q', rfl, hm2, hcf2, hb2⟩
        have HB2 := kp hb2; have HM2 := kp hm2; have HC2 := kp hcf2; clear hb2 hm2 hcf2
        go_wp2
        exact made_post rfl rfl rfl HB2.out ⟨q', rfl, HM2.out.less hsW, HC2.out.trans HcB.out⟩
      case o19 =>
        intro W hW; rintro _ rfl; change wpList _ _ _ _ _ _
        go_must (refine wpList_load_blk_w rfl 24 (.tmp 2) rfl g1 rfl _ (pgC pg0) _ (HKP16.out.below hW hlP16) Try.underlying24 rfl pg_size ?_)
        go_wp2; exact pure_post rfl rfl rfl
      case o20 => intro W hW; rintro _ rfl; change wpList _ _ _ _ _ _; go_wp2; exact pure_post rfl rfl rfl
      case o21 => intro W hW; rintro _ rfl; rintro _ rfl; change wpList _ _ _ _ _ _; go_wp2; exact pure_post rfl rfl rfl
      case o22 =>
        intro W hW; rintro _ ⟨qx, rfl, hmx, hcx⟩; rintro _ rfl; rintro _ rfl; rintro _ rfl; change wpList _ _ _ _ _ _
        have hsW := hW.size
        have HMx := kp hmx; have HCx := kp hcx
        clear hmx hcx
        go_wp2_with fail
        refine (sem_step W.heap.size pg0 HF.out qx W (pg_more9 (HPr16.out.below hW) hsW) HMx.out.ok (by rw [HCx.out]; exact HGB.out) (Nat.le_refl _) (i : Int) HIi.out false).mono ?_
        rintro e w2 ⟨q', rfl, hm2, hcf2, hb2⟩
        have HB2 := kp hb2; have HM2 := kp hm2; have HC2 := kp hcf2; clear hb2 hm2 hcf2
        go_wp2
        exact made_post rfl rfl rfl HB2.out ⟨q', rfl, HM2.out.less hsW, by rw [HC2.out, HCx.out]; exact HcE.out⟩
      case o23 =>
        intro W hW; rintro _ ⟨qx, rfl, hmx, hcx⟩; rintro _ rfl; change wpList _ _ _ _ _ _
        have hsW := hW.size
        have HMx := kp hmx; have HCx := kp hcx
        have HGx := kp (show M.Good pg0 qx.cf by rw [hcx]; exact HGE.out)
        clear hmx hcx
        go_wp2_with fail
        refine (law_plain qx W HMx.out.ok (most_8 HGx.out HMx.out.ok) HGx.out.owns (low_stacks HF.out HP.out.row.len HGx.out HMx.out.ok) (good_8s HGx.out)).mono ?_
        rintro e w2 ⟨q', rfl, hm2, hcf2, _, _, hsl2, hb2⟩
        have HB2 := kp hb2; have HM2 := kp (hm2.lower hsW); have HC2 := kp hcf2; have HS2 := kp hsl2; clear hb2 hm2 hcf2 hsl2
        go_wp2
        exact made_post rfl rfl rfl HB2.out ⟨q', rfl, HM2.out, HC2.out.trans HCx.out, HS2.out⟩
      case o24 =>
        intro W hW; rintro _ ⟨p1, rfl, hm1, hcp1, hsp1⟩; rintro _ ⟨p2, rfl, hm2, hcp2, hsp2⟩; rintro _ rfl; change wpList _ _ _ _ _ _
        have hsW := hW.size
        have HM1 := kp hm1; have HM2 := kp hm2; have HC1 := kp hcp1; have HC2 := kp hcp2; have HS1 := kp hsp1; have HS2 := kp hsp2
        clear hm1 hm2 hcp1 hcp2 hsp1 hsp2
        go_wp2_with fail
        refine (rs_same W.heap.size p1 p2 W HM1.out.ok HM2.out.ok (Nat.le_refl _) HS1.out HS2.out (rc_own HC1.out HGE.out.owns) (rc_own HC2.out HGE.out.owns) true ⟨fun _ => by rw [HC1.out, HC2.out], fun _ => rfl⟩).mono ?_
        rintro e w2 ⟨rfl, hb2⟩
        have HB2 := kp hb2; clear hb2
        go_wp2
        exact made_post rfl rfl rfl HB2.out rfl
      case o25 => intro W hW; rintro _ rfl; rintro _ rfl; change wpList _ _ _ _ _ _; go_wp2; exact pure_post rfl rfl rfl
      case o26 => intro W hW; rintro _ rfl; change wpList _ _ _ _ _ _; go_wp2; exact pure_post rfl rfl rfl
    case hend =>
      intro W hW; rintro _ rfl; rintro _ rfl; rintro _ rfl; rintro _ rfl; rintro _ rfl; rintro _ rfl; rintro _ rfl; rintro _ rfl; rintro _ ⟨qx, rfl, hmx, hcx⟩; rintro _ rfl; rintro _ rfl; rintro _ rfl; rintro _ ⟨qx, rfl, hmx, hcx⟩; rintro _ ⟨p1, rfl, hm1, hcp1, hsp1⟩; rintro _ rfl; rintro _ rfl; rintro _ rfl; rintro _ rfl; rintro _ ⟨qx, rfl, hmx, hcx⟩; rintro _ rfl; rintro _ rfl; rintro _ rfl; rintro _ ⟨qx, rfl, hmx, hcx⟩; rintro _ ⟨p2, rfl, hm2, hcp2, hsp2⟩; rintro _ rfl; rintro _ rfl; rintro _ rfl
      simp only [given, put_lit, List.set]
      have HWx := kp (HU16.out.trans (hW.mono hs16))
      clear hW
      go_wp2
      go_ret
      exact ⟨rfl, HWx.out⟩
end Go.Proofs.Yticifjmkocgipaa
