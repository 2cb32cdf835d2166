/- RaceTells, walked. -/
import Derived.Test.YticifjmkocgipaaRaceLaw2
import Derived.Test.YticifjmkocgipaaPk38
import Derived.Test.YticifjmkocgipaaRaceR2
namespace Go.Proofs.Yticifjmkocgipaa
open Go.RowKit

set_option maxRecDepth 1000000 in
set_option maxHeartbeats 8000000 in
theorem walkRaceTells (pg0 : Pg) (a1 : Option Addr) (len1 cap1 : Nat) (z1 : List (Int × Bool)) (a2 a3 a4 : Int) (w : World) (w0 : pg0.Ok w w.heap.size) (w1 : Picks w w.heap.size a1 len1 z1) (c1 : len1 ≤ cap1 ∧ cap1 ≤ maxLen) (w2 : (Lit.int .i64 a2).wf = true) (w3 : (Lit.int .i64 a3).wf = true) (_w4 : (Lit.int .i64 a4).wf = true) :
    Calls Try.prog 3 #[pgA pg0, .slice a1 len1 cap1, .int .i64 a2, .int .i64 a3, .int .i64 a4] w fun e w' => e = .returned (.bool true) ∧ Below w.heap.size w w' := by
  have HP := kp w0
  have HPi := kp w1
  have hc1 := c1.1; have hm1 := c1.2
  unfold maxLen at hm1
  obtain ⟨r, hr⟩ : ∃ r, Q.small pg0 = r := ⟨_, rfl⟩
  have HR := kp hr
  clear hr w0 w1 c1
  have HI2 : Kept (I64 a2) := kp (by have h := int_i64 w2; unfold I64; omega)
  have HI3 : Kept (I64 a3) := kp (by have h := int_i64 w3; unfold I64; omega)
  clear w2 w3
  rw [pgA_is]
  cases r
  · go_enter Try.func3, Try.ntmps3
    go_wp2_with (first
      | ((with_reducible refine wpList_box_agg rfl 24 (.tmp 0) rfl (pgC pg0) rfl ?_); intro g1 u1 hg1 hk1 hu1; have HK1 := kp hk1; have HG1 := kp hg1; have HU1 := kp hu1; have hz1 := hu1.size; clear hg1 hk1 hu1))
    refine (race_awake u1).mono ?_
    rintro e u2 ⟨rfl, hb2⟩
    have HU2 : Kept (Below w.heap.size w u2) := kp (HU1.out.trans (hb2.mono hz1))
    have hs2 := HU2.out.size
    have HP2 := kp (HP.out.below HU2.out)
    have HK2 := kp (HK1.out.below hb2 HK1.out.lt)
    obtain ⟨hc0, hc1', hc2, hc3⟩ := pg_cells HK2.out
    clear hb2
    go_wp2_with fail
    refine (ref_small _ pg0 u2 HP2.out hs2 _ HR.out).mono ?_
    rintro e u3 ⟨rfl, hb3⟩
    have HU3 : Kept (Below w.heap.size w u3) := kp (HU2.out.trans (hb3.mono hs2))
    have hs3 := HU3.out.size
    have HP3 := kp (HP.out.below HU3.out)
    have HK3 := kp (HK2.out.below hb3 HK2.out.lt)
    clear hb3 hc0 hc1' hc2 hc3
    obtain ⟨hc0, hc1', hc2, hc3⟩ := pg_cells HK3.out
    go_wp2_with fail
    refine (race_awake u3).mono ?_
    rintro e u4 ⟨rfl, hb4⟩
    have HU4 := kp (HU3.out.trans (hb4.mono hs3))
    clear hb4
    go_wp2
    go_ret
    exact ⟨rfl, HU4.out⟩
  by_cases hbig : 300 < len1
  · go_enter Try.func3, Try.ntmps3
    go_wp2_with (first
      | ((with_reducible refine wpList_box_agg rfl 24 (.tmp 0) rfl (pgC pg0) rfl ?_); intro g1 u1 hg1 hk1 hu1; have HK1 := kp hk1; have HG1 := kp hg1; have HU1 := kp hu1; have hz1 := hu1.size; clear hg1 hk1 hu1))
    refine (race_awake u1).mono ?_
    rintro e u2 ⟨rfl, hb2⟩
    have HU2 : Kept (Below w.heap.size w u2) := kp (HU1.out.trans (hb2.mono hz1))
    have hs2 := HU2.out.size
    have HP2 := kp (HP.out.below HU2.out)
    have HK2 := kp (HK1.out.below hb2 HK1.out.lt)
    obtain ⟨hc0, hc1', hc2, hc3⟩ := pg_cells HK2.out
    clear hb2
    go_wp2_with fail
    refine (ref_small _ pg0 u2 HP2.out hs2 _ HR.out).mono ?_
    rintro e u3 ⟨rfl, hb3⟩
    have HU3 : Kept (Below w.heap.size w u3) := kp (HU2.out.trans (hb3.mono hs2))
    have hs3 := HU3.out.size
    have HP3 := kp (HP.out.below HU3.out)
    have HK3 := kp (HK2.out.below hb3 HK2.out.lt)
    clear hb3 hc0 hc1' hc2 hc3
    obtain ⟨hc0, hc1', hc2, hc3⟩ := pg_cells HK3.out
    go_wp2_with fail
    refine (race_awake u3).mono ?_
    rintro e u4 ⟨rfl, hb4⟩
    have HU4 := kp (HU3.out.trans (hb4.mono hs3))
    clear hb4
    go_wp2
    go_ret
    exact ⟨rfl, HU4.out⟩
  have HN3 := kp hbig
  go_enter Try.func3, Try.ntmps3
  go_wp2_with (first
    | ((with_reducible refine wpList_box_agg rfl 24 (.tmp 0) rfl (pgC pg0) rfl ?_); intro g1 u1 hg1 hk1 hu1; have HK1 := kp hk1; have HG1 := kp hg1; have HU1 := kp hu1; have hz1 := hu1.size; clear hg1 hk1 hu1))
  refine (race_awake u1).mono ?_
  rintro e u2 ⟨rfl, hb2⟩
  have HU2 : Kept (Below w.heap.size w u2) := kp (HU1.out.trans (hb2.mono hz1))
  have hs2 := HU2.out.size
  have HP2 := kp (HP.out.below HU2.out)
  have HK2 := kp (HK1.out.below hb2 HK1.out.lt)
  obtain ⟨hc0, hc1', hc2, hc3⟩ := pg_cells HK2.out
  clear hb2
  go_wp2_with fail
  refine (ref_small _ pg0 u2 HP2.out hs2 _ HR.out).mono ?_
  rintro e u3 ⟨rfl, hb3⟩
  have HU3 : Kept (Below w.heap.size w u3) := kp (HU2.out.trans (hb3.mono hs2))
  have hs3 := HU3.out.size
  have HP3 := kp (HP.out.below HU3.out)
  have HK3 := kp (HK2.out.below hb3 HK2.out.lt)
  clear hb3 hc0 hc1' hc2 hc3
  obtain ⟨hc0, hc1', hc2, hc3⟩ := pg_cells HK3.out
  obtain ⟨ca, cb, cc, hcc⟩ : ∃ a b c, Q.check pg0 = (a, b, c) := ⟨_, _, _, rfl⟩
  have HC := kp hcc
  clear hcc
  have hn300 : len1 ≤ 300 := by have := HN3.out; omega
  go_wp2_with fail
  refine (law_runs pg0 a1 len1 cap1 z1 u3 (pg_more9 HP3.out hs3) (picks_up HPi.out HU3.out) ⟨hc1, by unfold maxLen; exact hm1⟩ hn300 ca cb cc HC.out).mono ?_
  unfold RunsPost
  rintro e u4 ⟨q, ok, rfl, hmi, h16, hno, hyes, hb4⟩
  have HMi4 := kp hmi; have H17 := kp (conf_len h16); have HU4 := kp (HU3.out.trans (hb4.mono hs3)); have HK4 := kp (HK3.out.below hb4 HK3.out.lt); have hs4 := HU4.out.size; have hlk4 := HK4.out.lt
  clear hmi h16 hb4 hc0 hc1' hc2 hc3
  by_cases hz : cc = 0
  case neg =>
    obtain rfl := hno hz
    have hb0 : ((cc : Int) != 0) = true := by rw [bne_iff_ne]; omega
    clear hno hyes
    go_wp2_with (first
      | ((with_reducible show wpList _ _ _ (⟨some 11, _, _, _, _, _⟩ :: _) _ _); go_must (refine wpList_alloc_zero rfl 31 rfl _ conf_zero ?_); intro gC u5 hgC hk5 hu5; have HKc := kp hk5; have HGC := kp hgC; have HU5 := kp (HU4.out.trans (hu5.mono hs4)); have HMi5 := kp (HMi4.out.below hu5 (Nat.le_refl _)); have HK5 := kp (HK4.out.below hu5 HK4.out.lt); have hs5 := HU5.out.size; have hs45 := hu5.size; clear hk5 hu5 hgC)
      | ((with_reducible show wpList _ _ _ (⟨none, _, _, _, _, _⟩ :: _) _ _); go_must (refine wpList_store_blk rfl 31 (.tmp 11) (.tmp 47) rfl gC (pcC q) rfl rfl _ _ HKc.out (by rw [H17.out]; exact conf_size) (by rw [H17.out]; rfl) (conf_ones q) ?_); intro u6 hk6 hg6 hs6'
         have HKC := kp hk6; have HB := kp (HU5.out.grown hg6 hs5 (fun k e => by cases e; have := HGC.out; omega)); have hBs := HB.out.size; have hlC := hk6.lt
         have HKP := kp (HK5.out.grown hg6 (fun e => by cases e; have := HGC.out; omega)); have hlP := HKP.out.lt
         have HMi := kp ((Mine.typed HMi5.out HKc.out hg6)); have HOq := kp HMi.out.ok; have HPr := kp (pg_more9 (HP.out.below HB.out) hBs)
         have HGw : Kept (w.heap.size ≤ g1 ∧ w.heap.size ≤ gC ∧ g1 ≠ gC) := kp ⟨by have := HG1.out; omega, by have := HGC.out; omega, by have := HGC.out; omega⟩
         clear hk6 hg6 hs6')
      | ((with_reducible show wpList _ _ _ (⟨some 50, _, _, _, _, _⟩ :: _) _ _); go_must (refine wpList_load_blk rfl 24 (.tmp 5) rfl g1 rfl _ (pgC pg0) _ HKP.out Try.underlying24 rfl pg_size ?_))
      | (go_at_call 11; go_must (refine (ref_check _ pg0 u6 (HP.out.below HB.out) hBs ca cb cc HC.out).mono ?_); rintro e u7 ⟨rfl, hb7⟩; have HU7 := kp (HB.out.trans (hb7.mono hBs)); clear hb7))
    go_wp2
    go_ret
    exact ⟨rfl, HU7.out⟩
  obtain ⟨rfl, hcf⟩ := hyes hz
  have HZ := kp hz; have HCf := kp hcf
  have HZ0 : Kept ((cc : Int) = 0) := kp (by omega)
  have hb0 : ((cc : Int) != 0) = false := by rw [HZ0.out]; rfl
  clear hno hyes hz hcf
  have HF : Kept (Fine pg0) := kp (fine_of (by rw [HC.out, HZ.out]))
  have HGd : Kept (∀ i, M.Good pg0 (runTo pg0 z1 i)) := kp (runTo_good HF.out HP.out.row.len z1)
  have HGq : Kept (M.Good pg0 q.cf) := kp (by rw [HCf.out]; exact HGd.out len1)
  go_wp2_with (first
    | ((with_reducible show wpList _ _ _ (⟨some 11, _, _, _, _, _⟩ :: _) _ _); go_must (refine wpList_alloc_zero rfl 31 rfl _ conf_zero ?_); intro gC u5 hgC hk5 hu5; have HKc := kp hk5; have HGC := kp hgC; have HU5 := kp (HU4.out.trans (hu5.mono hs4)); have HMi5 := kp (HMi4.out.below hu5 (Nat.le_refl _)); have HK5 := kp (HK4.out.below hu5 HK4.out.lt); have hs5 := HU5.out.size; have hs45 := hu5.size; clear hk5 hu5 hgC)
    | ((with_reducible show wpList _ _ _ (⟨none, _, _, _, _, _⟩ :: _) _ _); go_must (refine wpList_store_blk rfl 31 (.tmp 11) (.tmp 47) rfl gC (pcC q) rfl rfl _ _ HKc.out (by rw [H17.out]; exact conf_size) (by rw [H17.out]; rfl) (conf_ones q) ?_); intro u6 hk6 hg6 hs6'
       have HKC := kp hk6; have HB := kp (HU5.out.grown hg6 hs5 (fun k e => by cases e; have := HGC.out; omega)); have hBs := HB.out.size; have hlC := hk6.lt
       have HKP := kp (HK5.out.grown hg6 (fun e => by cases e; have := HGC.out; omega)); have hlP := HKP.out.lt
       have HMi := kp ((Mine.typed HMi5.out HKc.out hg6)); have HOq := kp HMi.out.ok; have HPr := kp (pg_more9 (HP.out.below HB.out) hBs)
       have HGw : Kept (w.heap.size ≤ g1 ∧ w.heap.size ≤ gC ∧ g1 ≠ gC) := kp ⟨by have := HG1.out; omega, by have := HGC.out; omega, by have := HGC.out; omega⟩
       clear hk6 hg6 hs6')
    | ((with_reducible show wpList _ _ _ (⟨some 50, _, _, _, _, _⟩ :: _) _ _); go_must (refine wpList_load_blk rfl 24 (.tmp 5) rfl g1 rfl _ (pgC pg0) _ HKP.out Try.underlying24 rfl pg_size ?_))
    | (go_at_call 11; go_must (refine (ref_check _ pg0 u6 (HP.out.below HB.out) hBs ca cb cc HC.out).mono ?_); rintro e u7 ⟨rfl, hb7⟩
       have HU7 := kp (HB.out.trans (hb7.mono hBs)); have hs7 := HU7.out.size; have hs67 := hb7.size
       have HKC7 := kp (HKC.out.below hb7 hlC); have HKP7 := kp (HKP.out.below hb7 hlP); have hlC7 := HKC7.out.lt; have hlP7 := HKP7.out.lt
       have HOq7 := kp ((HOq.out.below hb7).more hs67); have HPr7 := kp (pg_more9 (HPr.out.below hb7) hs67)
       clear hb7)
    | ((with_reducible show wpList _ _ _ (⟨some 67, _, _, _, _, _⟩ :: _) _ _); go_must (refine wpList_load_blk rfl 24 (.tmp 5) rfl g1 rfl _ (pgC pg0) _ HKP7.out Try.underlying24 rfl pg_size ?_))
    | (go_at_call 12; fail))
  refine (ref_run pg0 a1 len1 cap1 z1 u7 HPr7.out (picks_up HPi.out HU7.out) ⟨hc1, by unfold maxLen; exact hm1⟩ hn300 HF.out).mono ?_
  unfold StepR
  rintro e u8 ⟨r, rfl, hmr, hcr, hb8⟩
  have HU8 := kp (HU7.out.trans (hb8.mono hs7)); have hs8 := HU8.out.size; have hs78 := hb8.size
  have HKC8 := kp (HKC7.out.below hb8 hlC7); have HKP8 := kp (HKP7.out.below hb8 hlP7); have hlC8 := HKC8.out.lt; have hlP8 := HKP8.out.lt
  have HMr8 := kp hmr
  have HCr : Kept (r.cf = q.cf) := kp (by rw [hcr, HCf.out])
  have HGr := kp (show M.Good pg0 r.cf by rw [HCr.out]; exact HGq.out)
  have HX18 := kp (rc_len HGr.out.owns)
  have HOq8 := kp ((HOq7.out.below hb8).more hs78); have HPr8 := kp (pg_more9 (HPr7.out.below hb8) hs78)
  clear hmr hcr hb8
  go_wp2_with (first
    | ((with_reducible show wpList _ _ _ (⟨some 16, _, _, _, _, _⟩ :: _) _ _); go_must (refine wpList_alloc_zero rfl 39 rfl _ ref_zero ?_); intro gX u9 hgX hk9 hu9; have HKx := kp hk9; have HGX := kp hgX; have HB89 := kp hu9; have HMr9 := kp (HMr8.out.below hu9 (Nat.le_refl _)); have hs89 := hu9.size; clear hk9 hu9 hgX)
    | ((with_reducible show wpList _ _ _ (⟨none, _, _, _, _, _⟩ :: _) _ _); go_must (refine wpList_store_blk rfl 39 (.tmp 16) (.tmp 69) rfl gX (rcC r) rfl rfl _ _ HKx.out (by rw [HX18.out]; exact ref_size18) (by rw [HX18.out]; rfl) (rc_ones _) ?_); intro u10 hk10 hg10 hs10'
       have HKX10 := kp hk10; have HB810 := kp (HB89.out.grown hg10 hs89 (fun k e => by cases e; exact HGX.out)); have hb := HB810.out; have hlX10 := hk10.lt
       have HU10 := kp (HU8.out.trans (hb.mono hs8)); have hs10 := HU10.out.size; have hs810 := hb.size
       have HKC10 := kp (HKC8.out.below hb hlC8); have HKP10 := kp (HKP8.out.below hb hlP8); have hlC10 := HKC10.out.lt; have hlP10 := HKP10.out.lt
       have HOr10 := kp ((RMine.typed HMr9.out HKx.out hg10).ok); have HOq10 := kp ((HOq8.out.below hb).more hs810); have HPr10 := kp (pg_more9 (HPr8.out.below hb) hs810)
       clear hk10 hg10 hs10' hb)
    | ((with_reducible show wpList _ _ _ (⟨some 70, _, _, _, _, _⟩ :: _) _ _); go_must (refine wpList_load_blk rfl 24 (.tmp 5) rfl g1 rfl _ (pgC pg0) _ HKP10.out Try.underlying24 rfl pg_size ?_))
    | ((with_reducible show wpList _ _ _ (⟨some 71, _, _, _, _, _⟩ :: _) _ _); go_must (refine wpList_load_blk rfl 31 (.tmp 11) rfl gC rfl _ (pcC q) _ HKC10.out Try.underlying31 rfl (by rw [H17.out]; exact conf_size) ?_))
    | (go_at_call 13; fail))
  refine (race_touches _ pg0 HF.out q u10 HPr10.out HOq10.out HGq.out (Nat.le_refl _)).mono ?_
  rintro e u11 ⟨v, rfl, hown, hb11⟩
  obtain ⟨nt, hnt⟩ : ∃ n, (touchesTo pg0 q.cf q.len).length = n := ⟨_, rfl⟩
  obtain ⟨At, ct, rfl, hntc, hctm, hrec⟩ := touches_open hown hnt
  have HNt := kp hnt; have HRec := kp hrec
  have h8 := most_8 HGq.out HOq10.out
  have hn8 : nt ≤ 8 := by have := touches_len pg0 q.cf q.len; omega
  unfold maxLen at hctm
  have HU11 := kp (HU10.out.trans (hb11.mono hs10)); have hs11 := HU11.out.size; have hs1011 := hb11.size
  have HKC11 := kp (HKC10.out.below hb11 hlC10); have HKP11 := kp (HKP10.out.below hb11 hlP10); have HKX11 := kp (HKX10.out.below hb11 hlX10); have hlC11 := HKC11.out.lt; have hlP11 := HKP11.out.lt; have hlX11 := HKX11.out.lt
  have HOr11 := kp ((HOr10.out.below hb11).more hs1011); have HOq11 := kp ((HOq10.out.below hb11).more hs1011); have HPr11 := kp (pg_more9 (HPr10.out.below hb11) hs1011)
  have HRl : Kept (r.len = q.len) := kp (by rw [← HOr10.out.len, HCr.out]; exact HOq10.out.len)
  have hrc := HOr10.out.lc.1; have hrm := HOr10.out.lc.2
  unfold maxLen at hrm
  obtain ⟨nl, hnl⟩ : ∃ n, q.len = n := ⟨_, rfl⟩
  obtain ⟨cr, hcr⟩ : ∃ n, r.cap = n := ⟨_, rfl⟩
  rw [hcr] at hrm
  have hrc2 : nl ≤ cr := by have := HRl.out; omega
  have HE0 : Kept (rcC r = .slice r.A nl cr :: .slice r.A2 r.len r.cap2 :: r.ow.map natV) := kp (by unfold rcC; rw [hcr, HRl.out, hnl])
  rw [hnl] at HNt h8 HRec
  have HNl := kp hnl
  clear hown hb11 hnt hrec hrc hnl hcr
  go_wp2
  go_loopw [18, 19] (fun v18 v19 wr => ∃ (t n : Nat), t ≤ nl ∧ v19 = .int .i64 t ∧ v18 = .int .i64 n ∧ n = (touchesTo pg0 q.cf t).length ∧ n ≤ t ∧ Below u11.heap.size u11 wr) (fun _ v19 _ => nl - (intOf v19).toNat)
  case atStart => exact ⟨0, 0, by omega, rfl, rfl, rfl, by omega, Below.refl _ _⟩
  case round =>
    obtain ⟨t, n, ht, rfl, rfl, hnE, hnt2, hbw⟩ := hrel
    have HNE := kp hnE; have HBw := kp hbw; have hsw := hbw.size
    have HKXr := kp (HKX11.out.below hbw hlX11); have HKPr := kp (HKP11.out.below hbw hlP11); have HKCr := kp (HKC11.out.below hbw hlC11)
    have hlXr := HKXr.out.lt; have hlPr := HKPr.out.lt; have hlCr := HKCr.out.lt
    have HOrr := kp ((HOr11.out.below hbw).more hsw); have HOqr := kp ((HOq11.out.below hbw).more hsw); have HPrr := kp (pg_more9 (HPr11.out.below hbw) hsw)
    have HUr := kp (HU11.out.trans (hbw.mono hs11)); have hsr := HUr.out.size
    have HRecr := kp ((HRec.out.below hbw).more hsw)
    have hcX := HKXr.out.cell 0
    rw [HE0.out, List.getElem?_cons_zero] at hcX
    clear hnE hbw
    by_cases hlt : t < nl
    · have HIt : Kept (I64 (t : Int)) := kp (by unfold I64; omega)
      obtain ⟨gl, hgl⟩ : ∃ gl, (M.acc pg0 q.cf (t : Int)).1 = gl := ⟨_, rfl⟩
      obtain ⟨how, hhow⟩ : ∃ how, (M.acc pg0 q.cf (t : Int)).2 = how := ⟨_, rfl⟩
      have HAc : Kept (M.acc pg0 r.cf (t : Int) = (gl, how)) := kp (by rw [HCr.out, ← hgl, ← hhow])
      have HAq : Kept (M.acc pg0 q.cf (t : Int) = (gl, how)) := kp (by rw [← hgl, ← hhow])
      have HTwo := kp (M.acc_two pg0 q.cf (t : Int))
      rw [hhow] at HTwo
      clear hgl hhow
      go_wp2_with (first
      | ((with_reducible show wpList _ _ _ (⟨some 81, _, _, _, _, _⟩ :: _) _ _); go_must (refine wpList_load_blk rfl 24 (.tmp 5) rfl g1 rfl _ (pgC pg0) _ HKPr.out Try.underlying24 rfl pg_size ?_))
      | ((with_reducible show wpList _ _ _ (⟨some 82, _, _, _, _, _⟩ :: _) _ _); go_must (refine wpList_load_blk rfl 39 (.tmp 16) rfl gX rfl _ (rcC r) _ HKXr.out Try.underlying39 rfl (by rw [HX18.out]; exact ref_size18) ?_))
      | (go_at_call 14; fail))
      refine (ra_at _ pg0 HF.out r wr HPrr.out HOrr.out HGr.out (Nat.le_refl _) (t : Int) HIt.out gl how HAc.out).mono ?_
      rintro e w2 ⟨rfl, hb2⟩
      have HB2 := kp (HBw.out.trans (hb2.mono hsw))
      have HRec2 := kp ((HRecr.out.below hb2).more hb2.size)
      clear hb2 hcX
      by_cases h0 : how = 0
      · have HN2 : Kept (touchesTo pg0 q.cf (t + 1) = touchesTo pg0 q.cf t) := kp (touches_no (by rw [HAq.out, h0]; exact Int.lt_irrefl 0))
        subst h0
        go_wp2
        go_roundw
        case rel => exact ⟨t + 1, n, by omega, by go_num, rfl, by rw [HN2.out]; exact HNE.out, by omega, HB2.out⟩
        case measure => simp [intOf]; omega
      · have hz : (how == 0) = false := by rw [beq_eq_false_iff_ne]; exact h0
        have hpos : 0 < (M.acc pg0 q.cf (t : Int)).2 := by rw [HAq.out]; have := HTwo.out; show 0 < how; omega
        have HN2 : Kept (touchesTo pg0 q.cf (t + 1) = touchesTo pg0 q.cf t ++ [tcOf pg0 q.cf t]) := kp (touches_yes hpos)
        have HIn : Kept ((touchesTo pg0 q.cf nl)[n]? = some (tcOf pg0 q.cf t)) := kp (by rw [HNE.out]; exact touches_at hlt hpos)
        have hnn : n < nt := by rw [← HNt.out]; exact (List.getElem?_eq_some_iff.1 HIn.out).1
        obtain ⟨ad, y, rfl, _, hy, hat⟩ := tc_at HRec2.out hnn
        rw [HIn.out] at hy
        obtain ⟨wr2, hwr2⟩ : ∃ b, (how == 2) = b := ⟨_, rfl⟩
        have hye : y = ⟨t, gl, wr2⟩ := by
          rw [← Option.some.inj hy, ← hwr2]
          unfold tcOf
          rw [HAq.out]
          congr 1
        subst hye
        have hx0 : w2.cell? (ad.add (n * 3)) = some (.int .i64 (t : Int)) := hat.who
        have hx1 : w2.cell? ⟨(ad.add (n * 3)).block, (ad.add (n * 3)).off + 1, none⟩ = some (.int .i64 gl) := hat.glob
        have hx2 : w2.cell? ⟨(ad.add (n * 3)).block, (ad.add (n * 3)).off + 2, none⟩ = some (.bool wr2) := hat.wr
        have k0 : ((t : Int) == (t : Int)) = true := beq_self_eq_true _
        have k1 : (gl == gl) = true := beq_self_eq_true _
        have k2 : (wr2 == wr2) = true := beq_self_eq_true _
        have hdn : decide (nt ≤ n) = false := decide_eq_false (by omega)
        have HN3 : Kept (n + 1 = (touchesTo pg0 q.cf (t + 1)).length) := kp (by rw [HN2.out, List.length_append, List.length_singleton, ← HNE.out])
        clear hy hat hpos h0
        go_wp2
        go_roundw
        case rel => exact ⟨t + 1, n + 1, by omega, by go_num, by go_num, HN3.out, by omega, HB2.out⟩
        case measure => simp [intOf]; omega
    · have hge : nl ≤ t := by omega
      have hnq : n = nt := by rw [HNE.out, show t = nl by omega]; exact HNt.out
      subst hnq
      have kn : ((n : Int) == (n : Int)) = true := beq_self_eq_true _
      go_wp2_with (first
      | ((with_reducible show wpList _ _ _ (⟨some 108, _, _, _, _, _⟩ :: _) _ _); go_must (refine wpList_load_blk rfl 24 (.tmp 5) rfl g1 rfl _ (pgC pg0) _ HKPr.out Try.underlying24 rfl pg_size ?_))
      | ((with_reducible show wpList _ _ _ (⟨some 109, _, _, _, _, _⟩ :: _) _ _); go_must (refine wpList_load_blk rfl 31 (.tmp 11) rfl gC rfl _ (pcC q) _ HKCr.out Try.underlying31 rfl (by rw [H17.out]; exact conf_size) ?_))
      | (go_at_call 15; fail))
      refine (race_first _ pg0 HF.out q wr HPrr.out HOqr.out HGq.out (Nat.le_refl _)).mono ?_
      unfold FirstPost
      rintro e w2 ⟨x, y, z, b, rfl, hfi, hb2⟩
      have HFi := kp hfi; have HU2b := kp (HUr.out.trans (hb2.mono hsr)); have hsz2 := HU2b.out.size
      have HKX2 := kp (HKXr.out.below hb2 hlXr); have HKP2 := kp (HKPr.out.below hb2 hlPr); have HKC2 := kp (HKCr.out.below hb2 hlCr)
      have HOr2 := kp ((HOrr.out.below hb2).more hb2.size); have HOq2 := kp ((HOqr.out.below hb2).more hb2.size); have HPr2 := kp (pg_more9 (HPrr.out.below hb2) hb2.size)
      have hlX2 := HKX2.out.lt; have hlP2 := HKP2.out.lt; have hlC2 := HKC2.out.lt
      clear hfi hb2 hcX
      go_wp2_with (first
      | ((with_reducible show wpList _ _ _ (⟨some 116, _, _, _, _, _⟩ :: _) _ _); go_must (refine wpList_load_blk rfl 24 (.tmp 5) rfl g1 rfl _ (pgC pg0) _ HKP2.out Try.underlying24 rfl pg_size ?_))
      | ((with_reducible show wpList _ _ _ (⟨some 117, _, _, _, _, _⟩ :: _) _ _); go_must (refine wpList_load_blk rfl 39 (.tmp 16) rfl gX rfl _ (rcC r) _ HKX2.out Try.underlying39 rfl (by rw [HX18.out]; exact ref_size18) ?_))
      | (go_at_call 16; fail))
      refine (ra_first _ pg0 HF.out r w2 HPr2.out HOr2.out HGr.out (Nat.le_refl _)).mono ?_
      unfold FirstR
      rintro e w3 ⟨x', y', z', h', rfl, hfi, hb3⟩
      rw [HCr.out] at hfi
      obtain ⟨rfl, rfl, rfl, rfl⟩ := M.first_one HFi.out hfi
      have HU3b := kp (HU2b.out.trans (hb3.mono hsz2)); have hsz3 := HU3b.out.size
      have HKX3 := kp (HKX2.out.below hb3 hlX2); have HKP3 := kp (HKP2.out.below hb3 hlP2); have HKC3 := kp (HKC2.out.below hb3 hlC2)
      have HOr3 := kp ((HOr2.out.below hb3).more hb3.size); have HOq3 := kp ((HOq2.out.below hb3).more hb3.size); have HPr3 := kp (pg_more9 (HPr2.out.below hb3) hb3.size)
      have hlX3 := HKX3.out.lt; have hlP3 := HKP3.out.lt; have hlC3 := HKC3.out.lt
      clear hfi hb3
      obtain ⟨hh, hhe⟩ : ∃ h : Int, (if b = true then (1 : Int) else 0) = h := ⟨_, rfl⟩
      rw [hhe]
      have kh : (hh == 1) = b := by rw [← hhe]; cases b <;> rfl
      have kb : (b == b) = true := beq_self_eq_true _
      have kx : (x == x) = true := beq_self_eq_true _
      have ky : (y == y) = true := beq_self_eq_true _
      have kz : (z == z) = true := beq_self_eq_true _
      obtain ⟨rp, hrp⟩ : ∃ rp, M.pair pg0 q.cf a2 a3 a4 = rp := ⟨_, rfl⟩
      have HRp := kp hrp; have HRpr := kp (show M.pair pg0 r.cf a2 a3 a4 = rp by rw [HCr.out]; exact hrp)
      have kr : (rp == rp) = true := beq_self_eq_true _
      clear hhe hrp HFi
      go_wp2
      apply region_list (.is _ :: .is _ :: .is _ :: .is (.bool true) :: .is _ :: .is _ :: .is _ :: .is (.bool true) :: .is (.bool true) :: .is _ :: .is _ :: .is _ :: .is (.bool true) :: .is (.bool true) :: .is _ :: .is _ :: .is _ :: .is (.bool true) :: .is (.bool true) :: .is _ :: .is (.bool b) :: .is (.int .i64 hh) :: .is (.bool b) :: .is (.bool true) :: .is (.bool true) :: .is (.bool true) :: .is (pgA pg0) :: .is (pcA q) :: .is (.int .i64 a2) :: .is (.int .i64 a3) :: .is (.int .i64 a4) :: .is (.bool rp) :: .is (pgA pg0) :: .is (rcA r) :: .is (.int .i64 a2) :: .is (.int .i64 a3) :: .is (.int .i64 a4) :: .is (.bool rp) :: .is (.bool true) :: .is (.bool true) :: .is (.bool true) :: [])
        [[], [], [(1, 124)], [(0, 123), (2, 125)], [(3, 126)], [(4, 127)], [(4, 127)], [(5, 128), (6, 129), (4, 127)], [(4, 127), (7, 130)], [(8, 131)], [(9, 132)], [(9, 132)], [(10, 133), (11, 134), (9, 132)], [(9, 132), (12, 135)], [(13, 136)], [(14, 137)], [(14, 137)], [(15, 138), (16, 139), (14, 137)], [(14, 137), (17, 140)], [(18, 141)], [(19, 142)], [(19, 142)], [(21, 144), (19, 142)], [(20, 143), (22, 145), (19, 142)], [(19, 142), (23, 146)], [(24, 147)], [(25, 148)], [(25, 148)], [(25, 148)], [(25, 148)], [(25, 148)], [(26, 149), (27, 150), (28, 151), (29, 152), (30, 153), (25, 148)], [(25, 148)], [(25, 148)], [(25, 148)], [(25, 148)], [(25, 148)], [(32, 155), (33, 156), (34, 157), (35, 158), (36, 159), (25, 148)], [(31, 154), (37, 160), (25, 148)], [(25, 148), (38, 161)], [(39, 162)]]
        [(0, 123), (1, 124), (2, 125), (3, 126), (4, 127), (5, 128), (6, 129), (7, 130), (8, 131), (9, 132), (10, 133), (11, 134), (12, 135), (13, 136), (14, 137), (15, 138), (16, 139), (17, 140), (18, 141), (19, 142), (20, 143), (21, 144), (22, 145), (23, 146), (24, 147), (25, 148), (26, 149), (27, 150), (28, 151), (29, 152), (30, 153), (31, 154), (32, 155), (33, 156), (34, 157), (35, 158), (36, 159), (37, 160), (38, 161), (39, 162), (40, 10)] (by kernel_rfl) (by kernel_rfl)
      case hob =>
        refine ⟨?o0, ?o1, ?o2, ?o3, ?o4, ?o5, ?o6, ?o7, ?o8, ?o9, ?o10, ?o11, ?o12, ?o13, ?o14, ?o15, ?o16, ?o17, ?o18, ?o19, ?o20, ?o21, ?o22, ?o23, ?o24, ?o25, ?o26, ?o27, ?o28, ?o29, ?o30, ?o31, ?o32, ?o33, ?o34, ?o35, ?o36, ?o37, ?o38, ?o39, ?o40, trivial⟩
        case o0 => intro W hW; change wpList _ _ _ _ _ _; go_wp2; exact pure_post rfl rfl rfl
        case o1 => intro W hW; change wpList _ _ _ _ _ _; go_wp2; exact pure_post rfl rfl rfl
        case o2 => intro W hW; rintro _ rfl; change wpList _ _ _ _ _ _; go_wp2; exact pure_post rfl rfl rfl
        case o3 => intro W hW; rintro _ rfl; rintro _ rfl; change wpList _ _ _ _ _ _; go_wp2; exact pure_post rfl rfl rfl
        case o4 => intro W hW; rintro _ rfl; change wpList _ _ _ _ _ _; go_wp2; exact pure_post rfl rfl rfl
        case o5 => intro W hW; rintro _ rfl; change wpList _ _ _ _ _ _; go_wp2; exact pure_post rfl rfl rfl
        case o6 => intro W hW; rintro _ rfl; change wpList _ _ _ _ _ _; go_wp2; exact pure_post rfl rfl rfl
        case o7 => intro W hW; rintro _ rfl; rintro _ rfl; rintro _ rfl; change wpList _ _ _ _ _ _; go_wp2; exact pure_post rfl rfl rfl
        case o8 => intro W hW; rintro _ rfl; rintro _ rfl; change wpList _ _ _ _ _ _; go_wp2; exact pure_post rfl rfl rfl
        case o9 => intro W hW; rintro _ rfl; change wpList _ _ _ _ _ _; go_wp2; exact pure_post rfl rfl rfl
        case o10 => intro W hW; rintro _ rfl; change wpList _ _ _ _ _ _; go_wp2; exact pure_post rfl rfl rfl
        case o11 => intro W hW; rintro _ rfl; change wpList _ _ _ _ _ _; go_wp2; exact pure_post rfl rfl rfl
        case o12 => intro W hW; rintro _ rfl; rintro _ rfl; rintro _ rfl; change wpList _ _ _ _ _ _; go_wp2; exact pure_post rfl rfl rfl
        case o13 => intro W hW; rintro _ rfl; rintro _ rfl; change wpList _ _ _ _ _ _; go_wp2; exact pure_post rfl rfl rfl
        case o14 => intro W hW; rintro _ rfl; change wpList _ _ _ _ _ _; go_wp2; exact pure_post rfl rfl rfl
        case o15 => intro W hW; rintro _ rfl; change wpList _ _ _ _ _ _; go_wp2; exact pure_post rfl rfl rfl
        case o16 => intro W hW; rintro _ rfl; change wpList _ _ _ _ _ _; go_wp2; exact pure_post rfl rfl rfl
        case o17 => intro W hW; rintro _ rfl; rintro _ rfl; rintro _ rfl; change wpList _ _ _ _ _ _; go_wp2; exact pure_post rfl rfl rfl
        case o18 => intro W hW; rintro _ rfl; rintro _ rfl; change wpList _ _ _ _ _ _; go_wp2; exact pure_post rfl rfl rfl
        case o19 => intro W hW; rintro _ rfl; change wpList _ _ _ _ _ _; go_wp2; exact pure_post rfl rfl rfl
        case o20 => intro W hW; rintro _ rfl; change wpList _ _ _ _ _ _; go_wp2; exact pure_post rfl rfl rfl
        case o21 => intro W hW; rintro _ rfl; change wpList _ _ _ _ _ _; go_wp2; exact pure_post rfl rfl rfl
        case o22 => intro W hW; rintro _ rfl; rintro _ rfl; change wpList _ _ _ _ _ _; go_wp2; exact pure_post rfl rfl rfl
        case o23 => intro W hW; rintro _ rfl; rintro _ rfl; rintro _ rfl; change wpList _ _ _ _ _ _; go_wp2; exact pure_post rfl rfl rfl
        case o24 => intro W hW; rintro _ rfl; rintro _ rfl; change wpList _ _ _ _ _ _; go_wp2; exact pure_post rfl rfl rfl
        case o25 => intro W hW; rintro _ rfl; change wpList _ _ _ _ _ _; go_wp2; exact pure_post rfl rfl rfl
        case o26 =>
          intro W hW; rintro _ rfl; change wpList _ _ _ _ _ _
          go_must (refine wpList_load_blk_w rfl 24 (.tmp 5) rfl g1 rfl _ (pgC pg0) _ (HKP3.out.below hW hlP3) Try.underlying24 rfl pg_size ?_)
          go_wp2; exact pure_post rfl rfl rfl
        case o27 =>
          intro W hW; rintro _ rfl; change wpList _ _ _ _ _ _
          go_must (refine wpList_load_blk_w rfl 31 (.tmp 11) rfl gC rfl _ (pcC q) _ (HKC3.out.below hW hlC3) Try.underlying31 rfl (by rw [H17.out]; exact conf_size) ?_)
          go_wp2; exact pure_post rfl rfl rfl
        case o28 => intro W hW; rintro _ rfl; change wpList _ _ _ _ _ _; go_wp2; exact pure_post rfl rfl rfl
        case o29 => intro W hW; rintro _ rfl; change wpList _ _ _ _ _ _; go_wp2; exact pure_post rfl rfl rfl
        case o30 => intro W hW; rintro _ rfl; change wpList _ _ _ _ _ _; go_wp2; exact pure_post rfl rfl rfl
        case o31 =>
          intro W hW; rintro _ rfl; rintro _ rfl; rintro _ rfl; rintro _ rfl; rintro _ rfl; rintro _ rfl; change wpList _ _ _ _ _ _
          have hsW := hW.size
          go_wp2_with fail
          refine (race_pair _ pg0 HF.out q W (pg_more9 (HPr3.out.below hW) hsW) ((HOq3.out.below hW).more hsW) HGq.out (Nat.le_refl _) a2 a3 a4 rp HRp.out).mono ?_
          rintro e w4 ⟨rfl, hb4⟩
          have HB4 := kp hb4; clear hb4
          go_wp2
          exact made_post rfl rfl rfl HB4.out rfl
        case o32 =>
          intro W hW; rintro _ rfl; change wpList _ _ _ _ _ _
          go_must (refine wpList_load_blk_w rfl 24 (.tmp 5) rfl g1 rfl _ (pgC pg0) _ (HKP3.out.below hW hlP3) Try.underlying24 rfl pg_size ?_)
          go_wp2; exact pure_post rfl rfl rfl
        case o33 =>
          intro W hW; rintro _ rfl; change wpList _ _ _ _ _ _
          go_must (refine wpList_load_blk_w rfl 39 (.tmp 16) rfl gX rfl _ (rcC r) _ (HKX3.out.below hW hlX3) Try.underlying39 rfl (by rw [HX18.out]; exact ref_size18) ?_)
          go_wp2; exact pure_post rfl rfl rfl
        case o34 => intro W hW; rintro _ rfl; change wpList _ _ _ _ _ _; go_wp2; exact pure_post rfl rfl rfl
        case o35 => intro W hW; rintro _ rfl; change wpList _ _ _ _ _ _; go_wp2; exact pure_post rfl rfl rfl
        case o36 => intro W hW; rintro _ rfl; change wpList _ _ _ _ _ _; go_wp2; exact pure_post rfl rfl rfl
        case o37 =>
          intro W hW; rintro _ rfl; rintro _ rfl; rintro _ rfl; rintro _ rfl; rintro _ rfl; rintro _ rfl; change wpList _ _ _ _ _ _
          have hsW := hW.size
          go_wp2_with fail
          refine (ra_pair _ pg0 HF.out r W (pg_more9 (HPr3.out.below hW) hsW) ((HOr3.out.below hW).more hsW) HGr.out (Nat.le_refl _) a2 a3 a4 HI2.out HI3.out rp HRpr.out).mono ?_
          rintro e w4 ⟨rfl, hb4⟩
          have HB4 := kp hb4; clear hb4
          go_wp2
          exact made_post rfl rfl rfl HB4.out rfl
        case o38 => intro W hW; rintro _ rfl; rintro _ rfl; rintro _ rfl; change wpList _ _ _ _ _ _; go_wp2; exact pure_post rfl rfl rfl
        case o39 => intro W hW; rintro _ rfl; rintro _ rfl; change wpList _ _ _ _ _ _; go_wp2; exact pure_post rfl rfl rfl
        case o40 => intro W hW; rintro _ rfl; change wpList _ _ _ _ _ _; go_wp2; exact pure_post rfl rfl rfl
      case hend =>
        intro W hW; rintro _ rfl; rintro _ rfl; rintro _ rfl; rintro _ rfl; rintro _ rfl; rintro _ rfl; rintro _ rfl; rintro _ rfl; rintro _ rfl; rintro _ rfl; rintro _ rfl; rintro _ rfl; rintro _ rfl; rintro _ rfl; rintro _ rfl; rintro _ rfl; rintro _ rfl; rintro _ rfl; rintro _ rfl; rintro _ rfl; rintro _ rfl; rintro _ rfl; rintro _ rfl; rintro _ rfl; rintro _ rfl; rintro _ rfl; rintro _ rfl; rintro _ rfl; rintro _ rfl; rintro _ rfl; rintro _ rfl; rintro _ rfl; rintro _ rfl; rintro _ rfl; rintro _ rfl; rintro _ rfl; rintro _ rfl; rintro _ rfl; rintro _ rfl; rintro _ rfl; rintro _ rfl
        simp only [given, put_lit, List.set]
        have HWx := kp (HU3b.out.trans (hW.mono hsz3))
        clear hW
        go_wp2
        go_ret
        exact ⟨rfl, HWx.out⟩
end Go.Proofs.Yticifjmkocgipaa
