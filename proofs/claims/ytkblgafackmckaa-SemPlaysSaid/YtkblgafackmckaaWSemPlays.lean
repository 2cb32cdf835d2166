/- SemPlays, walked. -/
import Derived.Test.YtkblgafackmckaaPq24
import Derived.Test.YtkblgafackmckaaPr4
import Derived.Deep.CutRange
namespace Go.Proofs.Ytkblgafackmckaa
open Go.RowKit

set_option maxRecDepth 1000000 in
set_option maxHeartbeats 8000000 in
theorem walkSemPlays (pg0 : Pg) (a1 : Option Addr) (len1 cap1 : Nat) (z1 : List (Int × Bool)) (a2 : Int) (w : World) (w0 : pg0.Ok w w.heap.size) (w1 : Picks w w.heap.size a1 len1 z1) (c1 : len1 ≤ cap1 ∧ cap1 ≤ maxLen) (w2 : (Lit.int .i64 a2).wf = true) :
    Calls Try.prog 3 #[pgA pg0, .slice a1 len1 cap1, .int .i64 a2] w fun e w' => e = .returned (.bool true) ∧ Below w.heap.size w w' := by
  have HP := kp w0
  have HPi := kp w1
  have hc1 := c1.1; have hm1 := c1.2
  unfold maxLen at hm1
  obtain ⟨r, hr⟩ : ∃ r, Q.small pg0 = r := ⟨_, rfl⟩
  have HR := kp hr
  clear hr w0 w1 c1
  have HI2 : Kept (I64 a2) := kp (by have h := int_i64 w2; unfold I64; omega)
  clear w2
  rw [pgA_is]
  cases r
  · go_enter Try.func3, Try.ntmps3
    go_wp2_with (first
      | ((with_reducible refine wpList_box_agg rfl 24 (.tmp 0) rfl (pgC pg0) rfl ?_); intro g1 u1 hg1 hk1 hu1; have HK1 := kp hk1; have HG1 := kp hg1; have HU1 := kp hu1; have hz1 := hu1.size; clear hg1 hk1 hu1))
    refine (sem_awake u1).mono ?_
    rintro e u2 ⟨rfl, hb2⟩
    have HU2 : Kept (Below w.heap.size w u2) := kp (HU1.out.trans (hb2.mono hz1))
    have hs2 := HU2.out.size
    have HP2 := kp (HP.out.below HU2.out)
    have HK2 := kp (HK1.out.below hb2 HK1.out.lt)
    obtain ⟨hc0, hc1', hc2, hc3⟩ := pg_cells HK2.out
    clear hb2
    go_wp2_with fail
    refine (ref_small _ pg0 u2 HP2.out hs2 _ HR.out).mono ?_
    rintro e u3 ⟨rfl, hb3⟩
    have HU3 : Kept (Below w.heap.size w u3) := kp (HU2.out.trans (hb3.mono hs2))
    have hs3 := HU3.out.size
    have HP3 := kp (HP.out.below HU3.out)
    have HK3 := kp (HK2.out.below hb3 HK2.out.lt)
    clear hb3 hc0 hc1' hc2 hc3
    obtain ⟨hc0, hc1', hc2, hc3⟩ := pg_cells HK3.out
    go_wp2_with fail
    refine (sem_awake u3).mono ?_
    rintro e u4 ⟨rfl, hb4⟩
    have HU4 := kp (HU3.out.trans (hb4.mono hs3))
    clear hb4
    go_wp2
    go_ret
    exact ⟨rfl, HU4.out⟩
  by_cases hbig : 300 < len1
  · go_enter Try.func3, Try.ntmps3
    go_wp2_with (first
      | ((with_reducible refine wpList_box_agg rfl 24 (.tmp 0) rfl (pgC pg0) rfl ?_); intro g1 u1 hg1 hk1 hu1; have HK1 := kp hk1; have HG1 := kp hg1; have HU1 := kp hu1; have hz1 := hu1.size; clear hg1 hk1 hu1))
    refine (sem_awake u1).mono ?_
    rintro e u2 ⟨rfl, hb2⟩
    have HU2 : Kept (Below w.heap.size w u2) := kp (HU1.out.trans (hb2.mono hz1))
    have hs2 := HU2.out.size
    have HP2 := kp (HP.out.below HU2.out)
    have HK2 := kp (HK1.out.below hb2 HK1.out.lt)
    obtain ⟨hc0, hc1', hc2, hc3⟩ := pg_cells HK2.out
    clear hb2
    go_wp2_with fail
    refine (ref_small _ pg0 u2 HP2.out hs2 _ HR.out).mono ?_
    rintro e u3 ⟨rfl, hb3⟩
    have HU3 : Kept (Below w.heap.size w u3) := kp (HU2.out.trans (hb3.mono hs2))
    have hs3 := HU3.out.size
    have HP3 := kp (HP.out.below HU3.out)
    have HK3 := kp (HK2.out.below hb3 HK2.out.lt)
    clear hb3 hc0 hc1' hc2 hc3
    obtain ⟨hc0, hc1', hc2, hc3⟩ := pg_cells HK3.out
    go_wp2_with fail
    refine (sem_awake u3).mono ?_
    rintro e u4 ⟨rfl, hb4⟩
    have HU4 := kp (HU3.out.trans (hb4.mono hs3))
    clear hb4
    go_wp2
    go_ret
    exact ⟨rfl, HU4.out⟩
  have HN3 := kp hbig
  go_enter Try.func3, Try.ntmps3
  go_wp2_with (first
    | ((with_reducible refine wpList_box_agg rfl 24 (.tmp 0) rfl (pgC pg0) rfl ?_); intro g1 u1 hg1 hk1 hu1; have HK1 := kp hk1; have HG1 := kp hg1; have HU1 := kp hu1; have hz1 := hu1.size; clear hg1 hk1 hu1))
  refine (sem_awake u1).mono ?_
  rintro e u2 ⟨rfl, hb2⟩
  have HU2 : Kept (Below w.heap.size w u2) := kp (HU1.out.trans (hb2.mono hz1))
  have hs2 := HU2.out.size
  have HP2 := kp (HP.out.below HU2.out)
  have HK2 := kp (HK1.out.below hb2 HK1.out.lt)
  obtain ⟨hc0, hc1', hc2, hc3⟩ := pg_cells HK2.out
  clear hb2
  go_wp2_with fail
  refine (ref_small _ pg0 u2 HP2.out hs2 _ HR.out).mono ?_
  rintro e u3 ⟨rfl, hb3⟩
  have HU3 : Kept (Below w.heap.size w u3) := kp (HU2.out.trans (hb3.mono hs2))
  have hs3 := HU3.out.size
  have HP3 := kp (HP.out.below HU3.out)
  have HK3 := kp (HK2.out.below hb3 HK2.out.lt)
  clear hb3 hc0 hc1' hc2 hc3
  obtain ⟨hc0, hc1', hc2, hc3⟩ := pg_cells HK3.out
  obtain ⟨ca, cb, cc, hcc⟩ : ∃ a b c, Q.check pg0 = (a, b, c) := ⟨_, _, _, rfl⟩
  have HC := kp hcc
  clear hcc
  by_cases hz : cc = 0
  case neg =>
    have HZ := kp hz
    have hb0 : ((cc : Int) != 0) = true := by simpa using hz
    clear hz
    go_wp2_with (first
      | (go_at_call 11; go_must (refine (sem_start _ pg0 u3 HP3.out hs3 ca cb cc HC.out).mono ?_); rintro e u4 ⟨q0, rfl, hok, hcf, hl0, h16, hb4⟩
         have HOk0 := kp hok; have HCf0 := kp hcf; have HL0 := kp hl0; have H17 := kp (conf_len h16); have HU4 := kp (HU3.out.trans (hb4.mono hs3)); have HK4 := kp (HK3.out.below hb4 HK3.out.lt); have hs4 := HU4.out.size; have hlk4 := HK4.out.lt
         clear hok hcf hl0 h16 hb4 hc0 hc1' hc2 hc3)
      | ((with_reducible show wpList _ _ _ (⟨some 7, _, _, _, _, _⟩ :: _) _ _); go_must (refine wpList_alloc_zero rfl 31 rfl _ conf_zero ?_); intro gC u5 hgC hk5 hu5; have HKc := kp hk5; have HGC := kp hgC; have HU5 := kp (HU4.out.trans (hu5.mono hs4)); have HM5 := kp hu5; have HK5 := kp (HK4.out.below hu5 hlk4); have hs5 := HU5.out.size; have hs45 := hu5.size; have hlC := hk5.lt; clear hk5 hu5 hgC)
      | ((with_reducible show wpList _ _ _ (⟨none, _, _, _, _, _⟩ :: _) _ _); (refine wpList_store_blk rfl 31 (.tmp 7) (.tmp 34) rfl gC (pcC q0) rfl rfl _ _ HKc.out (by rw [H17.out]; exact conf_size) (by rw [H17.out]; rfl) (conf_ones q0) ?_); intro u6 hk6 hg6 hs6'
         have HK26 := kp hk6; have HU6 := kp (HU5.out.grown hg6 hs5 (fun k e => by cases e; have := HGC.out; omega)); have HM6 := kp (HM5.out.grown hg6 hs45 (fun k e => by cases e; have := HGC.out; omega)); have hs6 := HU6.out.size; have hs46 := HM6.out.size
         have HK16 := kp (HK5.out.grown hg6 (fun e => by cases e; have := HGC.out; omega)); have HO6 := kp ((HOk0.out.below HM6.out).more hs46)
         have HGw : Kept (w.heap.size ≤ g1 ∧ w.heap.size ≤ gC ∧ g1 ≠ gC) := kp ⟨by have := HG1.out; omega, by have := HGC.out; omega, by have := HGC.out; omega⟩
         have hcL : u6.cell? ⟨gC, 0, none⟩ = some (.slice q0.A 0 q0.cap) := by have h := conf_cell HK26.out; rwa [HL0.out HZ.out] at h
         clear hk6 hg6 hs6')
      | ((with_reducible show wpList _ _ _ (⟨some 37, _, _, _, _, _⟩ :: _) _ _); go_must (refine wpList_load_blk rfl 24 (.tmp 3) rfl g1 rfl _ (pgC pg0) _ HK16.out Try.underlying24 rfl pg_size ?_))
      | (go_at_call 12; go_must (refine (ref_check _ pg0 u6 (HP.out.below HU6.out) hs6 ca cb cc HC.out).mono ?_); rintro e u7 ⟨rfl, hb7⟩
         have HU7 := kp (HU6.out.trans (hb7.mono hs6)); have hs7 := HU7.out.size; have hs67 := hb7.size
         have hcL7 : u7.cell? ⟨gC, 0, none⟩ = some (.slice q0.A 0 q0.cap) := by rw [hb7.cell (p := ⟨gC, 0, none⟩) HK26.out.lt]; exact hcL
         clear hb7 hcL))
    go_ret
    exact ⟨rfl, HU7.out⟩
  have HZ := kp hz
  have HZ0 : Kept ((cc : Int) = 0) := kp (by omega)
  have hb0 : ((cc : Int) != 0) = false := by rw [HZ0.out]; rfl
  clear hz
  go_wp2_with (first
    | (go_at_call 11; go_must (refine (sem_start _ pg0 u3 HP3.out hs3 ca cb cc HC.out).mono ?_); rintro e u4 ⟨q0, rfl, hok, hcf, hl0, h16, hb4⟩
       have HOk0 := kp hok; have HCf0 := kp hcf; have HL0 := kp hl0; have H17 := kp (conf_len h16); have HU4 := kp (HU3.out.trans (hb4.mono hs3)); have HK4 := kp (HK3.out.below hb4 HK3.out.lt); have hs4 := HU4.out.size; have hlk4 := HK4.out.lt
       clear hok hcf hl0 h16 hb4 hc0 hc1' hc2 hc3)
    | ((with_reducible show wpList _ _ _ (⟨some 7, _, _, _, _, _⟩ :: _) _ _); go_must (refine wpList_alloc_zero rfl 31 rfl _ conf_zero ?_); intro gC u5 hgC hk5 hu5; have HKc := kp hk5; have HGC := kp hgC; have HU5 := kp (HU4.out.trans (hu5.mono hs4)); have HM5 := kp hu5; have HK5 := kp (HK4.out.below hu5 hlk4); have hs5 := HU5.out.size; have hs45 := hu5.size; have hlC := hk5.lt; clear hk5 hu5 hgC)
    | ((with_reducible show wpList _ _ _ (⟨none, _, _, _, _, _⟩ :: _) _ _); (refine wpList_store_blk rfl 31 (.tmp 7) (.tmp 34) rfl gC (pcC q0) rfl rfl _ _ HKc.out (by rw [H17.out]; exact conf_size) (by rw [H17.out]; rfl) (conf_ones q0) ?_); intro u6 hk6 hg6 hs6'
       have HK26 := kp hk6; have HU6 := kp (HU5.out.grown hg6 hs5 (fun k e => by cases e; have := HGC.out; omega)); have HM6 := kp (HM5.out.grown hg6 hs45 (fun k e => by cases e; have := HGC.out; omega)); have hs6 := HU6.out.size; have hs46 := HM6.out.size
       have HK16 := kp (HK5.out.grown hg6 (fun e => by cases e; have := HGC.out; omega)); have HO6 := kp ((HOk0.out.below HM6.out).more hs46)
       have HGw : Kept (w.heap.size ≤ g1 ∧ w.heap.size ≤ gC ∧ g1 ≠ gC) := kp ⟨by have := HG1.out; omega, by have := HGC.out; omega, by have := HGC.out; omega⟩
       clear hk6 hg6 hs6')
    | ((with_reducible show wpList _ _ _ (⟨some 37, _, _, _, _, _⟩ :: _) _ _); go_must (refine wpList_load_blk rfl 24 (.tmp 3) rfl g1 rfl _ (pgC pg0) _ HK16.out Try.underlying24 rfl pg_size ?_))
    | (go_at_call 12; go_must (refine (ref_check _ pg0 u6 (HP.out.below HU6.out) hs6 ca cb cc HC.out).mono ?_); rintro e u7 ⟨rfl, hb7⟩
       have HU7 := kp (HU6.out.trans (hb7.mono hs6)); have hs7 := HU7.out.size; have hs67 := hb7.size
       have HM7 := kp (HM6.out.trans (hb7.mono hs46)); have hs47 := HM7.out.size
       have HK27 := kp (HK26.out.below hb7 HK26.out.lt); have HK17 := kp (HK16.out.below hb7 HK16.out.lt); have hlC7 := HK27.out.lt; have hlP7 := HK17.out.lt
       clear hb7)
    | (go_at_call 13; go_must (refine (rs_start u7).mono ?_); unfold StepR; rintro e u8 ⟨r0, rfl, hmr, hcfr, hb8⟩
       have HR8 := kp hmr; have HCfr := kp hcfr; have HU8 := kp (HU7.out.trans (hb8.mono hs7)); have hs8 := HU8.out.size; have hs78 := hb8.size
       have HM8 := kp (HM7.out.trans (hb8.mono hs47)); have hs48 := HM8.out.size
       have HK28 := kp (HK27.out.below hb8 hlC7); have HK18 := kp (HK17.out.below hb8 hlP7)
       have HR18 : Kept ((rcC r0).length = 18) := kp (rc_len (by have h : r0.ow = List.replicate 16 0 := congrArg M.Cf.owners hcfr; rw [h]; rfl))
       clear hmr hcfr hb8)
    | ((with_reducible show wpList _ _ _ (⟨some 12, _, _, _, _, _⟩ :: _) _ _); go_must (refine wpList_alloc_zero rfl 40 rfl _ ref_zero ?_); intro gX u9 hgX hk9 hu9; have HKx := kp hk9; have HGX := kp hgX; have HU9 := kp (HU8.out.trans (hu9.mono hs8)); have HM9 := kp (HM8.out.trans (hu9.mono hs48)); have HB89 := kp hu9; have HK29 := kp (HK28.out.below hu9 HK28.out.lt); have HK19 := kp (HK18.out.below hu9 HK18.out.lt); have hs9 := HU9.out.size; have hs49 := HM9.out.size; have hs89 := hu9.size; clear hk9 hu9 hgX)
    | ((with_reducible show wpList _ _ _ (⟨none, _, _, _, _, _⟩ :: _) _ _); (refine wpList_store_blk rfl 40 (.tmp 12) (.tmp 53) rfl gX (rcC r0) rfl rfl _ _ HKx.out (by rw [HR18.out]; exact ref_size18) (by rw [HR18.out]; rfl) (rc_ones _) ?_); intro u10 hk10 hg10 hs10'
       have HKX := kp hk10; have HU10 := kp (HU9.out.grown hg10 hs9 (fun k e => by cases e; have := HGX.out; omega)); have HM10 := kp (HM9.out.grown hg10 hs49 (fun k e => by cases e; have := HGX.out; omega)); have hs10 := HU10.out.size; have hs410 := HM10.out.size
       have HGw2 : Kept (w.heap.size ≤ gX ∧ g1 ≠ gX ∧ gC ≠ gX ∧ u4.heap.size ≤ gC ∧ u4.heap.size ≤ gX ∧ gC < u10.heap.size ∧ gX < u10.heap.size ∧ gC < u7.heap.size ∧ u7.heap.size ≤ u10.heap.size) := kp (by have h1 := HGX.out; have h2 := HGC.out; have h3 := hk10.lt; have h4 := hg10.size; refine ⟨by omega, by omega, by omega, by omega, by omega, by omega, h3, hlC7, by omega⟩)
       have HK210 := kp (HK29.out.grown hg10 (fun e => by cases e; exact HGw2.out.2.2.1 rfl)); have HK110 := kp (HK19.out.grown hg10 (fun e => by cases e; exact HGw2.out.2.1 rfl))
       have HR10 := kp (HR8.out.far (grown_trans (grown_of_below HB89.out _) hg10) (.inr HGX.out))
       clear hk10 hg10 hs10'))
  have HF : Kept (Fine pg0) := kp (fine_of (by rw [HC.out, HZ.out]))
  have HGd : Kept (∀ i, M.Good pg0 (runTo pg0 z1 i)) := kp (runTo_good HF.out HP.out.row.len z1)
  go_loopw [13] (fun v wr => ∃ (i : Nat) (q : Pc) (r : Rc), i ≤ len1 + 1 ∧ v = .int .i64 i ∧ Kin wr u4.heap.size u10.heap.size q ∧ q.cf = runTo pg0 z1 i ∧ RMine wr u7.heap.size r ∧ r.cf = q.cf ∧ Blk wr gC 31 (pcC q) ∧ Blk wr g1 24 (pgC pg0) ∧ Blk wr gX 40 (rcC r) ∧ Below w.heap.size w wr ∧ Below u4.heap.size u4 wr ∧ u10.heap.size ≤ wr.heap.size) (fun v _ => len1 + 1 - (intOf v).toNat)
  case atStart => exact ⟨0, q0, r0, by omega, rfl, .inl (HOk0.out.below HM10.out), by rw [runTo_zero]; exact HCf0.out HZ.out, HR10.out, by rw [HCfr.out]; exact (HCf0.out HZ.out).symm, HK210.out, HK110.out, HKX.out, HU10.out, HM10.out, Nat.le_refl _⟩
  case round =>
    obtain ⟨wA, rfl⟩ : ∃ x, x = wr := ⟨_, rfl⟩
    obtain ⟨i, q, r, hi, rfl, hkin, hcf, hmr, hcr, hkc, hkp, hkx, hbl, hbu, hbz⟩ := hrel
    have HKin := kp hkin; have HCf := kp hcf; have HMr := kp hmr; have HCr := kp hcr; have HKC := kp hkc; have HKP := kp hkp; have HKX := kp hkx; have HB := kp hbl; have HBu := kp hbu
    have hBs := hbl.size; have hBu := hbu.size; have hlC := hkc.lt; have hlP := hkp.lt; have hlX := hkx.lt
    have HOq := kp (hkin.ok hBu); have HOr := kp hmr.ok
    have HPr := kp (pg_more9 (HP.out.below hbl) hBs)
    have HGq := kp (show M.Good pg0 q.cf by rw [hcf]; exact HGd.out i)
    have HGr := kp (show M.Good pg0 r.cf by rw [hcr]; exact HGq.out)
    have H17 := kp (good_17 (p := pg0) (q := q) HGq.out)
    have HX18 : Kept ((rcC r).length = 18) := kp (rc_len HGr.out.owns)
    clear hkin hcf hmr hcr hkc hkp hkx hbl hbu
    by_cases hlt : i ≤ len1
    · have HStq := kp (low_stacks HF.out HP.out.row.len HGq.out HOq.out)
      have HSl8 := kp (rc_sl8 HGr.out HOr.out)
      have h8q := most_8 HGq.out HOq.out
      have h8r : r.len ≤ 8 := by have h1 := HOr.out.len; have h2 := HGr.out.most; omega
      obtain ⟨lv, hlv⟩ : ∃ lv, M.lives q.cf a2 = lv := ⟨_, rfl⟩
      obtain ⟨en, hen⟩ : ∃ en, M.enabled pg0 q.cf a2 = en := ⟨_, rfl⟩
      obtain ⟨y, hy⟩ : ∃ y, atNd pg0 q.cf a2 = y := ⟨_, rfl⟩
      obtain ⟨hh, hhe⟩ : ∃ hh, M.held q.cf a2 = hh := ⟨_, rfl⟩
      have HLv := kp hlv; have HEn := kp hen; have HY := kp hy; have HHh := kp hhe
      have HLvr := kp (show M.lives r.cf a2 = lv by rw [HCr.out]; exact hlv); have HEnr := kp (show M.enabled pg0 r.cf a2 = en by rw [HCr.out]; exact hen)
      clear hlv hen hy hhe
      go_wp2
      apply region_list (.is _ :: .is (.bool false) :: .is (.bool false) :: .is (pcA q) :: (.plain wA.heap.size q.cf) :: .is (rcA r) :: .is (.bool true) :: .is (.bool false) :: .is (.bool false) :: .is (.bool false) :: .is (pcA q) :: .is _ :: .is (.bool lv) :: .is (rcA r) :: .is _ :: .is (.bool lv) :: .is (.bool false) :: .is (.bool false) :: .is (.bool false) :: .is (pcA q) :: .is (pgA pg0) :: .is _ :: .is (.bool en) :: .is (rcA r) :: .is (pgA pg0) :: .is _ :: .is (.bool en) :: .is (.bool false) :: .is (.bool false) :: [])
        [[], [(0, 60)], [(1, 61)], [(2, 62)], [(3, 63), (2, 62)], [(2, 62)], [(4, 64), (5, 65), (2, 62)], [(6, 66), (2, 62)], [(2, 62), (7, 67)], [(8, 68)], [(9, 69)], [(9, 69)], [(10, 70), (11, 71), (9, 69)], [(9, 69)], [(9, 69)], [(13, 73), (14, 74), (9, 69)], [(12, 72), (15, 75), (9, 69)], [(9, 69), (16, 76)], [(17, 77)], [(18, 78)], [(18, 78)], [(18, 78)], [(19, 79), (20, 80), (21, 81), (18, 78)], [(18, 78)], [(18, 78)], [(18, 78)], [(23, 83), (24, 84), (25, 85), (18, 78)], [(22, 82), (26, 86), (18, 78)], [(18, 78), (27, 87)]]
        [(0, 60), (1, 61), (2, 62), (3, 63), (4, 64), (5, 65), (6, 66), (7, 67), (8, 68), (9, 69), (10, 70), (11, 71), (12, 72), (13, 73), (14, 74), (15, 75), (16, 76), (17, 77), (18, 78), (19, 79), (20, 80), (21, 81), (22, 82), (23, 83), (24, 84), (25, 85), (26, 86), (27, 87), (28, 88)] (by kernel_rfl) (by kernel_rfl)
      case hob =>
        refine ⟨?o0, ?o1, ?o2, ?o3, ?o4, ?o5, ?o6, ?o7, ?o8, ?o9, ?o10, ?o11, ?o12, ?o13, ?o14, ?o15, ?o16, ?o17, ?o18, ?o19, ?o20, ?o21, ?o22, ?o23, ?o24, ?o25, ?o26, ?o27, ?o28, trivial⟩
        case o0 => intro W hW; change wpList _ _ _ _ _ _; go_wp2; exact pure_post rfl rfl rfl
        case o1 => intro W hW; rintro _ rfl; change wpList _ _ _ _ _ _; go_wp2; exact pure_post rfl rfl rfl
        case o2 => intro W hW; rintro _ rfl; change wpList _ _ _ _ _ _; go_wp2; exact pure_post rfl rfl rfl
        case o3 =>
          intro W hW; rintro _ rfl; change wpList _ _ _ _ _ _
          go_must (refine wpList_load_blk_w rfl 31 (.tmp 7) rfl gC rfl _ (pcC q) _ (HKC.out.below hW hlC) Try.underlying31 rfl (by rw [H17.out]; exact conf_size) ?_)
          go_wp2; exact pure_post rfl rfl rfl
        case o4 =>
          intro W hW; rintro _ rfl; rintro _ rfl; change wpList _ _ _ _ _ _
          have hsW := hW.size
          go_wp2_with fail
          refine (law_plain q W ((HOq.out.below hW).more hsW) h8q HGq.out.owns HStq.out (good_8s HGq.out)).mono ?_
          rintro e w2 ⟨q', rfl, hm2, hcf2, _, _, hsl2, hb2⟩
          have HB2 := kp hb2; have HM2 := kp (hm2.lower hsW); have HC2 := kp hcf2; have HS2 := kp hsl2; clear hb2 hm2 hcf2 hsl2
          go_wp2
          exact made_post rfl rfl rfl HB2.out ⟨q', rfl, HM2.out, HC2.out, HS2.out⟩
        case o5 =>
          intro W hW; rintro _ rfl; change wpList _ _ _ _ _ _
          go_must (refine wpList_load_blk_w rfl 40 (.tmp 12) rfl gX rfl _ (rcC r) _ (HKX.out.below hW hlX) Try.underlying40 rfl (by rw [HX18.out]; exact ref_size18) ?_)
          go_wp2; exact pure_post rfl rfl rfl
        case o6 =>
          intro W hW; rintro _ ⟨p1, rfl, hm1, hcp1, hsp1⟩; rintro _ rfl; rintro _ rfl; change wpList _ _ _ _ _ _
          have hsW := hW.size
          go_wp2_with fail
          refine (rs_same W.heap.size p1 r W hm1.ok ((HOr.out.below hW).more hsW) (Nat.le_refl _) hsp1 HSl8.out (rc_own hcp1 HGq.out.owns) HGr.out.owns true ⟨fun _ => by rw [hcp1, HCr.out], fun _ => rfl⟩).mono ?_
          rintro e w2 ⟨rfl, hb2⟩
          have HB2 := kp hb2; clear hb2
          go_wp2
          exact made_post rfl rfl rfl HB2.out rfl
        case o7 => intro W hW; rintro _ rfl; rintro _ rfl; change wpList _ _ _ _ _ _; go_wp2; exact pure_post rfl rfl rfl
        case o8 => intro W hW; rintro _ rfl; rintro _ rfl; change wpList _ _ _ _ _ _; go_wp2; exact pure_post rfl rfl rfl
        case o9 => intro W hW; rintro _ rfl; change wpList _ _ _ _ _ _; go_wp2; exact pure_post rfl rfl rfl
        case o10 =>
          intro W hW; rintro _ rfl; change wpList _ _ _ _ _ _
          go_must (refine wpList_load_blk_w rfl 31 (.tmp 7) rfl gC rfl _ (pcC q) _ (HKC.out.below hW hlC) Try.underlying31 rfl (by rw [H17.out]; exact conf_size) ?_)
          go_wp2; exact pure_post rfl rfl rfl
        case o11 => intro W hW; rintro _ rfl; change wpList _ _ _ _ _ _; go_wp2; exact pure_post rfl rfl rfl
        case o12 =>
          intro W hW; rintro _ rfl; rintro _ rfl; rintro _ rfl; change wpList _ _ _ _ _ _
          have hsW := hW.size
          go_wp2_with fail
          refine (sem_lives W.heap.size q W ((HOq.out.below hW).more hsW) (Nat.le_refl _) (by omega) a2 HI2.out lv HLv.out).mono ?_
          rintro e w2 ⟨rfl, hb2⟩
          have HB2 := kp hb2; clear hb2
          go_wp2
          exact made_post rfl rfl rfl HB2.out rfl
        case o13 =>
          intro W hW; rintro _ rfl; change wpList _ _ _ _ _ _
          go_must (refine wpList_load_blk_w rfl 40 (.tmp 12) rfl gX rfl _ (rcC r) _ (HKX.out.below hW hlX) Try.underlying40 rfl (by rw [HX18.out]; exact ref_size18) ?_)
          go_wp2; exact pure_post rfl rfl rfl
        case o14 => intro W hW; rintro _ rfl; change wpList _ _ _ _ _ _; go_wp2; exact pure_post rfl rfl rfl
        case o15 =>
          intro W hW; rintro _ rfl; rintro _ rfl; rintro _ rfl; change wpList _ _ _ _ _ _
          have hsW := hW.size
          go_wp2_with fail
          refine (rs_lives W.heap.size r W ((HOr.out.below hW).more hsW) (Nat.le_refl _) (by omega) a2 HI2.out lv HLvr.out).mono ?_
          rintro e w2 ⟨rfl, hb2⟩
          have HB2 := kp hb2; clear hb2
          go_wp2
          exact made_post rfl rfl rfl HB2.out rfl
        case o16 =>
          intro W hW; rintro _ rfl; rintro _ rfl; rintro _ rfl; change wpList _ _ _ _ _ _
          cases lv <;> (go_wp2; exact pure_post rfl rfl rfl)
        case o17 => intro W hW; rintro _ rfl; rintro _ rfl; change wpList _ _ _ _ _ _; go_wp2; exact pure_post rfl rfl rfl
        case o18 => intro W hW; rintro _ rfl; change wpList _ _ _ _ _ _; go_wp2; exact pure_post rfl rfl rfl
        case o19 =>
          intro W hW; rintro _ rfl; change wpList _ _ _ _ _ _
          go_must (refine wpList_load_blk_w rfl 31 (.tmp 7) rfl gC rfl _ (pcC q) _ (HKC.out.below hW hlC) Try.underlying31 rfl (by rw [H17.out]; exact conf_size) ?_)
          go_wp2; exact pure_post rfl rfl rfl
        case o20 =>
          intro W hW; rintro _ rfl; change wpList _ _ _ _ _ _
          go_must (refine wpList_load_blk_w rfl 24 (.tmp 3) rfl g1 rfl _ (pgC pg0) _ (HKP.out.below hW hlP) Try.underlying24 rfl pg_size ?_)
          go_wp2; exact pure_post rfl rfl rfl
        case o21 => intro W hW; rintro _ rfl; change wpList _ _ _ _ _ _; go_wp2; exact pure_post rfl rfl rfl
        case o22 =>
          intro W hW; rintro _ rfl; rintro _ rfl; rintro _ rfl; rintro _ rfl; change wpList _ _ _ _ _ _
          have hsW := hW.size
          go_wp2_with fail
          refine (sem_enabled W.heap.size pg0 HF.out q W (pg_more9 (HPr.out.below hW) hsW) ((HOq.out.below hW).more hsW) HGq.out (Nat.le_refl _) a2 HI2.out en HEn.out).mono ?_
          rintro e w2 ⟨rfl, hb2⟩
          have HB2 := kp hb2; clear hb2
          go_wp2
          exact made_post rfl rfl rfl HB2.out rfl
        case o23 =>
          intro W hW; rintro _ rfl; change wpList _ _ _ _ _ _
          go_must (refine wpList_load_blk_w rfl 40 (.tmp 12) rfl gX rfl _ (rcC r) _ (HKX.out.below hW hlX) Try.underlying40 rfl (by rw [HX18.out]; exact ref_size18) ?_)
          go_wp2; exact pure_post rfl rfl rfl
        case o24 =>
          intro W hW; rintro _ rfl; change wpList _ _ _ _ _ _
          go_must (refine wpList_load_blk_w rfl 24 (.tmp 3) rfl g1 rfl _ (pgC pg0) _ (HKP.out.below hW hlP) Try.underlying24 rfl pg_size ?_)
          go_wp2; exact pure_post rfl rfl rfl
        case o25 => intro W hW; rintro _ rfl; change wpList _ _ _ _ _ _; go_wp2; exact pure_post rfl rfl rfl
        case o26 =>
          intro W hW; rintro _ rfl; rintro _ rfl; rintro _ rfl; rintro _ rfl; change wpList _ _ _ _ _ _
          have hsW := hW.size
          go_wp2_with fail
          refine (rs_enabled W.heap.size pg0 HF.out r W (pg_more9 (HPr.out.below hW) hsW) ((HOr.out.below hW).more hsW) HGr.out (Nat.le_refl _) a2 HI2.out en HEnr.out).mono ?_
          rintro e w2 ⟨rfl, hb2⟩
          have HB2 := kp hb2; clear hb2
          go_wp2
          exact made_post rfl rfl rfl HB2.out rfl
        case o27 =>
          intro W hW; rintro _ rfl; rintro _ rfl; rintro _ rfl; change wpList _ _ _ _ _ _
          cases en <;> (go_wp2; exact pure_post rfl rfl rfl)
        case o28 => intro W hW; rintro _ rfl; rintro _ rfl; change wpList _ _ _ _ _ _; go_wp2; exact pure_post rfl rfl rfl
      case hend =>
        intro W hW; rintro _ rfl; rintro _ rfl; rintro _ rfl; rintro _ rfl; rintro _ ⟨p1, rfl, hm1, hcp1, hsp1⟩; rintro _ rfl; rintro _ rfl; rintro _ rfl; rintro _ rfl; rintro _ rfl; rintro _ rfl; rintro _ rfl; rintro _ rfl; rintro _ rfl; rintro _ rfl; rintro _ rfl; rintro _ rfl; rintro _ rfl; rintro _ rfl; rintro _ rfl; rintro _ rfl; rintro _ rfl; rintro _ rfl; rintro _ rfl; rintro _ rfl; rintro _ rfl; rintro _ rfl; rintro _ rfl; rintro _ rfl
        simp only [given, put_lit, List.set]
        obtain ⟨w11, rfl⟩ : ∃ x, x = W := ⟨_, rfl⟩
        have HB11 := kp hW; have hs11 := hW.size
        have HKC11 := kp (HKC.out.below hW hlC); have HKP11 := kp (HKP.out.below hW hlP); have hlC11 := HKC11.out.lt; have hlP11 := HKP11.out.lt
        have HOq11 := kp ((HOq.out.below hW).more hs11); have HPr11 := kp (pg_more9 (HPr.out.below hW) hs11)
        clear hW hm1
        go_upto_region 14 with (first
          | ((with_reducible show wpList _ _ _ (⟨some 90, _, _, _, _, _⟩ :: _) _ _); go_must (refine wpList_load_blk rfl 31 (.tmp 7) rfl gC rfl _ (pcC q) _ HKC11.out Try.underlying31 rfl (by rw [H17.out]; exact conf_size) ?_))
          | ((with_reducible show wpList _ _ _ (⟨some 91, _, _, _, _, _⟩ :: _) _ _); go_must (refine wpList_load_blk rfl 24 (.tmp 3) rfl g1 rfl _ (pgC pg0) _ HKP11.out Try.underlying24 rfl pg_size ?_))
          | (go_at_call 20; go_must (refine (sem_at w11.heap.size pg0 HF.out q w11 HPr11.out HOq11.out HGq.out (Nat.le_refl _) a2 HI2.out lv HLv.out y HY.out).mono ?_); rintro e w12 ⟨rfl, hb12⟩; have HB12 := kp (HB11.out.trans (hb12.mono hs11)); have hs12 := HB12.out.size; clear hb12)
          | ((with_reducible show wpList _ _ _ (⟨some 14, _, _, _, _, _⟩ :: _) _ _); go_must (refine wpList_alloc_zero rfl 47 rfl _ node_zero9 ?_); intro gN w13 hgN hk13 hw13; have HKN13 := kp hk13; have HGN := kp hgN; have HB13 := kp (HB12.out.trans (hw13.mono hs12)); have hs13 := HB13.out.size; clear hk13 hw13 hgN)
          | ((with_reducible show wpList _ _ _ (⟨none, _, _, _, _, _⟩ :: _) _ _); (refine wpList_store_blk rfl 47 (.tmp 14) (.tmp 94) rfl gN (ndC y) rfl rfl _ _ HKN13.out nd_size rfl (nd_ones9 y) ?_); intro w14 hk14 hg14 hs14'
             have HKN := kp hk14; have hlN := hk14.lt; have HB14 := kp (HB13.out.grown hg14 hs13 (fun k e => by cases e; have := HGN.out; omega)); have hs14 := HB14.out.size; clear hk14 hg14 hs14'))
        have HKC14 := kp (HKC.out.below HB14.out hlC); have HKP14 := kp (HKP.out.below HB14.out hlP); have HKX14 := kp (HKX.out.below HB14.out hlX)
        have hlC14 := HKC14.out.lt; have hlP14 := HKP14.out.lt; have hlX14 := HKX14.out.lt
        have HOr14 := kp ((HOr.out.below HB14.out).more hs14); have HPr14 := kp (pg_more9 (HPr.out.below HB14.out) hs14)
        clear HKN13 HB12 HB13 HB11 HKC11 HKP11 HOq11 HPr11
        go_cut [120] from 54 to 167 (fun v120 wx => v120 = .bool false ∧ Below w14.heap.size w14 wx)
        case first =>
          cases lv
          · have HKN0 : Kept (Blk w14 gN 47 (ndC ⟨0, 0, 0, 0⟩)) := kp (by have h := HKN.out; rw [← HY.out, at_dead HLv.out] at h; exact h)
            apply region_list (.is (.bool false) :: .is (rcA r) :: .is _ :: .is (.bool false) :: .is (.bool false) :: .is (.bool false) :: .is (.bool false) :: .is (.bool false) :: .is _ :: .is _ :: .is _ :: .is _ :: .is _ :: .is _ :: .is (.bool false) :: .is (.bool false) :: .is (.bool false) :: .is (.bool false) :: .is (.bool true) :: .is (.bool true) :: .is (.agg #[.int .i64 0, .int .i64 0, .int .i64 0, .int .i64 0]) :: .is (.agg #[.int .i64 0, .int .i64 0, .int .i64 0, .int .i64 0]) :: .is (.bool false) :: .is (.bool false) :: .is (.bool false) :: [])
              [[], [], [], [(1, 97), (2, 98)], [(0, 96), (3, 99)], [(4, 100)], [(5, 101)], [(6, 102), (5, 101)], [(7, 103)], [(7, 103)], [(7, 103)], [(7, 103)], [(9, 105), (10, 106), (11, 107), (7, 103)], [(8, 104), (12, 108), (7, 103)], [(7, 103), (13, 109), (5, 101)], [(5, 101), (14, 110)], [(15, 111)], [(16, 112)], [(17, 113), (16, 112)], [(18, 114), (16, 112)], [(19, 115)], [(19, 115)], [(20, 116), (21, 117), (19, 115)], [(19, 115), (22, 118), (16, 112)], [(16, 112), (23, 119)]]
              [(0, 96), (1, 97), (2, 98), (3, 99), (4, 100), (5, 101), (6, 102), (7, 103), (8, 104), (9, 105), (10, 106), (11, 107), (12, 108), (13, 109), (14, 110), (15, 111), (16, 112), (17, 113), (18, 114), (19, 115), (20, 116), (21, 117), (22, 118), (23, 119), (24, 120)] (by kernel_rfl) (by kernel_rfl)
            case hob =>
              refine ⟨?o0, ?o1, ?o2, ?o3, ?o4, ?o5, ?o6, ?o7, ?o8, ?o9, ?o10, ?o11, ?o12, ?o13, ?o14, ?o15, ?o16, ?o17, ?o18, ?o19, ?o20, ?o21, ?o22, ?o23, ?o24, trivial⟩
              case o0 => intro W hW; change wpList _ _ _ _ _ _; go_wp2; exact pure_post rfl rfl rfl
              case o1 =>
                intro W hW; change wpList _ _ _ _ _ _
                go_must (refine wpList_load_blk_w rfl 40 (.tmp 12) rfl gX rfl _ (rcC r) _ (HKX14.out.below hW hlX14) Try.underlying40 rfl (by rw [HX18.out]; exact ref_size18) ?_)
                go_wp2; exact pure_post rfl rfl rfl
              case o2 => intro W hW; change wpList _ _ _ _ _ _; go_wp2; exact pure_post rfl rfl rfl
              case o3 =>
                intro W hW; rintro _ rfl; rintro _ rfl; change wpList _ _ _ _ _ _
                have hsW := hW.size
                go_wp2_with fail
                refine (rs_lives W.heap.size r W ((HOr14.out.below hW).more hsW) (Nat.le_refl _) (by omega) a2 HI2.out false HLvr.out).mono ?_
                rintro e w2 ⟨rfl, hb2⟩
                have HB2 := kp hb2; clear hb2
                go_wp2
                exact made_post rfl rfl rfl HB2.out rfl
              case o4 => intro W hW; rintro _ rfl; rintro _ rfl; change wpList _ _ _ _ _ _; go_wp2; exact pure_post rfl rfl rfl
              case o5 => intro W hW; rintro _ rfl; change wpList _ _ _ _ _ _; go_wp2; exact pure_post rfl rfl rfl
              case o6 => intro W hW; rintro _ rfl; change wpList _ _ _ _ _ _; go_wp2; exact pure_post rfl rfl rfl
              case o7 => intro W hW; rintro _ rfl; rintro _ rfl; change wpList _ _ _ _ _ _; go_wp2; exact pure_post rfl rfl rfl
              case o8 => intro W hW; rintro _ rfl; change wpList _ _ _ _ _ _; go_wp2; exact pure_post rfl rfl rfl
              case o9 => intro W hW; rintro _ rfl; change wpList _ _ _ _ _ _; go_wp2; exact pure_post rfl rfl rfl
              case o10 => intro W hW; rintro _ rfl; change wpList _ _ _ _ _ _; go_wp2; exact pure_post rfl rfl rfl
              case o11 => intro W hW; rintro _ rfl; change wpList _ _ _ _ _ _; go_wp2; exact pure_post rfl rfl rfl
              case o12 =>
                intro W hW; rintro _ rfl; rintro _ rfl; rintro _ rfl; rintro _ rfl; change wpList _ _ _ _ _ _
                go_wp2; exact pure_post rfl rfl rfl
              case o13 => intro W hW; rintro _ rfl; rintro _ rfl; rintro _ rfl; change wpList _ _ _ _ _ _; go_wp2; exact pure_post rfl rfl rfl
              case o14 => intro W hW; rintro _ rfl; rintro _ rfl; rintro _ rfl; change wpList _ _ _ _ _ _; go_wp2; exact pure_post rfl rfl rfl
              case o15 => intro W hW; rintro _ rfl; rintro _ rfl; change wpList _ _ _ _ _ _; go_wp2; exact pure_post rfl rfl rfl
              case o16 => intro W hW; rintro _ rfl; change wpList _ _ _ _ _ _; go_wp2; exact pure_post rfl rfl rfl
              case o17 => intro W hW; rintro _ rfl; change wpList _ _ _ _ _ _; go_wp2; exact pure_post rfl rfl rfl
              case o18 => intro W hW; rintro _ rfl; rintro _ rfl; change wpList _ _ _ _ _ _; go_wp2; exact pure_post rfl rfl rfl
              case o19 => intro W hW; rintro _ rfl; rintro _ rfl; change wpList _ _ _ _ _ _; go_wp2; exact pure_post rfl rfl rfl
              case o20 =>
                intro W hW; rintro _ rfl; change wpList _ _ _ _ _ _
                go_must (refine wpList_load_blk_w rfl 47 (.tmp 14) rfl gN rfl _ (ndC ⟨0, 0, 0, 0⟩) _ (HKN0.out.below hW hlN) Try.underlying47 rfl nd_size ?_)
                go_wp2; exact pure_post rfl rfl rfl
              case o21 => intro W hW; rintro _ rfl; change wpList _ _ _ _ _ _; go_wp2; exact pure_post rfl rfl rfl
              case o22 => intro W hW; rintro _ rfl; rintro _ rfl; rintro _ rfl; change wpList _ _ _ _ _ _; go_wp2; exact pure_post rfl rfl rfl
              case o23 => intro W hW; rintro _ rfl; rintro _ rfl; rintro _ rfl; change wpList _ _ _ _ _ _; go_wp2; exact pure_post rfl rfl rfl
              case o24 => intro W hW; rintro _ rfl; rintro _ rfl; change wpList _ _ _ _ _ _; go_wp2; exact pure_post rfl rfl rfl
            case hend =>
              intro W hW; rintro _ rfl; rintro _ rfl; rintro _ rfl; rintro _ rfl; rintro _ rfl; rintro _ rfl; rintro _ rfl; rintro _ rfl; rintro _ rfl; rintro _ rfl; rintro _ rfl; rintro _ rfl; rintro _ rfl; rintro _ rfl; rintro _ rfl; rintro _ rfl; rintro _ rfl; rintro _ rfl; rintro _ rfl; rintro _ rfl; rintro _ rfl; rintro _ rfl; rintro _ rfl; rintro _ rfl; rintro _ rfl
              simp only [given, put_lit, List.set]
              have HWk := kp hW
              clear hW
              go_wp2
              go_meet
              exact ⟨rfl, HWk.out⟩
          · have h0 : 0 ≤ a2 := by have h := HLv.out; unfold M.lives at h; rw [Bool.and_eq_true, decide_eq_true_eq] at h; exact h.1
            obtain ⟨kk, hkk⟩ : ∃ kk : Nat, a2 = (kk : Int) := ⟨a2.toNat, by omega⟩
            subst hkk
            have HAt := kp (show M.node pg0 r.cf kk = y ∧ M.livesN r.cf kk = true by have h := at_live (p := pg0) HLv.out; rw [HCr.out, ← HY.out]; exact ⟨h.1.symm, h.2⟩)
            clear h0
            apply region_list (.is (.bool true) :: .is (rcA r) :: .is _ :: .is (.bool true) :: .is (.bool false) :: .is (.bool false) :: .is (.bool true) :: .is (.bool true) :: .is (.agg #[.int .i64 y.kind, .int .i64 y.arg, .int .i64 y.next, .int .i64 y.alt]) :: .is (rcA r) :: .is (pgA pg0) :: .is _ :: .is (.agg #[.int .i64 y.kind, .int .i64 y.arg, .int .i64 y.next, .int .i64 y.alt]) :: .is (.bool false) :: .is (.bool false) :: .is (.bool false) :: .is (.bool false) :: .is (.bool true) :: .is (.bool false) :: .is (.bool false) :: .is _ :: .is _ :: .is _ :: .is (.bool false) :: .is (.bool false) :: [])
              [[], [], [], [(1, 97), (2, 98)], [(0, 96), (3, 99)], [(4, 100)], [(5, 101)], [(6, 102), (5, 101)], [(7, 103)], [(7, 103)], [(7, 103)], [(7, 103)], [(9, 105), (10, 106), (11, 107), (7, 103)], [(8, 104), (12, 108), (7, 103)], [(7, 103), (13, 109), (5, 101)], [(5, 101), (14, 110)], [(15, 111)], [(16, 112)], [(17, 113), (16, 112)], [(18, 114), (16, 112)], [(19, 115)], [(19, 115)], [(20, 116), (21, 117), (19, 115)], [(19, 115), (22, 118), (16, 112)], [(16, 112), (23, 119)]]
              [(0, 96), (1, 97), (2, 98), (3, 99), (4, 100), (5, 101), (6, 102), (7, 103), (8, 104), (9, 105), (10, 106), (11, 107), (12, 108), (13, 109), (14, 110), (15, 111), (16, 112), (17, 113), (18, 114), (19, 115), (20, 116), (21, 117), (22, 118), (23, 119), (24, 120)] (by kernel_rfl) (by kernel_rfl)
            case hob =>
              refine ⟨?o0, ?o1, ?o2, ?o3, ?o4, ?o5, ?o6, ?o7, ?o8, ?o9, ?o10, ?o11, ?o12, ?o13, ?o14, ?o15, ?o16, ?o17, ?o18, ?o19, ?o20, ?o21, ?o22, ?o23, ?o24, trivial⟩
              case o0 => intro W hW; change wpList _ _ _ _ _ _; go_wp2; exact pure_post rfl rfl rfl
              case o1 =>
                intro W hW; change wpList _ _ _ _ _ _
                go_must (refine wpList_load_blk_w rfl 40 (.tmp 12) rfl gX rfl _ (rcC r) _ (HKX14.out.below hW hlX14) Try.underlying40 rfl (by rw [HX18.out]; exact ref_size18) ?_)
                go_wp2; exact pure_post rfl rfl rfl
              case o2 => intro W hW; change wpList _ _ _ _ _ _; go_wp2; exact pure_post rfl rfl rfl
              case o3 =>
                intro W hW; rintro _ rfl; rintro _ rfl; change wpList _ _ _ _ _ _
                have hsW := hW.size
                go_wp2_with fail
                refine (rs_lives W.heap.size r W ((HOr14.out.below hW).more hsW) (Nat.le_refl _) (by omega) (kk : Int) HI2.out true HLvr.out).mono ?_
                rintro e w2 ⟨rfl, hb2⟩
                have HB2 := kp hb2; clear hb2
                go_wp2
                exact made_post rfl rfl rfl HB2.out rfl
              case o4 => intro W hW; rintro _ rfl; rintro _ rfl; change wpList _ _ _ _ _ _; go_wp2; exact pure_post rfl rfl rfl
              case o5 => intro W hW; rintro _ rfl; change wpList _ _ _ _ _ _; go_wp2; exact pure_post rfl rfl rfl
              case o6 => intro W hW; rintro _ rfl; change wpList _ _ _ _ _ _; go_wp2; exact pure_post rfl rfl rfl
              case o7 => intro W hW; rintro _ rfl; rintro _ rfl; change wpList _ _ _ _ _ _; go_wp2; exact pure_post rfl rfl rfl
              case o8 =>
                intro W hW; rintro _ rfl; change wpList _ _ _ _ _ _
                go_must (refine wpList_load_blk_w rfl 47 (.tmp 14) rfl gN rfl _ (ndC y) _ (HKN.out.below hW hlN) Try.underlying47 rfl nd_size ?_)
                go_wp2; exact pure_post rfl rfl rfl
              case o9 =>
                intro W hW; rintro _ rfl; change wpList _ _ _ _ _ _
                go_must (refine wpList_load_blk_w rfl 40 (.tmp 12) rfl gX rfl _ (rcC r) _ (HKX14.out.below hW hlX14) Try.underlying40 rfl (by rw [HX18.out]; exact ref_size18) ?_)
                go_wp2; exact pure_post rfl rfl rfl
              case o10 =>
                intro W hW; rintro _ rfl; change wpList _ _ _ _ _ _
                go_must (refine wpList_load_blk_w rfl 24 (.tmp 3) rfl g1 rfl _ (pgC pg0) _ (HKP14.out.below hW hlP14) Try.underlying24 rfl pg_size ?_)
                go_wp2; exact pure_post rfl rfl rfl
              case o11 => intro W hW; rintro _ rfl; change wpList _ _ _ _ _ _; go_wp2; exact pure_post rfl rfl rfl
              case o12 =>
                intro W hW; rintro _ rfl; rintro _ rfl; rintro _ rfl; rintro _ rfl; change wpList _ _ _ _ _ _
                have hsW := hW.size
                go_wp2_with fail
                refine (rs_at W.heap.size pg0 HF.out r W (pg_more9 (HPr14.out.below hW) hsW) ((HOr14.out.below hW).more hsW) HGr.out (Nat.le_refl _) kk HAt.out.2 y HAt.out.1).mono ?_
                rintro e w2 ⟨rfl, hb2⟩
                have HB2 := kp hb2; clear hb2
                go_wp2
                exact made_post rfl rfl rfl HB2.out rfl
              case o13 => intro W hW; rintro _ rfl; rintro _ rfl; rintro _ rfl; change wpList _ _ _ _ _ _; go_wp2; exact pure_post rfl rfl rfl
              case o14 => intro W hW; rintro _ rfl; rintro _ rfl; rintro _ rfl; change wpList _ _ _ _ _ _; go_wp2; exact pure_post rfl rfl rfl
              case o15 => intro W hW; rintro _ rfl; rintro _ rfl; change wpList _ _ _ _ _ _; go_wp2; exact pure_post rfl rfl rfl
              case o16 => intro W hW; rintro _ rfl; change wpList _ _ _ _ _ _; go_wp2; exact pure_post rfl rfl rfl
              case o17 => intro W hW; rintro _ rfl; change wpList _ _ _ _ _ _; go_wp2; exact pure_post rfl rfl rfl
              case o18 => intro W hW; rintro _ rfl; rintro _ rfl; change wpList _ _ _ _ _ _; go_wp2; exact pure_post rfl rfl rfl
              case o19 => intro W hW; rintro _ rfl; rintro _ rfl; change wpList _ _ _ _ _ _; go_wp2; exact pure_post rfl rfl rfl
              case o20 => intro W hW; rintro _ rfl; change wpList _ _ _ _ _ _; go_wp2; exact pure_post rfl rfl rfl
              case o21 => intro W hW; rintro _ rfl; change wpList _ _ _ _ _ _; go_wp2; exact pure_post rfl rfl rfl
              case o22 => intro W hW; rintro _ rfl; rintro _ rfl; rintro _ rfl; change wpList _ _ _ _ _ _; go_wp2; exact pure_post rfl rfl rfl
              case o23 => intro W hW; rintro _ rfl; rintro _ rfl; rintro _ rfl; change wpList _ _ _ _ _ _; go_wp2; exact pure_post rfl rfl rfl
              case o24 => intro W hW; rintro _ rfl; rintro _ rfl; change wpList _ _ _ _ _ _; go_wp2; exact pure_post rfl rfl rfl
            case hend =>
              intro W hW; rintro _ rfl; rintro _ rfl; rintro _ rfl; rintro _ rfl; rintro _ rfl; rintro _ rfl; rintro _ rfl; rintro _ rfl; rintro _ rfl; rintro _ rfl; rintro _ rfl; rintro _ rfl; rintro _ rfl; rintro _ rfl; rintro _ rfl; rintro _ rfl; rintro _ rfl; rintro _ rfl; rintro _ rfl; rintro _ rfl; rintro _ rfl; rintro _ rfl; rintro _ rfl; rintro _ rfl; rintro _ rfl
              simp only [given, put_lit, List.set]
              have HWk := kp hW
              clear hW
              go_wp2
              go_meet
              exact ⟨rfl, HWk.out⟩
        case rest =>
          obtain ⟨rfl, hW⟩ := hcut
          obtain ⟨w15, rfl⟩ : ∃ x, x = wc := ⟨_, rfl⟩
          have HB15 := kp (HB14.out.trans (hW.mono hs14)); have hs15 := HB15.out.size
          have HKC15 := kp (HKC.out.below HB15.out hlC); have HKP15 := kp (HKP.out.below HB15.out hlP); have HKX15 := kp (HKX.out.below HB15.out hlX)
          have hlC15 := HKC15.out.lt; have hlP15 := HKP15.out.lt; have hlX15 := HKX15.out.lt
          have hI2 := HI2.out
          unfold I64 at hI2
          clear hW
          go_wp2
          go_loopw [16, 17] (fun v16 v17 W2 => ∃ (k : Nat) (A : Option Addr) (c : Nat), k ≤ 16 ∧ v17 = .int .i64 k ∧ v16 = .slice A (docHeld r.ow a2 k).length c ∧ OwnR 1 natR W2 w15.heap.size 3 (.slice A (docHeld r.ow a2 k).length c) (docHeld r.ow a2 k) ∧ Below w15.heap.size w15 W2) (fun _ v17 _ => 16 - (intOf v17).toNat)
          case atStart => exact ⟨0, none, 0, by omega, rfl, rfl, OwnR.nil _ _ _ _ _, Below.refl _ _⟩
          case round =>
            obtain ⟨k, A, c, hk, rfl, rfl, hown, hbk⟩ := hrel
            have HOwn := kp hown; have HBk := kp hbk; have hsk := hbk.size
            clear hown hbk
            by_cases hk16 : k < 16
            · obtain ⟨ow, how⟩ : ∃ ow, r.ow.getD k 0 = ow := ⟨_, rfl⟩
              have HOw := kp how
              have hcw : wr.cell? ⟨gX, 2 + k, none⟩ = some (.int .i64 (ow : Int)) := by
                have h := (HKX15.out.below HBk.out hlX15).cell (2 + k)
                rw [h, show 2 + k = k + 1 + 1 by omega, rcC, List.getElem?_cons_succ, List.getElem?_cons_succ, List.getElem?_map, List.getElem?_eq_getElem (show k < r.ow.length by have h16 : r.ow.length = 16 := HGr.out.owns; omega)]
                rw [← how, List.getD_eq_getElem?_getD, List.getElem?_eq_getElem (show k < r.ow.length by have h16 : r.ow.length = 16 := HGr.out.owns; omega)]; rfl
              have hln := docHeld_len r.ow a2 k
              clear how
              by_cases hr0 : 0 ≤ a2
              · by_cases hr8 : a2 < 8
                · by_cases hrk : (ow : Int) = a2 + 1
                  · have HYes := kp (docHeld_yes (o := r.ow) (a := a2) (k := k) ⟨hr0, hr8, by rw [HOw.out]; exact hrk⟩)
                    have hbe : ((ow : Int) == a2 + 1) = true := by rw [beq_iff_eq]; exact hrk
                    clear hrk
                    obtain ⟨dl, hdl⟩ : ∃ dl, docHeld r.ow a2 k = dl := ⟨_, rfl⟩
                    rw [hdl] at HOwn HYes hln
                    obtain ⟨n5, hn5⟩ : ∃ n5, dl.length = n5 := ⟨_, rfl⟩
                    rw [hdl, hn5]
                    rw [hn5] at HOwn hln
                    have HN5 := kp hn5
                    clear hdl hn5
                    go_wp2_with (first
                      | (at_builtin; go_must (refine wpList_append_rec rfl (.tmp 140) (.tmp 142) 51 rfl w15.heap.size 3 1 _ 8 Try.underlying51 int_info8 rfl (by omega) natR natR_one wr (.slice A n5 c) dl k rfl HOwn.out _ 1 rfl rfl _ rfl (by unfold maxLen; rw [HN5.out]; omega) (by rw [HN5.out]; omega) (by omega) ?_); intro v9 w9 hown9 hgr9
                         obtain ⟨A9, c9, rfl, _⟩ := hown9.form
                         have HOw9 := kp hown9
                         have HB9 := kp (HBk.out.grown hgr9.1 hsk (fun b hb => (HOwn.out.block b hb).1))
                         clear hown9 hgr9))
                    go_roundw
                    case rel => exact ⟨k + 1, A9, c9, by omega, by go_num, by rw [HYes.out, List.length_append]; rfl, by rw [HYes.out]; exact HOw9.out, HB9.out⟩
                    case measure => simp [intOf]; omega
                  · have HNo := kp (docHeld_no (o := r.ow) (a := a2) (k := k) (fun h => hrk (by have := h.2.2; rw [HOw.out] at this; exact this)))
                    have hbe : ((ow : Int) == a2 + 1) = false := by rw [beq_eq_false_iff_ne]; exact hrk
                    clear hrk
                    go_wp2
                    go_roundw
                    case rel => exact ⟨k + 1, A, c, by omega, by go_num, by rw [HNo.out], by rw [HNo.out]; exact HOwn.out, HBk.out⟩
                    case measure => simp [intOf]; omega
                · have HNo := kp (docHeld_no (o := r.ow) (a := a2) (k := k) (fun h => hr8 h.2.1))
                  clear hcw
                  go_wp2
                  go_roundw
                  case rel => exact ⟨k + 1, A, c, by omega, by go_num, by rw [HNo.out], by rw [HNo.out]; exact HOwn.out, HBk.out⟩
                  case measure => simp [intOf]; omega
              · have HNo := kp (docHeld_no (o := r.ow) (a := a2) (k := k) (fun h => hr0 h.1))
                clear hcw
                go_wp2
                go_roundw
                case rel => exact ⟨k + 1, A, c, by omega, by go_num, by rw [HNo.out], by rw [HNo.out]; exact HOwn.out, HBk.out⟩
                case measure => simp [intOf]; omega
            · have hk16' : k = 16 := by omega
              subst hk16'
              obtain ⟨wK, rfl⟩ : ∃ x, x = wr := ⟨_, rfl⟩
              have HBK := kp (HB15.out.trans (HBk.out.mono hs15)); have hsK := HBK.out.size
              have HKC16 := kp (HKC.out.below HBK.out hlC); have hlC16 := HKC16.out.lt
              have HOq16 := kp ((HOq.out.below HBK.out).more hsK)
              obtain ⟨dl, hdl⟩ : ∃ dl, docHeld r.ow a2 16 = dl := ⟨_, rfl⟩
              have HMask : Kept (S.mask dl % 4294967296 = hh) := kp (by rw [← hdl, ← HHh.out, ← HCr.out]; exact doc_mask HGr.out a2)
              have HLt : Kept (∀ x ∈ dl, x ≤ 31) := kp (fun x hx => by rw [← hdl] at hx; have := docHeld_lt _ _ _ x hx; omega)
              have hln := docHeld_len r.ow a2 16
              rw [hdl] at HOwn hln
              have HRow := kp (natR_row HOwn.out.recs)
              obtain ⟨n5, hn5⟩ : ∃ n5, dl.length = n5 := ⟨_, rfl⟩
              rw [hdl, hn5]
              rw [hn5] at HRow hln
              have hnn : (((hh : Nat) : Int) != ((hh : Nat) : Int)) = false := by simp
              clear hdl hn5 HOwn hk16
              by_cases hll : i < len1
              · skip
                go_wp2_with (first
                  | ((with_reducible show wpList _ _ _ (⟨some 144, _, _, _, _, _⟩ :: _) _ _); go_must (refine wpList_load_blk rfl 31 (.tmp 7) rfl gC rfl _ (pcC q) _ HKC16.out Try.underlying31 rfl (by rw [H17.out]; exact conf_size) ?_))
                  | (go_at_call 22; go_must (refine (sem_held q wK HOq16.out.row.len h8q HGq.out.owns (own_8 HGq.out) a2 HI2.out hh HHh.out).mono ?_); rintro e w17 ⟨rfl, hb17⟩; have HB17 := kp (HBK.out.trans (hb17.mono hsK)); have hs17 := HB17.out.size; have HRow17 := kp (HRow.out.below hb17); clear hb17)
                  | (go_at_call 23; go_must (refine (ref_mask wK.heap.size A n5 c dl w17 HRow17.out HLt.out (by omega) hh HMask.out).mono ?_); rintro e w18 ⟨rfl, rfl⟩))
                have HKin17 := kp (HKin.out.below (HB17.out.mono (Nat.le_refl _)) hBu); have HMr17 := kp (HMr.out.below HB17.out (Nat.le_refl _))
                have HKC17 := kp (HKC.out.below HB17.out hlC); have HKP17 := kp (HKP.out.below HB17.out hlP); have HKX17 := kp (HKX.out.below HB17.out hlX)
                have HB017 := kp (HB.out.trans (HB17.out.mono hBs)); have HBu17 := kp (HBu.out.trans (HB17.out.mono hBu))
                have hz17 : u10.heap.size ≤ w17.heap.size := by omega
                have HB := HB017; have hBs := HB.out.size
                have HKC := HKC17; have HKP := HKP17; have HKX := HKX17; have hlC := HKC.out.lt; have hlP := HKP.out.lt; have hlX := HKX.out.lt
                have HBu := HBu17; have hBu := HBu.out.size
                have HOq := kp (HKin17.out.ok hBu)
                have HPr := kp (HP.out.below HB.out)
                obtain ⟨ad, x, hA, hadB, hx, hx1, hcx0, hcx1⟩ := HPi.out.pick hll
                have hadw : ad.block < w17.heap.size := by omega
                have HX := kp hx; have HX1 := kp hx1
                have HCx0 := kp (And.intro hcx0 hcx1)
                have HCx : Kept (w17.cell? (ad.add (i * 2)) = some (.int .i64 x.1) ∧ w17.cell? ⟨(ad.add (i * 2)).block, (ad.add (i * 2)).off + 1, none⟩ = some (.bool x.2)) := kp ⟨(HB.out.cell (by rw [add_block]; exact hadB)).trans hcx0, (HB.out.cell (by rw [add_block]; exact hadB)).trans hcx1⟩
                subst hA
                clear hx hx1 hcx0 hcx1
                go_wp2
                apply region_tail 7 (.is (pcA q) :: .is (pgA pg0) :: .is _ :: .is _ :: .is (.pointer (some (ad.add (i * 2)))) :: .is (.agg #[.int .i64 x.1, .bool x.2]) :: (.stepped w17.heap.size (M.step pg0 q.cf x.1 x.2)) :: [])
                  [[], [], [], [], [(2, 156), (3, 157)], [(4, 158)], [(0, 154), (1, 155), (5, 159)], [(6, 160)]]
                  [(0, 154), (1, 155), (2, 156), (3, 157), (4, 158), (5, 159), (6, 160)] (by kernel_rfl) (by kernel_rfl) (by kernel_rfl) (by kernel_rfl) (by kernel_rfl)
                case hob =>
                  refine ⟨?o0, ?o1, ?o2, ?o3, ?o4, ?o5, ?o6, trivial⟩
                  case o0 =>
                    intro W hW; change wpList _ _ _ _ _ _
                    go_must (refine wpList_load_blk rfl 31 (.tmp 7) rfl gC rfl _ (pcC q) _ (HKC.out.below hW hlC) Try.underlying31 rfl (by rw [H17.out]; exact conf_size) ?_)
                    go_wp2; exact pure_post rfl rfl rfl
                  case o1 =>
                    intro W hW; change wpList _ _ _ _ _ _
                    go_must (refine wpList_load_blk rfl 24 (.tmp 3) rfl g1 rfl _ (pgC pg0) _ (HKP.out.below hW hlP) Try.underlying24 rfl pg_size ?_)
                    go_wp2; exact pure_post rfl rfl rfl
                  case o2 => intro W hW; change wpList _ _ _ _ _ _; go_wp2; exact pure_post rfl rfl rfl
                  case o3 => intro W hW; change wpList _ _ _ _ _ _; go_wp2; exact pure_post rfl rfl rfl
                  case o4 => intro W hW; rintro _ rfl; rintro _ rfl; change wpList _ _ _ _ _ _; go_wp2; exact pure_post rfl rfl rfl
                  case o5 =>
                    intro W hW; rintro _ rfl; change wpList _ _ _ _ _ _
                    have hd0 := (hW.cell (p := ad.add (i * 2)) (by rw [add_block]; exact hadw)).trans HCx.out.1
                    have hd1 := (hW.cell (p := ⟨(ad.add (i * 2)).block, (ad.add (i * 2)).off + 1, none⟩) (by rw [add_block]; exact hadw)).trans HCx.out.2
                    go_wp2; exact pure_post rfl rfl rfl
                  case o6 =>
                    intro W hW; rintro _ rfl; rintro _ rfl; rintro _ rfl; change wpList _ _ _ _ _ _
                    go_wp2_with fail
                    refine (sem_step W.heap.size pg0 HF.out q W (pg_more9 (HPr.out.below (hW.mono hBs)) (show w.heap.size ≤ W.heap.size by have := hW.size; omega)) ((HOq.out.below hW).more hW.size) (by rw [HCf.out]; exact HGd.out i) (Nat.le_refl _) x.1 HX1.out x.2).mono ?_
                    rintro e w2 ⟨q', rfl, hm2, hcf2, hb2⟩
                    have HB2 := kp hb2; have HM2 := kp hm2; have HC2 := kp hcf2; have hsW := hW.size; clear hb2 hm2 hcf2
                    go_wp2
                    exact made_post rfl rfl rfl HB2.out ⟨q', rfl, HM2.out.less hsW, HC2.out⟩
                case hend =>
                  intro W hW; rintro _ rfl; rintro _ rfl; rintro _ rfl; rintro _ rfl; rintro _ rfl; rintro _ rfl; rintro _ ⟨q1, rfl, hmi, hcf1⟩
                  simp only [given, put_lit, List.set, List.drop]
                  have HW := kp hW; have HMi := kp hmi; have HCf1 : Kept (q1.cf = runTo pg0 z1 (i + 1)) := kp (by rw [hcf1, HCf.out, runTo_succ pg0 z1 i x HX.out])
                  have HSt1 := kp (show q1.cf = M.step pg0 q.cf x.1 x.2 from hcf1)
                  have H171 := kp (good_17 (p := pg0) (q := q1) (by rw [HCf1.out]; exact HGd.out (i + 1)))
                  have HKC2 := kp (HKC.out.below hW hlC); have HKX2 := kp (HKX.out.below hW hlX); have HKP2 := kp (HKP.out.below hW hlP); have HMr2 := kp (HMr17.out.below hW (Nat.le_refl _))
                  have hsW := hW.size
                  have HsW : Kept (w.heap.size ≤ W.heap.size ∧ u4.heap.size ≤ W.heap.size ∧ u10.heap.size ≤ W.heap.size) := kp (by omega)
                  clear hW hmi hcf1
                  refine wpList_store_blk rfl 31 (.tmp 7) (.tmp 160) rfl gC (pcC q1) rfl rfl _ _ HKC2.out (by rw [H171.out]; exact conf_size) (by rw [H171.out, H17.out]) (conf_ones q1) ?_
                  intro w25 hk9 hg9 hs9
                  have HKC25 := kp hk9; have HKX25 := kp (HKX2.out.grown hg9 (fun e => by cases e; exact HGw2.out.2.2.1 rfl)); have HKin25 : Kept (Kin w25 u4.heap.size u10.heap.size q1) := kp (.inr (HMi.out.away2 hg9 hlC hz17)); have HB25 := kp ((HB.out.trans (HW.out.mono hBs)).grown hg9 HsW.out.1 (fun k e => by cases e; exact HGw.out.2.1))
                  have HBu25 := kp ((HBu.out.trans (HW.out.mono hBu)).grown hg9 HsW.out.2.1 (fun k e => by cases e; exact HGw2.out.2.2.2.1))
                  have HKP25 := kp (HKP2.out.grown hg9 (fun e => by cases e; exact HGw.out.2.2 rfl))
                  have HMr25 := kp (HMr2.out.far hg9 (.inl HGw2.out.2.2.2.2.2.2.2.1))
                  have hz25 : u10.heap.size ≤ w25.heap.size := by have := HsW.out.2.2; omega
                  have hs25 := HB25.out.size; have hsu25 := HBu25.out.size; have hlX25 := HKX25.out.lt; have hlP25 := HKP25.out.lt; have hlC25 := HKC25.out.lt
                  have HPr25 := kp (pg_more9 (HP.out.below HB25.out) hs25)
                  have HOr25 := kp HMr25.out.ok
                  have hadw25 : ad.block < w25.heap.size := by omega
                  have HCx25 := kp (And.intro ((HB25.out.cell (p := ad.add (i * 2)) (by rw [add_block]; exact hadB)).trans HCx0.out.1) ((HB25.out.cell (p := ⟨(ad.add (i * 2)).block, (ad.add (i * 2)).off + 1, none⟩) (by rw [add_block]; exact hadB)).trans HCx0.out.2))
                  clear hk9 hg9 hs9
                  try simp only [put_none_d]
                  go_wp2
                  apply region_tail 7 (.is (rcA r) :: .is (pgA pg0) :: .is _ :: .is _ :: .is (.pointer (some (ad.add (i * 2)))) :: .is (.agg #[.int .i64 x.1, .bool x.2]) :: (.rstepped w25.heap.size (M.step pg0 r.cf x.1 x.2)) :: [])
                    [[], [], [], [], [(2, 163), (3, 164)], [(4, 165)], [(0, 161), (1, 162), (5, 166)], [(6, 167)]]
                    [(0, 161), (1, 162), (2, 163), (3, 164), (4, 165), (5, 166), (6, 167)] (by kernel_rfl) (by kernel_rfl) (by kernel_rfl) (by kernel_rfl) (by kernel_rfl)
                  case hob =>
                    refine ⟨?o0, ?o1, ?o2, ?o3, ?o4, ?o5, ?o6, trivial⟩
                    case o0 =>
                      intro W hW; change wpList _ _ _ _ _ _
                      go_must (refine wpList_load_blk rfl 40 (.tmp 12) rfl gX rfl _ (rcC r) _ (HKX25.out.below hW hlX25) Try.underlying40 rfl (by rw [HX18.out]; exact ref_size18) ?_)
                      go_wp2; exact pure_post rfl rfl rfl
                    case o1 =>
                      intro W hW; change wpList _ _ _ _ _ _
                      go_must (refine wpList_load_blk rfl 24 (.tmp 3) rfl g1 rfl _ (pgC pg0) _ (HKP25.out.below hW hlP25) Try.underlying24 rfl pg_size ?_)
                      go_wp2; exact pure_post rfl rfl rfl
                    case o2 => intro W hW; change wpList _ _ _ _ _ _; go_wp2; exact pure_post rfl rfl rfl
                    case o3 => intro W hW; change wpList _ _ _ _ _ _; go_wp2; exact pure_post rfl rfl rfl
                    case o4 => intro W hW; rintro _ rfl; rintro _ rfl; change wpList _ _ _ _ _ _; go_wp2; exact pure_post rfl rfl rfl
                    case o5 =>
                      intro W hW; rintro _ rfl; change wpList _ _ _ _ _ _
                      have hd0 := (hW.cell (p := ad.add (i * 2)) (by rw [add_block]; exact hadw25)).trans HCx25.out.1
                      have hd1 := (hW.cell (p := ⟨(ad.add (i * 2)).block, (ad.add (i * 2)).off + 1, none⟩) (by rw [add_block]; exact hadw25)).trans HCx25.out.2
                      go_wp2; exact pure_post rfl rfl rfl
                    case o6 =>
                      intro W hW; rintro _ rfl; rintro _ rfl; rintro _ rfl; change wpList _ _ _ _ _ _
                      have hsW := hW.size
                      go_wp2_with fail
                      refine (rs_step W.heap.size pg0 HF.out r W (pg_more9 (HPr25.out.below hW) hsW) ((HOr25.out.below hW).more hsW) HGr.out (Nat.le_refl _) x.1 HX1.out x.2).mono ?_
                      unfold StepR
                      rintro e w2 ⟨q', rfl, hm2, hcf2, hb2⟩
                      have HB2 := kp hb2; have HM2 := kp (hm2.lower hsW); have HC2 := kp hcf2; clear hb2 hm2 hcf2
                      go_wp2
                      exact made_post rfl rfl rfl HB2.out ⟨q', rfl, HM2.out, HC2.out⟩
                  case hend =>
                    intro W hW; rintro _ rfl; rintro _ rfl; rintro _ rfl; rintro _ rfl; rintro _ rfl; rintro _ rfl; rintro _ ⟨r1, rfl, hmi, hcf1⟩
                    simp only [given, put_lit, List.set, List.drop]
                    have HW := kp hW; have HMi := kp hmi
                    have HCr1 : Kept (r1.cf = q1.cf) := kp (by rw [hcf1, HSt1.out, HCr.out])
                    have HX181 : Kept ((rcC r1).length = 18) := kp (rc_len (rc_own HCr1.out (by rw [HCf1.out]; exact (HGd.out (i + 1)).owns)))
                    have HKC2 := kp (HKC25.out.below hW hlC25); have HKX2 := kp (HKX25.out.below hW hlX25); have HKP2 := kp (HKP25.out.below hW hlP25); have HKin2 := kp (HKin25.out.below hW hsu25)
                    have hsW := hW.size
                    have HsW : Kept (w.heap.size ≤ W.heap.size ∧ u4.heap.size ≤ W.heap.size ∧ u10.heap.size ≤ W.heap.size) := kp (by omega)
                    clear hW hmi hcf1
                    refine wpList_store_blk rfl 40 (.tmp 12) (.tmp 167) rfl gX (rcC r1) rfl rfl _ _ HKX2.out (by rw [HX181.out]; exact ref_size18) (by rw [HX181.out, HX18.out]) (rc_ones r1) ?_
                    intro w26 hk9 hg9 hs9
                    have HKX26 := kp hk9; have HKC26 := kp (HKC2.out.grown hg9 (fun e => by cases e; exact HGw2.out.2.2.1 rfl)); have HKin26 := kp (HKin2.out.far hg9 HGw2.out.2.2.2.2.1 HGw2.out.2.2.2.2.2.2.1 HsW.out.2.1)
                    have HB26 := kp ((HB25.out.trans (HW.out.mono hs25)).grown hg9 HsW.out.1 (fun k e => by cases e; exact HGw2.out.1))
                    have HBu26 := kp ((HBu25.out.trans (HW.out.mono hsu25)).grown hg9 HsW.out.2.1 (fun k e => by cases e; exact HGw2.out.2.2.2.2.1))
                    have HKP26 := kp (HKP2.out.grown hg9 (fun e => by cases e; exact HGw2.out.2.1 rfl))
                    have HMr26 := kp ((HMi.out.far hg9 (.inl hlX25)).lower (show u7.heap.size ≤ w25.heap.size by have := HGw2.out.2.2.2.2.2.2.2.2; omega))
                    have hz26 : u10.heap.size ≤ w26.heap.size := by have := HsW.out.2.2; omega
                    clear hk9 hg9 hs9
                    go_wp2
                    go_roundw
                    case rel => exact ⟨i + 1, q1, r1, by omega, by go_num, HKin26.out, HCf1.out, HMr26.out, HCr1.out, HKC26.out, HKP26.out, HKX26.out, HB26.out, HBu26.out, hz26⟩
                    case measure => simp [intOf]; omega
              · skip
                go_wp2_with (first
                  | ((with_reducible show wpList _ _ _ (⟨some 144, _, _, _, _, _⟩ :: _) _ _); go_must (refine wpList_load_blk rfl 31 (.tmp 7) rfl gC rfl _ (pcC q) _ HKC16.out Try.underlying31 rfl (by rw [H17.out]; exact conf_size) ?_))
                  | (go_at_call 22; go_must (refine (sem_held q wK HOq16.out.row.len h8q HGq.out.owns (own_8 HGq.out) a2 HI2.out hh HHh.out).mono ?_); rintro e w17 ⟨rfl, hb17⟩; have HB17 := kp (HBK.out.trans (hb17.mono hsK)); have hs17 := HB17.out.size; have HRow17 := kp (HRow.out.below hb17); clear hb17)
                  | (go_at_call 23; go_must (refine (ref_mask wK.heap.size A n5 c dl w17 HRow17.out HLt.out (by omega) hh HMask.out).mono ?_); rintro e w18 ⟨rfl, rfl⟩))
                have HKin17 := kp (HKin.out.below (HB17.out.mono (Nat.le_refl _)) hBu); have HMr17 := kp (HMr.out.below HB17.out (Nat.le_refl _))
                have HKC17 := kp (HKC.out.below HB17.out hlC); have HKP17 := kp (HKP.out.below HB17.out hlP); have HKX17 := kp (HKX.out.below HB17.out hlX)
                have HB017 := kp (HB.out.trans (HB17.out.mono hBs)); have HBu17 := kp (HBu.out.trans (HB17.out.mono hBu))
                have hz17 : u10.heap.size ≤ w17.heap.size := by omega
                go_wp2
                go_roundw
                case rel => exact ⟨i + 1, q, r, by omega, by go_num, HKin17.out, by rw [runTo_end pg0 z1 i (by rw [HPi.out.1.len]; omega)]; exact HCf.out, HMr17.out, HCr.out, HKC17.out, HKP17.out, HKX17.out, HB017.out, HBu17.out, hz17⟩
                case measure => simp [intOf]; omega
    · have hge : len1 + 1 ≤ i := by omega
      go_wp2
      go_ret
      exact ⟨rfl, HB.out⟩
end Go.Proofs.Ytkblgafackmckaa
