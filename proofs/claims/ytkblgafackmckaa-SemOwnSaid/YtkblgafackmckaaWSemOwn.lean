/- SemOwn, walked. -/
import Derived.Test.YtkblgafackmckaaPq24
import Derived.Test.YtkblgafackmckaaSemTwo
import Derived.Deep.CutRange
namespace Go.Proofs.Ytkblgafackmckaa
open Go.RowKit

set_option maxRecDepth 1000000 in
set_option maxHeartbeats 8000000 in
theorem walkSemOwn (pg0 : Pg) (a1 : Option Addr) (len1 cap1 : Nat) (z1 : List (Int × Bool)) (w : World) (w0 : pg0.Ok w w.heap.size) (w1 : Picks w w.heap.size a1 len1 z1) (c1 : len1 ≤ cap1 ∧ cap1 ≤ maxLen) :
    Calls Try.prog 5 #[pgA pg0, .slice a1 len1 cap1] w fun e w' => e = .returned (.bool true) ∧ Below w.heap.size w w' := by
  have HP := kp w0
  have HPi := kp w1
  have hc1 := c1.1; have hm1 := c1.2
  unfold maxLen at hm1
  obtain ⟨r, hr⟩ : ∃ r, Q.small pg0 = r := ⟨_, rfl⟩
  have HR := kp hr
  clear hr w0 w1 c1
  rw [pgA_is]
  cases r
  · go_enter Try.func5, Try.ntmps5
    go_wp2_with (first
      | ((with_reducible refine wpList_box_agg rfl 24 (.tmp 0) rfl (pgC pg0) rfl ?_); intro g1 u1 hg1 hk1 hu1; have HK1 := kp hk1; have HG1 := kp hg1; have HU1 := kp hu1; have hz1 := hu1.size; clear hg1 hk1 hu1))
    refine (sem_awake u1).mono ?_
    rintro e u2 ⟨rfl, hb2⟩
    have HU2 : Kept (Below w.heap.size w u2) := kp (HU1.out.trans (hb2.mono hz1))
    have hs2 := HU2.out.size
    have HP2 := kp (HP.out.below HU2.out)
    have HK2 := kp (HK1.out.below hb2 HK1.out.lt)
    obtain ⟨hc0, hc1', hc2, hc3⟩ := pg_cells HK2.out
    clear hb2
    go_wp2_with fail
    refine (ref_small _ pg0 u2 HP2.out hs2 _ HR.out).mono ?_
    rintro e u3 ⟨rfl, hb3⟩
    have HU3 : Kept (Below w.heap.size w u3) := kp (HU2.out.trans (hb3.mono hs2))
    have hs3 := HU3.out.size
    have HP3 := kp (HP.out.below HU3.out)
    have HK3 := kp (HK2.out.below hb3 HK2.out.lt)
    clear hb3 hc0 hc1' hc2 hc3
    obtain ⟨hc0, hc1', hc2, hc3⟩ := pg_cells HK3.out
    go_wp2_with fail
    refine (sem_awake u3).mono ?_
    rintro e u4 ⟨rfl, hb4⟩
    have HU4 := kp (HU3.out.trans (hb4.mono hs3))
    clear hb4
    go_wp2
    go_ret
    exact ⟨rfl, HU4.out⟩
  by_cases hbig : 300 < len1
  · go_enter Try.func5, Try.ntmps5
    go_wp2_with (first
      | ((with_reducible refine wpList_box_agg rfl 24 (.tmp 0) rfl (pgC pg0) rfl ?_); intro g1 u1 hg1 hk1 hu1; have HK1 := kp hk1; have HG1 := kp hg1; have HU1 := kp hu1; have hz1 := hu1.size; clear hg1 hk1 hu1))
    refine (sem_awake u1).mono ?_
    rintro e u2 ⟨rfl, hb2⟩
    have HU2 : Kept (Below w.heap.size w u2) := kp (HU1.out.trans (hb2.mono hz1))
    have hs2 := HU2.out.size
    have HP2 := kp (HP.out.below HU2.out)
    have HK2 := kp (HK1.out.below hb2 HK1.out.lt)
    obtain ⟨hc0, hc1', hc2, hc3⟩ := pg_cells HK2.out
    clear hb2
    go_wp2_with fail
    refine (ref_small _ pg0 u2 HP2.out hs2 _ HR.out).mono ?_
    rintro e u3 ⟨rfl, hb3⟩
    have HU3 : Kept (Below w.heap.size w u3) := kp (HU2.out.trans (hb3.mono hs2))
    have hs3 := HU3.out.size
    have HP3 := kp (HP.out.below HU3.out)
    have HK3 := kp (HK2.out.below hb3 HK2.out.lt)
    clear hb3 hc0 hc1' hc2 hc3
    obtain ⟨hc0, hc1', hc2, hc3⟩ := pg_cells HK3.out
    go_wp2_with fail
    refine (sem_awake u3).mono ?_
    rintro e u4 ⟨rfl, hb4⟩
    have HU4 := kp (HU3.out.trans (hb4.mono hs3))
    clear hb4
    go_wp2
    go_ret
    exact ⟨rfl, HU4.out⟩
  have HN3 := kp hbig
  go_enter Try.func5, Try.ntmps5
  go_wp2_with (first
    | ((with_reducible refine wpList_box_agg rfl 24 (.tmp 0) rfl (pgC pg0) rfl ?_); intro g1 u1 hg1 hk1 hu1; have HK1 := kp hk1; have HG1 := kp hg1; have HU1 := kp hu1; have hz1 := hu1.size; clear hg1 hk1 hu1))
  refine (sem_awake u1).mono ?_
  rintro e u2 ⟨rfl, hb2⟩
  have HU2 : Kept (Below w.heap.size w u2) := kp (HU1.out.trans (hb2.mono hz1))
  have hs2 := HU2.out.size
  have HP2 := kp (HP.out.below HU2.out)
  have HK2 := kp (HK1.out.below hb2 HK1.out.lt)
  obtain ⟨hc0, hc1', hc2, hc3⟩ := pg_cells HK2.out
  clear hb2
  go_wp2_with fail
  refine (ref_small _ pg0 u2 HP2.out hs2 _ HR.out).mono ?_
  rintro e u3 ⟨rfl, hb3⟩
  have HU3 : Kept (Below w.heap.size w u3) := kp (HU2.out.trans (hb3.mono hs2))
  have hs3 := HU3.out.size
  have HP3 := kp (HP.out.below HU3.out)
  have HK3 := kp (HK2.out.below hb3 HK2.out.lt)
  clear hb3 hc0 hc1' hc2 hc3
  obtain ⟨hc0, hc1', hc2, hc3⟩ := pg_cells HK3.out
  obtain ⟨ca, cb, cc, hcc⟩ : ∃ a b c, Q.check pg0 = (a, b, c) := ⟨_, _, _, rfl⟩
  have HC := kp hcc
  clear hcc
  by_cases hz : cc = 0
  case neg =>
    have HZ := kp hz
    have hb0 : ((cc : Int) != 0) = true := by simpa using hz
    clear hz
    go_wp2_with (first
      | (go_at_call 11; go_must (refine (sem_start _ pg0 u3 HP3.out hs3 ca cb cc HC.out).mono ?_); rintro e u4 ⟨q0, rfl, hok, hcf, hl0, h16, hb4⟩
         have HOk0 := kp hok; have HCf0 := kp hcf; have HL0 := kp hl0; have H17 := kp (conf_len h16); have HU4 := kp (HU3.out.trans (hb4.mono hs3)); have HK4 := kp (HK3.out.below hb4 HK3.out.lt); have hs4 := HU4.out.size; have hlk4 := HK4.out.lt
         clear hok hcf hl0 h16 hb4 hc0 hc1' hc2 hc3)
      | ((with_reducible show wpList _ _ _ (⟨some 5, _, _, _, _, _⟩ :: _) _ _); go_must (refine wpList_alloc_zero rfl 31 rfl _ conf_zero ?_); intro gC u5 hgC hk5 hu5; have HKc := kp hk5; have HGC := kp hgC; have HU5 := kp (HU4.out.trans (hu5.mono hs4)); have HM5 := kp hu5; have HK5 := kp (HK4.out.below hu5 hlk4); have hs5 := HU5.out.size; have hs45 := hu5.size; have hlC := hk5.lt; clear hk5 hu5 hgC)
      | ((with_reducible show wpList _ _ _ (⟨none, _, _, _, _, _⟩ :: _) _ _); (refine wpList_store_blk rfl 31 (.tmp 5) (.tmp 30) rfl gC (pcC q0) rfl rfl _ _ HKc.out (by rw [H17.out]; exact conf_size) (by rw [H17.out]; rfl) (conf_ones q0) ?_); intro u6 hk6 hg6 hs6'
         have HK26 := kp hk6; have HU6 := kp (HU5.out.grown hg6 hs5 (fun k e => by cases e; have := HGC.out; omega)); have HM6 := kp (HM5.out.grown hg6 hs45 (fun k e => by cases e; have := HGC.out; omega)); have hs6 := HU6.out.size; have hs46 := HM6.out.size
         have HK16 := kp (HK5.out.grown hg6 (fun e => by cases e; have := HGC.out; omega)); have HO6 := kp ((HOk0.out.below HM6.out).more hs46)
         have HGw : Kept (w.heap.size ≤ g1 ∧ w.heap.size ≤ gC ∧ g1 ≠ gC) := kp ⟨by have := HG1.out; omega, by have := HGC.out; omega, by have := HGC.out; omega⟩
         have hcL : u6.cell? ⟨gC, 0, none⟩ = some (.slice q0.A 0 q0.cap) := by have h := conf_cell HK26.out; rwa [HL0.out HZ.out] at h
         clear hk6 hg6 hs6'))
    go_ret
    exact ⟨rfl, HU6.out⟩
  have HZ := kp hz
  have HZ0 : Kept ((cc : Int) = 0) := kp (by omega)
  have hb0 : ((cc : Int) != 0) = false := by rw [HZ0.out]; rfl
  clear hz
  go_wp2_with (first
    | (go_at_call 11; go_must (refine (sem_start _ pg0 u3 HP3.out hs3 ca cb cc HC.out).mono ?_); rintro e u4 ⟨q0, rfl, hok, hcf, hl0, h16, hb4⟩
       have HOk0 := kp hok; have HCf0 := kp hcf; have HL0 := kp hl0; have H17 := kp (conf_len h16); have HU4 := kp (HU3.out.trans (hb4.mono hs3)); have HK4 := kp (HK3.out.below hb4 HK3.out.lt); have hs4 := HU4.out.size; have hlk4 := HK4.out.lt
       clear hok hcf hl0 h16 hb4 hc0 hc1' hc2 hc3)
    | ((with_reducible show wpList _ _ _ (⟨some 5, _, _, _, _, _⟩ :: _) _ _); go_must (refine wpList_alloc_zero rfl 31 rfl _ conf_zero ?_); intro gC u5 hgC hk5 hu5; have HKc := kp hk5; have HGC := kp hgC; have HU5 := kp (HU4.out.trans (hu5.mono hs4)); have HM5 := kp hu5; have HK5 := kp (HK4.out.below hu5 hlk4); have hs5 := HU5.out.size; have hs45 := hu5.size; have hlC := hk5.lt; clear hk5 hu5 hgC)
    | ((with_reducible show wpList _ _ _ (⟨none, _, _, _, _, _⟩ :: _) _ _); (refine wpList_store_blk rfl 31 (.tmp 5) (.tmp 30) rfl gC (pcC q0) rfl rfl _ _ HKc.out (by rw [H17.out]; exact conf_size) (by rw [H17.out]; rfl) (conf_ones q0) ?_); intro u6 hk6 hg6 hs6'
       have HK26 := kp hk6; have HU6 := kp (HU5.out.grown hg6 hs5 (fun k e => by cases e; have := HGC.out; omega)); have HM6 := kp (HM5.out.grown hg6 hs45 (fun k e => by cases e; have := HGC.out; omega)); have hs6 := HU6.out.size; have hs46 := HM6.out.size
       have HK16 := kp (HK5.out.grown hg6 (fun e => by cases e; have := HGC.out; omega)); have HO6 := kp ((HOk0.out.below HM6.out).more hs46)
       have HGw : Kept (w.heap.size ≤ g1 ∧ w.heap.size ≤ gC ∧ g1 ≠ gC) := kp ⟨by have := HG1.out; omega, by have := HGC.out; omega, by have := HGC.out; omega⟩
       clear hk6 hg6 hs6'))
  have HF : Kept (Fine pg0) := kp (fine_of (by rw [HC.out, HZ.out]))
  have HGd : Kept (∀ i, M.Good pg0 (runTo pg0 z1 i)) := kp (runTo_good HF.out HP.out.row.len z1)
  go_loopw [7] (fun v wr => ∃ (i : Nat) (q : Pc), i ≤ len1 ∧ v = .int .i64 i ∧ q.Ok wr wr.heap.size ∧ q.cf = runTo pg0 z1 i ∧ Blk wr gC 31 (pcC q) ∧ Blk wr g1 24 (pgC pg0) ∧ Below w.heap.size w wr) (fun v _ => len1 - (intOf v).toNat)
  case atStart => exact ⟨0, q0, by omega, rfl, HO6.out, by rw [runTo_zero]; exact HCf0.out HZ.out, HK26.out, HK16.out, HU6.out⟩
  case round =>
    obtain ⟨i, q, hi, rfl, hoq, hcf, hkc, hkp, hbl⟩ := hrel
    have HOq := kp hoq; have HCf := kp hcf; have HKC := kp hkc; have HKP := kp hkp; have HB := kp hbl
    have hBs := hbl.size; have hlC := hkc.lt; have hlP := hkp.lt
    have HPr := kp (HP.out.below hbl)
    have H17 := kp (good_17 (p := pg0) (q := q) (by rw [hcf]; exact HGd.out i))
    clear hoq hcf hkc hkp hbl
    by_cases hlt : i < len1
    · obtain ⟨wA, rfl⟩ : ∃ x, x = wr := ⟨_, rfl⟩
      obtain ⟨ad, x, hA, hadB, hx, hx1, hcx0, hcx1⟩ := HPi.out.pick hlt
      have hadw : ad.block < wA.heap.size := by omega
      have HX := kp hx; have HX1 := kp hx1
      have HCx0 := kp (And.intro hcx0 hcx1)
      have HCx : Kept (wA.cell? (ad.add (i * 2)) = some (.int .i64 x.1) ∧ wA.cell? ⟨(ad.add (i * 2)).block, (ad.add (i * 2)).off + 1, none⟩ = some (.bool x.2)) := kp ⟨(HB.out.cell (by rw [add_block]; exact hadB)).trans hcx0, (HB.out.cell (by rw [add_block]; exact hadB)).trans hcx1⟩
      subst hA
      clear hx hx1 hcx0 hcx1
      have HGq := kp (show M.Good pg0 q.cf by rw [HCf.out]; exact HGd.out i)
      have HStq := kp (low_stacks HF.out HP.out.row.len HGq.out HOq.out)
      have h8q := most_8 HGq.out HOq.out
      obtain ⟨can, hcan⟩ : ∃ b, M.enabled pg0 q.cf x.1 = b := ⟨_, rfl⟩
      have HCan := kp hcan
      clear hcan
      go_wp2_with (first
        | ((with_reducible show wpList _ _ _ (⟨some 44, _, _, _, _, _⟩ :: _) _ _); go_must (refine wpList_load_blk rfl 31 (.tmp 5) rfl gC rfl _ (pcC q) _ HKC.out Try.underlying31 rfl (by rw [H17.out]; exact conf_size) ?_))
        | (go_at_call 15; go_must (refine (law_plain q wA HOq.out h8q HGq.out.owns HStq.out (good_8s HGq.out)).mono ?_); rintro e w1 ⟨p, rfl, hmp, hcfp, _, _, hslp, hb1⟩
           have HMp1 := kp hmp; have HCfp := kp hcfp; have HSlp := kp hslp; have HB1 := kp hb1; have hs1 := hb1.size
           have HL18 : Kept ((rcC p).length = 18) := kp (rc_len (rc_own hcfp HGq.out.owns))
           clear hmp hcfp hslp hb1)
        | ((with_reducible show wpList _ _ _ (⟨some 8, _, _, _, _, _⟩ :: _) _ _); go_must (refine wpList_alloc_zero rfl 40 rfl _ ref_zero ?_); intro gW w2 hgW hk2 hw2; have HKW2 := kp hk2; have HGW := kp hgW; have HB2 := kp (HB1.out.trans (hw2.mono hs1)); have HB12 := kp hw2; have hs2 := HB2.out.size; have hs12 := hw2.size; clear hk2 hw2 hgW)
        | ((with_reducible show wpList _ _ _ (⟨none, _, _, _, _, _⟩ :: _) _ _); (refine wpList_store_blk rfl 40 (.tmp 8) (.tmp 45) rfl gW (rcC p) rfl rfl _ _ HKW2.out (by rw [HL18.out]; exact ref_size18) (by rw [HL18.out]; rfl) (rc_ones _) ?_); intro w3 hk3 hg3 hs3'
           have HKW := kp hk3; have hlW := hk3.lt; have HMp := kp (HMp1.out.far (grown_trans (grown_of_below HB12.out _) hg3) (.inr HGW.out)); have HB3 := kp (HB2.out.grown hg3 hs2 (fun k e => by cases e; have := HGW.out; omega)); have hs3 := HB3.out.size
           clear hk3 hg3 hs3'))
      have HB03 := kp (HB.out.trans (HB3.out.mono hBs)); have hs03 := HB03.out.size
      have HOq3 := kp ((HOq.out.below HB3.out).more hs3); have HKC3 := kp (HKC.out.below HB3.out hlC); have HKP3 := kp (HKP.out.below HB3.out hlP)
      have hlC3 := HKC3.out.lt; have hlP3 := HKP3.out.lt
      have HPr3 := kp (HP.out.below HB03.out)
      have HCx3 := kp (And.intro ((HB3.out.cell (p := ad.add (i * 2)) (by rw [add_block]; exact hadw)).trans HCx.out.1) ((HB3.out.cell (p := ⟨(ad.add (i * 2)).block, (ad.add (i * 2)).off + 1, none⟩) (by rw [add_block]; exact hadw)).trans HCx.out.2))
      have hadw3 : ad.block < w3.heap.size := by omega
      have HGWA : Kept (wA.heap.size ≤ gW) := kp (by have := HGW.out; omega)
      clear HKW2 HB1 HB2 HB12 HMp1
      try simp only [put_none_d]
      go_wp2
      apply region_list (.is (pcA q) :: .is (pgA pg0) :: .is _ :: .is _ :: .is (.pointer (some (ad.add (i * 2)))) :: .is (.pointer (some (ad.add (i * 2)))) :: .is (.int .i64 x.1) :: .is (.bool can) :: .is (.bool can) :: [])
        [[], [], [], [], [(2, 48), (3, 49)], [(4, 50)], [(5, 51)], [(0, 46), (1, 47), (6, 52)], [(7, 53)]]
        [(0, 46), (1, 47), (2, 48), (3, 49), (4, 50), (5, 51), (6, 52), (7, 53), (8, 9)] (by kernel_rfl) (by kernel_rfl)
      case hob =>
        refine ⟨?o0, ?o1, ?o2, ?o3, ?o4, ?o5, ?o6, ?o7, ?o8, trivial⟩
        case o0 =>
          intro W hW; change wpList _ _ _ _ _ _
          go_must (refine wpList_load_blk rfl 31 (.tmp 5) rfl gC rfl _ (pcC q) _ (HKC3.out.below hW hlC3) Try.underlying31 rfl (by rw [H17.out]; exact conf_size) ?_)
          go_wp2; exact pure_post rfl rfl rfl
        case o1 =>
          intro W hW; change wpList _ _ _ _ _ _
          go_must (refine wpList_load_blk rfl 24 (.tmp 2) rfl g1 rfl _ (pgC pg0) _ (HKP3.out.below hW hlP3) Try.underlying24 rfl pg_size ?_)
          go_wp2; exact pure_post rfl rfl rfl
        case o2 => intro W hW; change wpList _ _ _ _ _ _; go_wp2; exact pure_post rfl rfl rfl
        case o3 => intro W hW; change wpList _ _ _ _ _ _; go_wp2; exact pure_post rfl rfl rfl
        case o4 => intro W hW; rintro _ rfl; rintro _ rfl; change wpList _ _ _ _ _ _; go_wp2; exact pure_post rfl rfl rfl
        case o5 => intro W hW; rintro _ rfl; change wpList _ _ _ _ _ _; go_wp2; exact pure_post rfl rfl rfl
        case o6 =>
          intro W hW; rintro _ rfl; change wpList _ _ _ _ _ _
          have hd0 := (hW.cell (p := ad.add (i * 2)) (by rw [add_block]; exact hadw3)).trans HCx3.out.1
          go_wp2; exact pure_post rfl rfl rfl
        case o7 =>
          intro W hW; rintro _ rfl; rintro _ rfl; rintro _ rfl; change wpList _ _ _ _ _ _
          go_wp2_with fail
          refine (sem_enabled W.heap.size pg0 HF.out q W (pg_more9 (HPr3.out.below (hW.mono hs03)) (show w.heap.size ≤ W.heap.size by have := hW.size; omega)) ((HOq3.out.below hW).more hW.size) HGq.out (Nat.le_refl _) x.1 HX1.out can HCan.out).mono ?_
          rintro e w2 ⟨rfl, hb2⟩
          have HB2 := kp hb2; clear hb2
          go_wp2
          exact made_post rfl rfl rfl HB2.out rfl
        case o8 => intro W hW; rintro _ rfl; change wpList _ _ _ _ _ _; go_wp2; exact pure_post rfl rfl rfl
      case hend =>
        intro W hW; rintro _ rfl; rintro _ rfl; rintro _ rfl; rintro _ rfl; rintro _ rfl; rintro _ rfl; rintro _ rfl; rintro _ rfl; rintro _ rfl
        simp only [given, put_lit, List.set]
        obtain ⟨w4, rfl⟩ : ∃ y, y = W := ⟨_, rfl⟩
        have HB4 := kp (HB3.out.trans (hW.mono hs3)); have hs4 := HB4.out.size; have hs34 := hW.size
        have HKW4 := kp (HKW.out.below hW hlW); have HMp4 := kp (HMp.out.below hW (Nat.le_refl _))
        have HB := kp (HB.out.trans (HB4.out.mono hBs)); have hBs := HB.out.size
        have HOq := kp ((HOq3.out.below hW).more hW.size); have HKC := kp (HKC3.out.below hW hlC3); have HKP := kp (HKP3.out.below hW hlP3)
        have hlC := HKC.out.lt; have hlP := HKP.out.lt; have hlW4 := HKW4.out.lt
        have HPr := kp (HP.out.below HB.out)
        have hadw : ad.block < w4.heap.size := by omega
        have HCx := kp (And.intro ((hW.cell (p := ad.add (i * 2)) (by rw [add_block]; exact hadw3)).trans HCx3.out.1) ((hW.cell (p := ⟨(ad.add (i * 2)).block, (ad.add (i * 2)).off + 1, none⟩) (by rw [add_block]; exact hadw3)).trans HCx3.out.2))
        clear hW HOq3 HKC3 HKP3 HPr3 HCx3 HKW HMp
        go_wp2
        apply region_tail 8 (.is (pcA q) :: .is (pgA pg0) :: .is _ :: .is _ :: .is (.pointer (some (ad.add (i * 2)))) :: .is (.agg #[.int .i64 x.1, .bool x.2]) :: (.stepped w4.heap.size (M.step pg0 q.cf x.1 x.2)) :: (.confNew w4.heap.size) :: [])
          [[], [], [], [], [(2, 56), (3, 57)], [(4, 58)], [(0, 54), (1, 55), (5, 59)], [], [(7, 10), (6, 60)]]
          [(0, 54), (1, 55), (2, 56), (3, 57), (4, 58), (5, 59), (6, 60), (7, 10)] (by kernel_rfl) (by kernel_rfl) (by kernel_rfl) (by kernel_rfl) (by kernel_rfl)
        case hob =>
          refine ⟨?o0, ?o1, ?o2, ?o3, ?o4, ?o5, ?o6, ?o7, trivial⟩
          case o0 =>
            intro W hW; change wpList _ _ _ _ _ _
            go_must (refine wpList_load_blk rfl 31 (.tmp 5) rfl gC rfl _ (pcC q) _ (HKC.out.below hW hlC) Try.underlying31 rfl (by rw [H17.out]; exact conf_size) ?_)
            go_wp2; exact pure_post rfl rfl rfl
          case o1 =>
            intro W hW; change wpList _ _ _ _ _ _
            go_must (refine wpList_load_blk rfl 24 (.tmp 2) rfl g1 rfl _ (pgC pg0) _ (HKP.out.below hW hlP) Try.underlying24 rfl pg_size ?_)
            go_wp2; exact pure_post rfl rfl rfl
          case o2 => intro W hW; change wpList _ _ _ _ _ _; go_wp2; exact pure_post rfl rfl rfl
          case o3 => intro W hW; change wpList _ _ _ _ _ _; go_wp2; exact pure_post rfl rfl rfl
          case o4 => intro W hW; rintro _ rfl; rintro _ rfl; change wpList _ _ _ _ _ _; go_wp2; exact pure_post rfl rfl rfl
          case o5 =>
            intro W hW; rintro _ rfl; change wpList _ _ _ _ _ _
            have hd0 := (hW.cell (p := ad.add (i * 2)) (by rw [add_block]; exact hadw)).trans HCx.out.1
            have hd1 := (hW.cell (p := ⟨(ad.add (i * 2)).block, (ad.add (i * 2)).off + 1, none⟩) (by rw [add_block]; exact hadw)).trans HCx.out.2
            go_wp2; exact pure_post rfl rfl rfl
          case o6 =>
            intro W hW; rintro _ rfl; rintro _ rfl; rintro _ rfl; change wpList _ _ _ _ _ _
            go_wp2_with fail
            refine (sem_step W.heap.size pg0 HF.out q W (pg_more9 (HPr.out.below (hW.mono hBs)) (show w.heap.size ≤ W.heap.size by have := hW.size; omega)) ((HOq.out.below hW).more hW.size) (by rw [HCf.out]; exact HGd.out i) (Nat.le_refl _) x.1 HX1.out x.2).mono ?_
            rintro e w2 ⟨q', rfl, hm2, hcf2, hb2⟩
            have HB2 := kp hb2; have HM2 := kp hm2; have HC2 := kp hcf2; have hsW := hW.size; clear hb2 hm2 hcf2
            go_wp2
            exact made_post rfl rfl rfl HB2.out ⟨q', rfl, HM2.out.less hsW, HC2.out⟩
          case o7 =>
            intro W hW; change wpList _ _ _ _ _ _
            have hsW := hW.size
            go_must (refine wpList_alloc_zero rfl 31 rfl _ conf_zero ?_)
            intro gx wx hgx hkx hbx
            have HKx := kp hkx; have HGx := kp hgx; have HBx := kp hbx
            clear hgx hkx hbx
            go_wp2
            exact made_post rfl rfl rfl HBx.out ⟨gx, rfl, HKx.out, by have := HGx.out; omega⟩
        case hend =>
          intro W hW; rintro _ rfl; rintro _ rfl; rintro _ rfl; rintro _ rfl; rintro _ rfl; rintro _ rfl; rintro _ ⟨q1, rfl, hmi, hcf1⟩; rintro _ ⟨gD, rfl, hkD, hgD⟩
          simp only [given, put_lit, List.set, List.drop]
          have HW := kp hW; have HMm := kp hmi; have HCf1 : Kept (q1.cf = runTo pg0 z1 (i + 1)) := kp (by rw [hcf1, HCf.out, runTo_succ pg0 z1 i x HX.out])
          have HStep := kp (show q1.cf = M.step pg0 q.cf x.1 x.2 from hcf1)
          have H171 := kp (good_17 (p := pg0) (q := q1) (by rw [HCf1.out]; exact HGd.out (i + 1)))
          have HG1 := kp (show M.Good pg0 q1.cf by rw [HCf1.out]; exact HGd.out (i + 1))
          have HGq := kp (show M.Good pg0 q.cf by rw [HCf.out]; exact HGd.out i)
          have hsW := hW.size
          have HKD := kp hkD; have HGD := kp hgD
          clear hW hmi hcf1 hkD hgD
          go_wp2_with (first
            | ((with_reducible show wpList _ _ _ (⟨none, _, _, _, _, _⟩ :: _) _ _); (refine wpList_store_blk rfl 31 (.tmp 10) (.tmp 60) rfl gD (pcC q1) rfl rfl _ _ HKD.out (by rw [H171.out]; exact conf_size) (by rw [H171.out]; rfl) (conf_ones q1) ?_); intro w7 hk7 hg7 hs7'
               have HKD7 := kp hk7; have HBr7 := kp (HW.out.grown hg7 hsW (fun k e => by cases e; exact HGD.out)); have hsr7 := HBr7.out.size
               have HM17 := kp (HMm.out.typed HKD.out hg7); have HO17 := kp HM17.out.ok
               have HB07 := kp (HB.out.trans (HBr7.out.mono hBs)); have hs07 := HB07.out.size
               have HOq7 := kp ((HOq.out.below HBr7.out).more hsr7)
               have HKC7 := kp (HKC.out.below HBr7.out hlC); have HKP7 := kp (HKP.out.below HBr7.out hlP)
               have hlC7 := HKC7.out.lt; have hlP7 := HKP7.out.lt; have hlD7 := hk7.lt
               have HNe : Kept (gC ≠ gD ∧ g1 ≠ gD) := kp ⟨by have := HGD.out; omega, by have := HGD.out; omega⟩
               clear hk7 hg7 hs7'))
          clear HW HMm HKD
          have HKW7 := kp (HKW4.out.below HBr7.out hlW4); have hlW7 := HKW7.out.lt
          have HMp7 := kp (HMp4.out.below HBr7.out (Nat.le_refl _))
          have HSt7 := kp (low_stacks HF.out HP.out.row.len HG1.out HO17.out)
          have h81 := most_8 HG1.out HO17.out
          try simp only [put_none_d]
          go_wp2
          apply region_list (.is (pcA q) :: (.plain w7.heap.size q.cf) :: .is (rcA p) :: .is (.bool true) :: .is (.bool false) :: [])
            [[], [(0, 61)], [], [(1, 62), (2, 63)], [(3, 64)]]
            [(0, 61), (1, 62), (2, 63), (3, 64), (4, 65)] (by kernel_rfl) (by kernel_rfl)
          case hob =>
            refine ⟨?o0, ?o1, ?o2, ?o3, ?o4, trivial⟩
            case o0 =>
              intro W hW; change wpList _ _ _ _ _ _
              go_must (refine wpList_load_blk rfl 31 (.tmp 5) rfl gC rfl _ (pcC q) _ (HKC7.out.below hW hlC7) Try.underlying31 rfl (by rw [H17.out]; exact conf_size) ?_)
              go_wp2; exact pure_post rfl rfl rfl
            case o1 =>
              intro W hW; rintro _ rfl; change wpList _ _ _ _ _ _
              have hsW := hW.size
              go_wp2_with fail
              refine (law_plain q W ((HOq7.out.below hW).more hsW) h8q HGq.out.owns HStq.out (good_8s HGq.out)).mono ?_
              rintro e w2 ⟨q', rfl, hm2, hcf2, _, _, hsl2, hb2⟩
              have HB2 := kp hb2; have HM2 := kp (hm2.lower hsW); have HC2 := kp hcf2; have HS2 := kp hsl2; clear hb2 hm2 hcf2 hsl2
              go_wp2
              exact made_post rfl rfl rfl HB2.out ⟨q', rfl, HM2.out, HC2.out, HS2.out⟩
            case o2 =>
              intro W hW; change wpList _ _ _ _ _ _
              go_must (refine wpList_load_blk rfl 40 (.tmp 8) rfl gW rfl _ (rcC p) _ (HKW7.out.below hW hlW7) Try.underlying40 rfl (by rw [HL18.out]; exact ref_size18) ?_)
              go_wp2; exact pure_post rfl rfl rfl
            case o3 =>
              intro W hW; rintro _ ⟨p1, rfl, hm1', hcp1, hsp1⟩; rintro _ rfl; change wpList _ _ _ _ _ _
              go_wp2_with fail
              refine (rs_same W.heap.size p1 p W hm1'.ok (HMp7.out.below hW (Nat.le_refl _)).ok (Nat.le_refl _) hsp1 HSlp.out (rc_own hcp1 HGq.out.owns) (rc_own HCfp.out HGq.out.owns) true ⟨fun _ => by rw [hcp1, HCfp.out], fun _ => rfl⟩).mono ?_
              rintro e w2 ⟨rfl, hb2⟩
              have HB2 := kp hb2; clear hb2
              go_wp2
              exact made_post rfl rfl rfl HB2.out rfl
            case o4 => intro W hW; rintro _ rfl; change wpList _ _ _ _ _ _; go_wp2; exact pure_post rfl rfl rfl
          case hend =>
            intro W hW; rintro _ rfl; rintro _ ⟨p1, rfl, hm1', hcp1, hsp1⟩; rintro _ rfl; rintro _ rfl; rintro _ rfl
            simp only [given, put_lit, List.set]
            obtain ⟨w8, rfl⟩ : ∃ y, y = W := ⟨_, rfl⟩
            have HB78 := kp hW; have hs78 := hW.size
            have HKC8 := kp (HKC7.out.below hW hlC7); have HKD8 := kp (HKD7.out.below hW hlD7)
            have hlC8 := HKC8.out.lt; have hlD8 := HKD8.out.lt
            have HOq8 := kp ((HOq7.out.below hW).more hs78); have HO18 := kp ((HO17.out.below hW).more hs78)
            have HSame : Kept (can = false → q1.cf = q.cf) := kp (fun h => by rw [HStep.out]; exact M.step_same (by rw [HCan.out]; exact h))
            clear hW hm1'
            go_upto_region 14 with fail
            go_cut [73] from 38 to 152 (fun v73 wx => v73 = .bool false ∧ Below w8.heap.size w8 wx)
            case first =>
              cases can
              · go_wp2_with (first
                  | ((with_reducible show wpList _ _ _ (⟨some 69, _, _, _, _, _⟩ :: _) _ _); go_must (refine wpList_load_blk_w rfl 31 (.tmp 5) rfl gC rfl _ (pcC q) _ HKC8.out Try.underlying31 rfl (by rw [H17.out]; exact conf_size) ?_))
                  | ((with_reducible show wpList _ _ _ (⟨some 70, _, _, _, _, _⟩ :: _) _ _); go_must (refine wpList_load_blk_w rfl 31 (.tmp 10) rfl gD rfl _ (pcC q1) _ HKD8.out Try.underlying31 rfl (by rw [H171.out]; exact conf_size) ?_))
                  | (go_at_call 26; go_must (refine (sem_same w8.heap.size q q1 w8 HOq8.out HO18.out (Nat.le_refl _) (good_8s HGq.out) (good_8s HG1.out) HGq.out.owns HG1.out.owns true ⟨fun _ => (HSame.out rfl).symm, fun _ => rfl⟩).mono ?_); rintro e w2 ⟨rfl, hb2⟩; have HB2 := kp hb2; clear hb2))
                go_meet
                exact ⟨rfl, HB2.out⟩
              · go_wp2
                go_meet
                exact ⟨rfl, Below.refl _ _⟩
            case rest =>
              obtain ⟨rfl, hW⟩ := hcut
              obtain ⟨w9, rfl⟩ : ∃ y, y = wc := ⟨_, rfl⟩
              have HB79 := kp (HB78.out.trans (hW.mono hs78)); have hs79 := HB79.out.size
              have HKD9 := kp (HKD7.out.below HB79.out hlD7); have HO19 := kp ((HO17.out.below HB79.out).more hs79)
              clear hW
              go_wp2_with (first
                | ((with_reducible show wpList _ _ _ (⟨some 74, _, _, _, _, _⟩ :: _) _ _); go_must (refine wpList_load_blk rfl 31 (.tmp 10) rfl gD rfl _ (pcC q1) _ HKD9.out Try.underlying31 rfl (by rw [H171.out]; exact conf_size) ?_))
                | (go_at_call 15; go_must (refine (law_plain q1 w9 HO19.out h81 HG1.out.owns HSt7.out (good_8s HG1.out)).mono ?_); rintro e w10 ⟨r, rfl, hmr, hcfr, _, _, hslr, hb10⟩
                   have HMr10 := kp hmr; have HCfr := kp hcfr; have HSlr := kp hslr; have HB10 := kp (HB79.out.trans (hb10.mono hs79)); have hs10 := HB10.out.size
                   have HL18r : Kept ((rcC r).length = 18) := kp (rc_len (rc_own hcfr HG1.out.owns))
                   clear hmr hcfr hslr hb10)
                | ((with_reducible show wpList _ _ _ (⟨some 11, _, _, _, _, _⟩ :: _) _ _); go_must (refine wpList_alloc_zero rfl 40 rfl _ ref_zero ?_); intro gN w11 hgN hk11 hw11; have HKN11 := kp hk11; have HGN := kp hgN; have HB11 := kp (HB10.out.trans (hw11.mono hs10)); have HB1011 := kp hw11; have hs11 := HB11.out.size; clear hk11 hw11 hgN)
                | ((with_reducible show wpList _ _ _ (⟨none, _, _, _, _, _⟩ :: _) _ _); (refine wpList_store_blk rfl 40 (.tmp 11) (.tmp 75) rfl gN (rcC r) rfl rfl _ _ HKN11.out (by rw [HL18r.out]; exact ref_size18) (by rw [HL18r.out]; rfl) (rc_ones _) ?_); intro w12 hk12 hg12 hs12'
                   have HKN := kp hk12; have hlN := hk12.lt; have HMr := kp (HMr10.out.far (grown_trans (grown_of_below HB1011.out _) hg12) (.inr HGN.out)); have HB12 := kp (HB11.out.grown hg12 hs11 (fun k e => by cases e; have := HGN.out; omega)); have hs12 := HB12.out.size
                   clear hk12 hg12 hs12'))
              have HKW12 := kp (HKW7.out.below HB12.out hlW7); have HMp12 := kp (HMp7.out.below HB12.out (Nat.le_refl _))
              have HKC12 := kp (HKC7.out.below HB12.out hlC7); have HKD12 := kp (HKD7.out.below HB12.out hlD7); have HKP12 := kp (HKP7.out.below HB12.out hlP7)
              have hlW12 := HKW12.out.lt; have hlC12 := HKC12.out.lt; have hlD12 := HKD12.out.lt; have hlP12 := HKP12.out.lt
              have HOq12 := kp ((HOq7.out.below HB12.out).more hs12); have HO112 := kp ((HO17.out.below HB12.out).more hs12); have HM112 := kp (HM17.out.below HB12.out (Nat.le_refl _))
              have HB012 := kp (HB07.out.trans (HB12.out.mono hs07)); have hs012 := HB012.out.size
              have HCx12 := kp (And.intro ((HB012.out.cell (p := ad.add (i * 2)) (by rw [add_block]; exact hadB)).trans HCx0.out.1) ((HB012.out.cell (p := ⟨(ad.add (i * 2)).block, (ad.add (i * 2)).off + 1, none⟩) (by rw [add_block]; exact hadB)).trans HCx0.out.2))
              have HLp : Kept (p.len = q.cf.ths.length) := kp (by rw [← HCfp.out]; exact HMp12.out.ok.len.symm)
              have HLr : Kept (r.len = q1.cf.ths.length) := kp (by rw [← HCfr.out]; exact HMr.out.ok.len.symm)
              have HLpr : Kept (p.len ≤ r.len) := kp (by rw [HLp.out, HLr.out, HStep.out]; exact M.step_len _ _ _ _)
              have hadw12 : ad.block < w12.heap.size := by omega
              clear HKN11 HB10 HB11 HB1011 HMr10 HB79 HKD9 HO19 HB78 HKC8 HKD8 HOq8 HO18 HKW7 HMp7 HKW4 HMp4
              try simp only [put_none_d]
              go_loopw [12] (fun v12 W2 => ∃ t : Nat, t ≤ p.len ∧ v12 = .int .i64 t ∧ Below w12.heap.size w12 W2) (fun v12 _ => p.len - (intOf v12).toNat)
              case atStart => exact ⟨0, by omega, rfl, Below.refl _ _⟩
              case round =>
                obtain ⟨wT, rfl⟩ : ∃ y, y = wr := ⟨_, rfl⟩
                obtain ⟨t, ht, rfl, hbT⟩ := hrel
                have HBT := kp hbT; have hsT := hbT.size
                have HKWT := kp (HKW12.out.below hbT hlW12); have HKNT := kp (HKN.out.below hbT hlN); have HKCT := kp (HKC12.out.below hbT hlC12); have HKDT := kp (HKD12.out.below hbT hlD12)
                have hlWT := HKWT.out.lt; have hlNT := HKNT.out.lt; have hlCT := HKCT.out.lt; have hlDT := HKDT.out.lt
                have HOqT := kp ((HOq12.out.below hbT).more hsT); have HO1T := kp ((HO112.out.below hbT).more hsT)
                have HOp := kp (HMp12.out.below hbT (Nat.le_refl _)).ok; have HOr := kp (HMr.out.below hbT (Nat.le_refl _)).ok
                have hcW := HKWT.out.cell 0
                have hpc := HOp.out.lc; have hrc := HOr.out.lc; have hpc2 := HOp.out.lc2; have hrc2 := HOr.out.lc2
                unfold maxLen at hpc hrc hpc2 hrc2
                obtain ⟨hpa, hpb⟩ := hpc; obtain ⟨hra, hrb⟩ := hrc; obtain ⟨hpa2, hpb2⟩ := hpc2; obtain ⟨hra2, hrb2⟩ := hrc2
                clear hbT
                by_cases htl : t < p.len
                · have htr : t < r.len := by have := HLpr.out; omega
                  have htq : t < q.len := by have := HLp.out; have := HOqT.out.len; omega
                  have htq1 : t < q1.len := by have := HLr.out; have := HO1T.out.len; omega
                  obtain ⟨aS, s, aL, sl, hpA, haS, hs_, hsok, hcs, hpA2, haL, hsl_, hths, hslen, hcsl⟩ := HOp.out.thread htl
                  obtain ⟨bS, s2, bL, sl2, hrA, hbS, hs2_, hs2ok, hcs2, hrA2, hbL, hsl2_, hths2, hs2len, hcsl2⟩ := HOr.out.thread htr
                  have HEp : Kept (rcC p = .slice (some aS) p.len p.cap :: .slice (some aL) p.len p.cap2 :: p.ow.map natV) := kp (by unfold rcC; rw [hpA, hpA2])
                  have HEr : Kept (rcC r = .slice (some bS) r.len r.cap :: .slice (some bL) r.len r.cap2 :: r.ow.map natV) := kp (by unfold rcC; rw [hrA, hrA2])
                  have hT0 := (HBT.out.cell (p := ad.add (i * 2)) (by rw [add_block]; exact hadw12)).trans HCx12.out.1
                  have HTn : Kept ((t : Int) ≠ x.1 → s2.stack = s.stack ∧ sl2 = sl) := kp (fun hne => by
                    have h1 := step_th_is (p := pg0) (c := q.cf) (way := x.2) (show t < q.cf.ths.length by have := HLp.out; omega) hne
                    rw [← HStep.out, ← HCfr.out, ← HCfp.out, hths, hths2] at h1
                    exact th_two h1)
                  have HHn : Kept ((t : Int) ≠ x.1 → M.heldTo q1.ow t 16 = M.heldTo q.ow t 16) := kp (fun hne => by
                    have h1 := M.step_held (p := pg0) (c := q.cf) (way := x.2) hne
                    rw [← HStep.out] at h1
                    exact h1)
                  have H8s := kp (HSlp.out sl (List.mem_of_getElem? hsl_)); have H8s2 := kp (HSlr.out sl2 (List.mem_of_getElem? hsl2_))
                  have HIt : Kept (I64 (t : Int)) := kp (by have := HOqT.out.cm; unfold I64; omega)
                  have HSok := kp hsok; have HS2ok := kp hs2ok; have HSl := kp hslen; have HSl2 := kp hs2len
                  have HCs := kp hcs; have HCs2 := kp hcs2; have HCsl := kp hcsl; have HCsl2 := kp hcsl2
                  have hsc := hsok.lc; have hsm := hsok.cm; have hsc2 := hs2ok.lc; have hsm2 := hs2ok.cm
                  unfold maxLen at hsm hsm2
                  rw [HEp.out, List.getElem?_cons_zero] at hcW
                  clear hpA hs_ hsok hcs hpA2 hsl_ hths hslen hcsl hrA hs2_ hs2ok hcs2 hrA2 hsl2_ hths2 hs2len hcsl2
                  by_cases hte : (t : Int) = x.1
                  · have hteb : ((t : Int) == x.1) = true := by rw [beq_iff_eq]; exact hte
                    clear hte
                    go_wp2
                    go_roundw
                    case rel => exact ⟨t + 1, by omega, by go_num, HBT.out⟩
                    case measure => simp [intOf]; omega
                  · have hteb : ((t : Int) == x.1) = false := by rw [beq_eq_false_iff_ne]; exact hte
                    obtain ⟨hst2, hsl2⟩ := HTn.out hte
                    subst hsl2
                    have HSt2 := kp hst2
                    obtain ⟨hh, hhe⟩ : ∃ hh, M.heldTo q.ow t 16 = hh := ⟨_, rfl⟩
                    have HHq : Kept (M.held q.cf (t : Int) = hh) := kp (by rw [held_in HOqT.out htq]; exact hhe)
                    have HHq1 : Kept (M.held q1.cf (t : Int) = hh) := kp (by rw [held_in HO1T.out htq1, HHn.out hte]; exact hhe)
                    have HLs : Kept (s2.len = s.len) := kp (by rw [← HSl2.out, ← HSl.out, hst2])
                    have HLa : Kept ((sl2.map (fun n : Nat => (n : Int))).length = 8) := kp (by rw [List.length_map]; exact H8s.out)
                    clear hte hhe hst2
                    go_wp2
                    clear hcW hT0 hteb
                    apply region_list (.is _ :: .is _ :: .is _ :: .is _ :: .is (.slice s.A s.len s.cap) :: .is _ :: .is _ :: .is _ :: .is _ :: .is _ :: .is (.slice s2.A s2.len s2.cap) :: .is _ :: .is (.bool false) :: .is (.bool false) :: .is _ :: .is _ :: .is _ :: .is _ :: .is (.agg (sl2.map natV).toArray) :: .is _ :: .is _ :: .is _ :: .is _ :: .is (.agg (sl2.map natV).toArray) :: .is (.bool false) :: .is (.bool false) :: .is (.bool false) :: .is (pcA q) :: .is _ :: .is (.int .u32 (hh : Int)) :: .is (pcA q1) :: .is _ :: .is (.int .u32 (hh : Int)) :: .is (.bool false) :: .is (.bool false) :: [])
                      [[], [(0, 90)], [], [(1, 91), (2, 92)], [(3, 93)], [(4, 94)], [], [(6, 96)], [], [(7, 97), (8, 98)], [(9, 99)], [(10, 100)], [(5, 95), (11, 101)], [(12, 102)], [(13, 103)], [(14, 104), (13, 103)], [(13, 103)], [(15, 105), (16, 106), (13, 103)], [(17, 107), (13, 103)], [(13, 103)], [(19, 109), (13, 103)], [(13, 103)], [(20, 110), (21, 111), (13, 103)], [(22, 112), (13, 103)], [(18, 108), (23, 113), (13, 103)], [(13, 103), (24, 114)], [(25, 115)], [(26, 116)], [(26, 116)], [(27, 117), (28, 118), (26, 116)], [(26, 116)], [(26, 116)], [(30, 120), (31, 121), (26, 116)], [(29, 119), (32, 122), (26, 116)], [(26, 116), (33, 123)]]
                      [(0, 90), (1, 91), (2, 92), (3, 93), (4, 94), (5, 95), (6, 96), (7, 97), (8, 98), (9, 99), (10, 100), (11, 101), (12, 102), (13, 103), (14, 104), (15, 105), (16, 106), (17, 107), (18, 108), (19, 109), (20, 110), (21, 111), (22, 112), (23, 113), (24, 114), (25, 115), (26, 116), (27, 117), (28, 118), (29, 119), (30, 120), (31, 121), (32, 122), (33, 123), (34, 124)] (by kernel_rfl) (by kernel_rfl)
                    case hob =>
                      refine ⟨?o0, ?o1, ?o2, ?o3, ?o4, ?o5, ?o6, ?o7, ?o8, ?o9, ?o10, ?o11, ?o12, ?o13, ?o14, ?o15, ?o16, ?o17, ?o18, ?o19, ?o20, ?o21, ?o22, ?o23, ?o24, ?o25, ?o26, ?o27, ?o28, ?o29, ?o30, ?o31, ?o32, ?o33, ?o34, trivial⟩
                      case o0 => intro W hW; change wpList _ _ _ _ _ _; go_wp2; exact pure_post rfl rfl rfl
                      case o1 =>
                        intro W hW; rintro _ rfl; change wpList _ _ _ _ _ _
                        have hc := (HKWT.out.below hW hlWT).cell 0
                        rw [HEp.out] at hc
                        simp only [List.getElem?_cons_zero] at hc
                        go_wp2; exact pure_post rfl rfl rfl
                      case o2 => intro W hW; change wpList _ _ _ _ _ _; go_wp2; exact pure_post rfl rfl rfl
                      case o3 => intro W hW; rintro _ rfl; rintro _ rfl; change wpList _ _ _ _ _ _; go_wp2; exact pure_post rfl rfl rfl
                      case o4 =>
                        intro W hW; rintro _ rfl; change wpList _ _ _ _ _ _
                        have hc := (hW.cell (p := aS.add t) (by rw [add_block]; exact haS)).trans HCs.out
                        go_wp2; exact pure_post rfl rfl rfl
                      case o5 => intro W hW; rintro _ rfl; change wpList _ _ _ _ _ _; go_wp2; exact pure_post rfl rfl rfl
                      case o6 => intro W hW; change wpList _ _ _ _ _ _; go_wp2; exact pure_post rfl rfl rfl
                      case o7 =>
                        intro W hW; rintro _ rfl; change wpList _ _ _ _ _ _
                        have hc := (HKNT.out.below hW hlNT).cell 0
                        rw [HEr.out] at hc
                        simp only [List.getElem?_cons_zero] at hc
                        go_wp2; exact pure_post rfl rfl rfl
                      case o8 => intro W hW; change wpList _ _ _ _ _ _; go_wp2; exact pure_post rfl rfl rfl
                      case o9 => intro W hW; rintro _ rfl; rintro _ rfl; change wpList _ _ _ _ _ _; go_wp2; exact pure_post rfl rfl rfl
                      case o10 =>
                        intro W hW; rintro _ rfl; change wpList _ _ _ _ _ _
                        have hc := (hW.cell (p := bS.add t) (by rw [add_block]; exact hbS)).trans HCs2.out
                        go_wp2; exact pure_post rfl rfl rfl
                      case o11 => intro W hW; rintro _ rfl; change wpList _ _ _ _ _ _; go_wp2; exact pure_post rfl rfl rfl
                      case o12 =>
                        intro W hW; rintro _ rfl; rintro _ rfl; change wpList _ _ _ _ _ _
                        have hn : (((s.len : Nat) : Int) != ((s2.len : Nat) : Int)) = false := by rw [HLs.out]; simp
                        go_wp2; exact pure_post rfl rfl rfl
                      case o13 => intro W hW; rintro _ rfl; change wpList _ _ _ _ _ _; go_wp2; exact pure_post rfl rfl rfl
                      case o14 => intro W hW; rintro _ rfl; change wpList _ _ _ _ _ _; go_wp2; exact pure_post rfl rfl rfl
                      case o15 =>
                        intro W hW; rintro _ rfl; rintro _ rfl; change wpList _ _ _ _ _ _
                        have hc := (HKWT.out.below hW hlWT).cell 1
                        rw [HEp.out] at hc
                        simp only [List.getElem?_cons_zero, List.getElem?_cons_succ] at hc
                        go_wp2; exact pure_post rfl rfl rfl
                      case o16 => intro W hW; rintro _ rfl; change wpList _ _ _ _ _ _; go_wp2; exact pure_post rfl rfl rfl
                      case o17 => intro W hW; rintro _ rfl; rintro _ rfl; rintro _ rfl; change wpList _ _ _ _ _ _; go_wp2; exact pure_post rfl rfl rfl
                      case o18 =>
                        intro W hW; rintro _ rfl; rintro _ rfl; change wpList _ _ _ _ _ _
                        have hh8 := lift_cells (B := wT.heap.size) hW (by rw [add_block]; exact haL) (sl_cells H8s.out HCsl.out)
                        go_must (refine wpList_load_at_w rfl 61 (.tmp 107) rfl (aL.add (t * 8)) rfl (sl2.map natV) _ hh8 Try.underlying61 rfl (by rw [List.length_map, H8s.out]; exact slots_size) ?_)
                        clear hh8
                        go_wp2; exact pure_post rfl rfl rfl
                      case o19 => intro W hW; rintro _ rfl; change wpList _ _ _ _ _ _; go_wp2; exact pure_post rfl rfl rfl
                      case o20 =>
                        intro W hW; rintro _ rfl; rintro _ rfl; change wpList _ _ _ _ _ _
                        have hc := (HKNT.out.below hW hlNT).cell 1
                        rw [HEr.out] at hc
                        simp only [List.getElem?_cons_zero, List.getElem?_cons_succ] at hc
                        go_wp2; exact pure_post rfl rfl rfl
                      case o21 => intro W hW; rintro _ rfl; change wpList _ _ _ _ _ _; go_wp2; exact pure_post rfl rfl rfl
                      case o22 => intro W hW; rintro _ rfl; rintro _ rfl; rintro _ rfl; change wpList _ _ _ _ _ _; go_wp2; exact pure_post rfl rfl rfl
                      case o23 =>
                        intro W hW; rintro _ rfl; rintro _ rfl; change wpList _ _ _ _ _ _
                        have hh8 := lift_cells (B := wT.heap.size) hW (by rw [add_block]; exact hbL) (sl_cells H8s.out HCsl2.out)
                        go_must (refine wpList_load_at_w rfl 61 (.tmp 112) rfl (bL.add (t * 8)) rfl (sl2.map natV) _ hh8 Try.underlying61 rfl (by rw [List.length_map, H8s.out]; exact slots_size) ?_)
                        clear hh8
                        go_wp2; exact pure_post rfl rfl rfl
                      case o24 =>
                        intro W hW; rintro _ rfl; rintro _ rfl; rintro _ rfl; change wpList _ _ _ _ _ _
                        go_must (refine wpList_neq_arr2 rfl 61 _ (.tmp 108) (.tmp 113) rfl 8 3 .i64 .i64 Try.underlying61 Try.underlying3 size1i slots_eqg _ _ HLa.out HLa.out (by rw [← map_ints]; rfl) (by rw [← map_ints]; rfl) false (by simp) ?_)
                        go_wp2; exact pure_post rfl rfl rfl
                      case o25 => intro W hW; rintro _ rfl; rintro _ rfl; change wpList _ _ _ _ _ _; go_wp2; exact pure_post rfl rfl rfl
                      case o26 => intro W hW; rintro _ rfl; change wpList _ _ _ _ _ _; go_wp2; exact pure_post rfl rfl rfl
                      case o27 =>
                        intro W hW; rintro _ rfl; change wpList _ _ _ _ _ _
                        go_must (refine wpList_load_blk_w rfl 31 (.tmp 5) rfl gC rfl _ (pcC q) _ (HKCT.out.below hW hlCT) Try.underlying31 rfl (by rw [H17.out]; exact conf_size) ?_)
                        go_wp2; exact pure_post rfl rfl rfl
                      case o28 => intro W hW; rintro _ rfl; change wpList _ _ _ _ _ _; go_wp2; exact pure_post rfl rfl rfl
                      case o29 =>
                        intro W hW; rintro _ rfl; rintro _ rfl; rintro _ rfl; change wpList _ _ _ _ _ _
                        have hsW := hW.size
                        go_wp2_with fail
                        refine (sem_held q W ((HOqT.out.below hW).more hsW).row.len h8q HGq.out.owns (own_8 HGq.out) (t : Int) HIt.out hh HHq.out).mono ?_
                        rintro e w2 ⟨rfl, hb2⟩
                        have HB2 := kp hb2; clear hb2
                        go_wp2
                        exact made_post rfl rfl rfl HB2.out rfl
                      case o30 =>
                        intro W hW; rintro _ rfl; change wpList _ _ _ _ _ _
                        go_must (refine wpList_load_blk_w rfl 31 (.tmp 10) rfl gD rfl _ (pcC q1) _ (HKDT.out.below hW hlDT) Try.underlying31 rfl (by rw [H171.out]; exact conf_size) ?_)
                        go_wp2; exact pure_post rfl rfl rfl
                      case o31 => intro W hW; rintro _ rfl; change wpList _ _ _ _ _ _; go_wp2; exact pure_post rfl rfl rfl
                      case o32 =>
                        intro W hW; rintro _ rfl; rintro _ rfl; rintro _ rfl; change wpList _ _ _ _ _ _
                        have hsW := hW.size
                        go_wp2_with fail
                        refine (sem_held q1 W ((HO1T.out.below hW).more hsW).row.len h81 HG1.out.owns (own_8 HG1.out) (t : Int) HIt.out hh HHq1.out).mono ?_
                        rintro e w2 ⟨rfl, hb2⟩
                        have HB2 := kp hb2; clear hb2
                        go_wp2
                        exact made_post rfl rfl rfl HB2.out rfl
                      case o33 =>
                        intro W hW; rintro _ rfl; rintro _ rfl; rintro _ rfl; change wpList _ _ _ _ _ _
                        have hn : (((hh : Nat) : Int) != ((hh : Nat) : Int)) = false := by simp
                        go_wp2; exact pure_post rfl rfl rfl
                      case o34 => intro W hW; rintro _ rfl; rintro _ rfl; change wpList _ _ _ _ _ _; go_wp2; exact pure_post rfl rfl rfl
                    case hend =>
                      intro W hW; rintro _ rfl; rintro _ rfl; rintro _ rfl; rintro _ rfl; rintro _ rfl; rintro _ rfl; rintro _ rfl; rintro _ rfl; rintro _ rfl; rintro _ rfl; rintro _ rfl; rintro _ rfl; rintro _ rfl; rintro _ rfl; rintro _ rfl; rintro _ rfl; rintro _ rfl; rintro _ rfl; rintro _ rfl; rintro _ rfl; rintro _ rfl; rintro _ rfl; rintro _ rfl; rintro _ rfl; rintro _ rfl; rintro _ rfl; rintro _ rfl; rintro _ rfl; rintro _ rfl; rintro _ rfl; rintro _ rfl; rintro _ rfl; rintro _ rfl; rintro _ rfl; rintro _ rfl
                      simp only [given, put_lit, List.set]
                      have HBK0 := kp (HBT.out.trans (hW.mono hsT)); have hsK0 := HBK0.out.size
                      have HBW := kp hW; have hsW := hW.size
                      obtain ⟨wK, rfl⟩ : ∃ y, y = W := ⟨_, rfl⟩
                      have hcW := (HKWT.out.below hW hlWT).cell 0
                      rw [HEp.out, List.getElem?_cons_zero] at hcW
                      clear hW
                      go_wp2
                      clear hcW
                      go_loopw [13] (fun v13 W2 => ∃ k : Nat, k ≤ s.len ∧ v13 = .int .i64 k ∧ Below wK.heap.size wK W2) (fun v13 _ => s.len - (intOf v13).toNat)
                      case atStart => exact ⟨0, by omega, rfl, Below.refl _ _⟩
                      case round =>
                        obtain ⟨k, hk, rfl, hbk⟩ := hrel
                        have HBk := kp hbk; have hsk := hbk.size
                        have HBTk := kp (HBW.out.trans (hbk.mono hsW)); have hsTk := HBTk.out.size
                        have hcW := (HKWT.out.below HBTk.out hlWT).cell 0
                        have hcN := (HKNT.out.below HBTk.out hlNT).cell 0
                        rw [HEp.out, List.getElem?_cons_zero] at hcW
                        rw [HEr.out, List.getElem?_cons_zero] at hcN
                        have hcS := (HBTk.out.cell (p := aS.add t) (by rw [add_block]; exact haS)).trans HCs.out
                        have hcS2 := (HBTk.out.cell (p := bS.add t) (by rw [add_block]; exact hbS)).trans HCs2.out
                        rw [HLs.out] at hcS2
                        clear hbk
                        by_cases hkl : k < s.len
                        · obtain ⟨ax, f, eA, hax, hfx, f0, f1⟩ := HSok.out.row.field hkl
                          obtain ⟨ay, f2, eA2, hay, hfy, g0, g1'⟩ := HS2ok.out.row.field (show k < s2.len by rw [HLs.out]; exact hkl)
                          have hff : f2 = f := by rw [HSt2.out, hfx] at hfy; exact (Option.some.inj hfy).symm
                          subst hff
                          obtain ⟨a1, a2⟩ := f2
                          have hx0 : wr.cell? (ax.add (k * 2)) = some (.int .i64 (a1 : Int)) := (HBTk.out.cell (by rw [add_block]; exact hax)).trans (f0 (by omega))
                          have hx1 : wr.cell? ⟨(ax.add (k * 2)).block, (ax.add (k * 2)).off + 1, none⟩ = some (.int .i64 (a2 : Int)) := (HBTk.out.cell (by rw [add_block]; exact hax)).trans (f1 1 (by omega) (by omega))
                          have hy0 : wr.cell? (ay.add (k * 2)) = some (.int .i64 (a1 : Int)) := (HBTk.out.cell (by rw [add_block]; exact hay)).trans (g0 (by omega))
                          have hy1 : wr.cell? ⟨(ay.add (k * 2)).block, (ay.add (k * 2)).off + 1, none⟩ = some (.int .i64 (a2 : Int)) := (HBTk.out.cell (by rw [add_block]; exact hay)).trans (g1' 1 (by omega) (by omega))
                          rw [eA] at hcS
                          rw [eA2] at hcS2
                          have hs2c : s.len ≤ s2.cap := by have := HLs.out; omega
                          clear f0 f1 g0 g1' hfx hfy eA eA2
                          go_wp2
                          go_quiet (fail)
                          obtain ⟨w9, hw9⟩ : ∃ y, wr.drewN nq = y := ⟨_, rfl⟩
                          have HBk9 : Kept (Below wK.heap.size wK w9) := kp (by rw [← hw9]; exact below_drewN HBk.out _)
                          rw [hw9]
                          clear hw9 hcW hcN hcS hcS2 hx0 hx1 hy0 hy1
                          go_wp2
                          go_roundw
                          case rel => exact ⟨k + 1, by omega, by go_num, HBk9.out⟩
                          case measure => simp [intOf]; omega
                        · have hge3 : s.len ≤ k := by omega
                          have HBe := kp (HBK0.out.trans (HBk.out.mono hsK0))
                          go_wp2
                          go_roundw
                          case rel => exact ⟨t + 1, by omega, by go_num, HBe.out⟩
                          case measure => simp [intOf]; omega
                · have hge2 : p.len ≤ t := by omega
                  replace hcW : wT.cell? ⟨gW, 0, none⟩ = some (.slice p.A p.len p.cap) := hcW
                  have HMz := kp (HM112.out.below HBT.out (Nat.le_refl _))
                  have HBz := kp (HB012.out.trans (HBT.out.mono hs012)); have hsz := HBz.out.size
                  have HKPz := kp (HKP12.out.below HBT.out hlP12)
                  go_wp2_with (first
                    | ((with_reducible show wpList _ _ _ (⟨some 152, _, _, _, _, _⟩ :: _) _ _); go_must (refine wpList_load_blk rfl 31 (.tmp 10) rfl gD rfl _ (pcC q1) _ HKDT.out Try.underlying31 rfl (by rw [H171.out]; exact conf_size) ?_))
                    | ((with_reducible show wpList _ _ _ (⟨none, _, _, _, _, _⟩ :: _) _ _); (refine wpList_store_blk rfl 31 (.tmp 5) (.tmp 152) rfl gC (pcC q1) rfl rfl _ _ HKCT.out (by rw [H171.out]; exact conf_size) (by rw [H171.out, H17.out]) (conf_ones q1) ?_); intro wz hkz hgz hsz2
                       have HKZ := kp hkz; have HOz := kp (HMz.out.typed HKCT.out hgz).ok; have HBZ := kp (HBz.out.grown hgz hsz (fun k e => by cases e; exact HGw.out.2.1))
                       have HKPZ := kp (HKPz.out.grown hgz (fun e => by cases e; exact HGw.out.2.2 rfl))
                       clear hkz hgz hsz2))
                  go_roundw
                  case rel => exact ⟨i + 1, q1, by omega, by go_num, HOz.out, HCf1.out, HKZ.out, HKPZ.out, HBZ.out⟩
                  case measure => simp [intOf]; omega
    · have hge : len1 ≤ i := by omega
      go_wp2
      go_ret
      exact ⟨rfl, HB.out⟩
end Go.Proofs.Ytkblgafackmckaa
