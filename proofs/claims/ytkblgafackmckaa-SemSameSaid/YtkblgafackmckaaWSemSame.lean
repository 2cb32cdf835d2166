/- SemSame, walked. -/
import Derived.Test.YtkblgafackmckaaPq24
import Derived.Test.YtkblgafackmckaaSemTwo
namespace Go.Proofs.Ytkblgafackmckaa
open Go.RowKit

set_option maxRecDepth 1000000 in
set_option maxHeartbeats 8000000 in
theorem walkSemSame (pg0 : Pg) (a1 : Option Addr) (len1 cap1 : Nat) (z1 : List (Int × Bool)) (a2 : Option Addr) (len2 cap2 : Nat) (z2 : List (Int × Bool)) (w : World) (w0 : pg0.Ok w w.heap.size) (w1 : Picks w w.heap.size a1 len1 z1) (c1 : len1 ≤ cap1 ∧ cap1 ≤ maxLen) (w2 : Picks w w.heap.size a2 len2 z2) (c2 : len2 ≤ cap2 ∧ cap2 ≤ maxLen) :
    Calls Try.prog 6 #[pgA pg0, .slice a1 len1 cap1, .slice a2 len2 cap2] w fun e w' => e = .returned (.bool true) ∧ Below w.heap.size w w' := by
  have HP := kp w0
  have HPi := kp w1
  have hc1 := c1.1; have hm1 := c1.2
  unfold maxLen at hm1
  obtain ⟨r, hr⟩ : ∃ r, Q.small pg0 = r := ⟨_, rfl⟩
  have HR := kp hr
  clear hr w0 w1 c1
  have HPi2 := kp w2
  have hc2' := c2.1; have hm2 := c2.2
  unfold maxLen at hm2
  clear w2 c2
  rw [pgA_is]
  cases r
  · go_enter Try.func6, Try.ntmps6
    go_wp2_with (first
      | ((with_reducible refine wpList_box_agg rfl 24 (.tmp 0) rfl (pgC pg0) rfl ?_); intro g1 u1 hg1 hk1 hu1; have HK1 := kp hk1; have HG1 := kp hg1; have HU1 := kp hu1; have hz1 := hu1.size; clear hg1 hk1 hu1))
    refine (sem_awake u1).mono ?_
    rintro e u2 ⟨rfl, hb2⟩
    have HU2 : Kept (Below w.heap.size w u2) := kp (HU1.out.trans (hb2.mono hz1))
    have hs2 := HU2.out.size
    have HP2 := kp (HP.out.below HU2.out)
    have HK2 := kp (HK1.out.below hb2 HK1.out.lt)
    obtain ⟨hc0, hc1', hc2, hc3⟩ := pg_cells HK2.out
    clear hb2
    go_wp2_with fail
    refine (ref_small _ pg0 u2 HP2.out hs2 _ HR.out).mono ?_
    rintro e u3 ⟨rfl, hb3⟩
    have HU3 : Kept (Below w.heap.size w u3) := kp (HU2.out.trans (hb3.mono hs2))
    have hs3 := HU3.out.size
    have HP3 := kp (HP.out.below HU3.out)
    have HK3 := kp (HK2.out.below hb3 HK2.out.lt)
    clear hb3 hc0 hc1' hc2 hc3
    obtain ⟨hc0, hc1', hc2, hc3⟩ := pg_cells HK3.out
    go_wp2_with fail
    refine (sem_awake u3).mono ?_
    rintro e u4 ⟨rfl, hb4⟩
    have HU4 := kp (HU3.out.trans (hb4.mono hs3))
    clear hb4
    go_wp2
    go_ret
    exact ⟨rfl, HU4.out⟩
  by_cases hbig : 300 < len1
  · go_enter Try.func6, Try.ntmps6
    go_wp2_with (first
      | ((with_reducible refine wpList_box_agg rfl 24 (.tmp 0) rfl (pgC pg0) rfl ?_); intro g1 u1 hg1 hk1 hu1; have HK1 := kp hk1; have HG1 := kp hg1; have HU1 := kp hu1; have hz1 := hu1.size; clear hg1 hk1 hu1))
    refine (sem_awake u1).mono ?_
    rintro e u2 ⟨rfl, hb2⟩
    have HU2 : Kept (Below w.heap.size w u2) := kp (HU1.out.trans (hb2.mono hz1))
    have hs2 := HU2.out.size
    have HP2 := kp (HP.out.below HU2.out)
    have HK2 := kp (HK1.out.below hb2 HK1.out.lt)
    obtain ⟨hc0, hc1', hc2, hc3⟩ := pg_cells HK2.out
    clear hb2
    go_wp2_with fail
    refine (ref_small _ pg0 u2 HP2.out hs2 _ HR.out).mono ?_
    rintro e u3 ⟨rfl, hb3⟩
    have HU3 : Kept (Below w.heap.size w u3) := kp (HU2.out.trans (hb3.mono hs2))
    have hs3 := HU3.out.size
    have HP3 := kp (HP.out.below HU3.out)
    have HK3 := kp (HK2.out.below hb3 HK2.out.lt)
    clear hb3 hc0 hc1' hc2 hc3
    obtain ⟨hc0, hc1', hc2, hc3⟩ := pg_cells HK3.out
    go_wp2_with fail
    refine (sem_awake u3).mono ?_
    rintro e u4 ⟨rfl, hb4⟩
    have HU4 := kp (HU3.out.trans (hb4.mono hs3))
    clear hb4
    go_wp2
    go_ret
    exact ⟨rfl, HU4.out⟩
  have HN3 := kp hbig
  by_cases hbig2 : 300 < len2
  · go_enter Try.func6, Try.ntmps6
    go_wp2_with (first
      | ((with_reducible refine wpList_box_agg rfl 24 (.tmp 0) rfl (pgC pg0) rfl ?_); intro g1 u1 hg1 hk1 hu1; have HK1 := kp hk1; have HG1 := kp hg1; have HU1 := kp hu1; have hz1 := hu1.size; clear hg1 hk1 hu1))
    refine (sem_awake u1).mono ?_
    rintro e u2 ⟨rfl, hb2⟩
    have HU2 : Kept (Below w.heap.size w u2) := kp (HU1.out.trans (hb2.mono hz1))
    have hs2 := HU2.out.size
    have HP2 := kp (HP.out.below HU2.out)
    have HK2 := kp (HK1.out.below hb2 HK1.out.lt)
    obtain ⟨hc0, hc1', hc2, hc3⟩ := pg_cells HK2.out
    clear hb2
    go_wp2_with fail
    refine (ref_small _ pg0 u2 HP2.out hs2 _ HR.out).mono ?_
    rintro e u3 ⟨rfl, hb3⟩
    have HU3 : Kept (Below w.heap.size w u3) := kp (HU2.out.trans (hb3.mono hs2))
    have hs3 := HU3.out.size
    have HP3 := kp (HP.out.below HU3.out)
    have HK3 := kp (HK2.out.below hb3 HK2.out.lt)
    clear hb3 hc0 hc1' hc2 hc3
    obtain ⟨hc0, hc1', hc2, hc3⟩ := pg_cells HK3.out
    go_wp2_with fail
    refine (sem_awake u3).mono ?_
    rintro e u4 ⟨rfl, hb4⟩
    have HU4 := kp (HU3.out.trans (hb4.mono hs3))
    clear hb4
    go_wp2
    go_ret
    exact ⟨rfl, HU4.out⟩
  have HN4 := kp hbig2
  go_enter Try.func6, Try.ntmps6
  go_wp2_with (first
    | ((with_reducible refine wpList_box_agg rfl 24 (.tmp 0) rfl (pgC pg0) rfl ?_); intro g1 u1 hg1 hk1 hu1; have HK1 := kp hk1; have HG1 := kp hg1; have HU1 := kp hu1; have hz1 := hu1.size; clear hg1 hk1 hu1))
  refine (sem_awake u1).mono ?_
  rintro e u2 ⟨rfl, hb2⟩
  have HU2 : Kept (Below w.heap.size w u2) := kp (HU1.out.trans (hb2.mono hz1))
  have hs2 := HU2.out.size
  have HP2 := kp (HP.out.below HU2.out)
  have HK2 := kp (HK1.out.below hb2 HK1.out.lt)
  obtain ⟨hc0, hc1', hc2, hc3⟩ := pg_cells HK2.out
  clear hb2
  go_wp2_with fail
  refine (ref_small _ pg0 u2 HP2.out hs2 _ HR.out).mono ?_
  rintro e u3 ⟨rfl, hb3⟩
  have HU3 : Kept (Below w.heap.size w u3) := kp (HU2.out.trans (hb3.mono hs2))
  have hs3 := HU3.out.size
  have HP3 := kp (HP.out.below HU3.out)
  have HK3 := kp (HK2.out.below hb3 HK2.out.lt)
  clear hb3 hc0 hc1' hc2 hc3
  obtain ⟨hc0, hc1', hc2, hc3⟩ := pg_cells HK3.out
  obtain ⟨ca, cb, cc, hcc⟩ : ∃ a b c, Q.check pg0 = (a, b, c) := ⟨_, _, _, rfl⟩
  have HC := kp hcc
  clear hcc
  by_cases hz : cc = 0
  case neg =>
    have HZ := kp hz
    have hb0 : ((cc : Int) != 0) = true := by simpa using hz
    clear hz
    go_wp2_with (first
      | (go_at_call 11; go_must (refine (sem_start _ pg0 u3 HP3.out hs3 ca cb cc HC.out).mono ?_); rintro e u4 ⟨q0, rfl, hok, hcf, hl0, h16, hb4⟩
         have HOk0 := kp hok; have HCf0 := kp hcf; have HL0 := kp hl0; have H17 := kp (conf_len h16); have HU4 := kp (HU3.out.trans (hb4.mono hs3)); have HK4 := kp (HK3.out.below hb4 HK3.out.lt); have hs4 := HU4.out.size; have hlk4 := HK4.out.lt
         clear hok hcf hl0 h16 hb4 hc0 hc1' hc2 hc3)
      | ((with_reducible show wpList _ _ _ (⟨some 7, _, _, _, _, _⟩ :: _) _ _); go_must (refine wpList_alloc_zero rfl 31 rfl _ conf_zero ?_); intro gC u5 hgC hk5 hu5; have HKc := kp hk5; have HGC := kp hgC; have HU5 := kp (HU4.out.trans (hu5.mono hs4)); have HM5 := kp hu5; have HK5 := kp (HK4.out.below hu5 hlk4); have hs5 := HU5.out.size; have hs45 := hu5.size; have hlC := hk5.lt; clear hk5 hu5 hgC)
      | ((with_reducible show wpList _ _ _ (⟨none, _, _, _, _, _⟩ :: _) _ _); (refine wpList_store_blk rfl 31 (.tmp 7) (.tmp 33) rfl gC (pcC q0) rfl rfl _ _ HKc.out (by rw [H17.out]; exact conf_size) (by rw [H17.out]; rfl) (conf_ones q0) ?_); intro u6 hk6 hg6 hs6'
         have HK26 := kp hk6; have HU6 := kp (HU5.out.grown hg6 hs5 (fun k e => by cases e; have := HGC.out; omega)); have HM6 := kp (HM5.out.grown hg6 hs45 (fun k e => by cases e; have := HGC.out; omega)); have hs6 := HU6.out.size; have hs46 := HM6.out.size
         have HK16 := kp (HK5.out.grown hg6 (fun e => by cases e; have := HGC.out; omega)); have HO6 := kp ((HOk0.out.below HM6.out).more hs46)
         have HGw : Kept (w.heap.size ≤ g1 ∧ w.heap.size ≤ gC ∧ g1 ≠ gC) := kp ⟨by have := HG1.out; omega, by have := HGC.out; omega, by have := HGC.out; omega⟩
         have hcL : u6.cell? ⟨gC, 0, none⟩ = some (.slice q0.A 0 q0.cap) := by have h := conf_cell HK26.out; rwa [HL0.out HZ.out] at h
         clear hk6 hg6 hs6'))
    go_ret
    exact ⟨rfl, HU6.out⟩
  have HZ := kp hz
  have HZ0 : Kept ((cc : Int) = 0) := kp (by omega)
  have hb0 : ((cc : Int) != 0) = false := by rw [HZ0.out]; rfl
  clear hz
  go_wp2_with (first
    | (go_at_call 11; go_must (refine (sem_start _ pg0 u3 HP3.out hs3 ca cb cc HC.out).mono ?_); rintro e u4 ⟨q0, rfl, hok, hcf, hl0, h16, hb4⟩
       have HOk0 := kp hok; have HCf0 := kp hcf; have HL0 := kp hl0; have H17 := kp (conf_len h16); have HU4 := kp (HU3.out.trans (hb4.mono hs3)); have HK4 := kp (HK3.out.below hb4 HK3.out.lt); have hs4 := HU4.out.size; have hlk4 := HK4.out.lt
       clear hok hcf hl0 h16 hb4 hc0 hc1' hc2 hc3)
    | ((with_reducible show wpList _ _ _ (⟨some 7, _, _, _, _, _⟩ :: _) _ _); go_must (refine wpList_alloc_zero rfl 31 rfl _ conf_zero ?_); intro gC u5 hgC hk5 hu5; have HKc := kp hk5; have HGC := kp hgC; have HU5 := kp (HU4.out.trans (hu5.mono hs4)); have HM5 := kp hu5; have HK5 := kp (HK4.out.below hu5 hlk4); have hs5 := HU5.out.size; have hs45 := hu5.size; have hlC := hk5.lt; clear hk5 hu5 hgC)
    | ((with_reducible show wpList _ _ _ (⟨none, _, _, _, _, _⟩ :: _) _ _); (refine wpList_store_blk rfl 31 (.tmp 7) (.tmp 33) rfl gC (pcC q0) rfl rfl _ _ HKc.out (by rw [H17.out]; exact conf_size) (by rw [H17.out]; rfl) (conf_ones q0) ?_); intro u6 hk6 hg6 hs6'
       have HK26 := kp hk6; have HU6 := kp (HU5.out.grown hg6 hs5 (fun k e => by cases e; have := HGC.out; omega)); have HM6 := kp (HM5.out.grown hg6 hs45 (fun k e => by cases e; have := HGC.out; omega)); have hs6 := HU6.out.size; have hs46 := HM6.out.size
       have HK16 := kp (HK5.out.grown hg6 (fun e => by cases e; have := HGC.out; omega)); have HO6 := kp ((HOk0.out.below HM6.out).more hs46)
       have HGw : Kept (w.heap.size ≤ g1 ∧ w.heap.size ≤ gC ∧ g1 ≠ gC) := kp ⟨by have := HG1.out; omega, by have := HGC.out; omega, by have := HGC.out; omega⟩
       clear hk6 hg6 hs6')
    | ((with_reducible show wpList _ _ _ (⟨some 41, _, _, _, _, _⟩ :: _) _ _); go_must (refine wpList_load_blk rfl 31 (.tmp 7) rfl gC rfl _ (pcC q0) _ HK26.out Try.underlying31 rfl (by rw [H17.out]; exact conf_size) ?_))
    | ((with_reducible show wpList _ _ _ (⟨some 9, _, _, _, _, _⟩ :: _) _ _); go_must (refine wpList_alloc_zero rfl 31 rfl _ conf_zero ?_); intro gD u7 hgD hk7 hu7; have HKd := kp hk7; have HGD := kp hgD; have HU7 := kp (HU6.out.trans (hu7.mono hs6)); have HM7 := kp (HM6.out.trans (hu7.mono hs46)); have HK27 := kp (HK26.out.below hu7 HK26.out.lt); have HK17 := kp (HK16.out.below hu7 HK16.out.lt); have hs7 := HU7.out.size; have hs47 := HM7.out.size; have hlD := hk7.lt; clear hk7 hu7 hgD)
    | ((with_reducible show wpList _ _ _ (⟨none, _, _, _, _, _⟩ :: _) _ _); (refine wpList_store_blk rfl 31 (.tmp 9) (.tmp 41) rfl gD (pcC q0) rfl rfl _ _ HKd.out (by rw [H17.out]; exact conf_size) (by rw [H17.out]; rfl) (conf_ones q0) ?_); intro u8 hk8 hg8 hs8'
       have HK38 := kp hk8; have HU8 := kp (HU7.out.grown hg8 hs7 (fun k e => by cases e; have := HGD.out; omega)); have HM8 := kp (HM7.out.grown hg8 hs47 (fun k e => by cases e; have := HGD.out; omega)); have hs8 := HU8.out.size; have hs48 := HM8.out.size
       have HK28 := kp (HK27.out.grown hg8 (fun e => by cases e; have h1 := HGD.out; have h2 := HK26.out.lt; omega)); have HK18 := kp (HK17.out.grown hg8 (fun e => by cases e; have h1 := HGD.out; have h2 := HK16.out.lt; omega))
       have HGw2 : Kept (w.heap.size ≤ gD ∧ g1 ≠ gD ∧ gC ≠ gD ∧ u4.heap.size ≤ gC ∧ u4.heap.size ≤ gD ∧ gC < u8.heap.size ∧ gD < u8.heap.size) := kp (by have h1 := HGD.out; have h2 := HGC.out; have h3 := hk8.lt; have h4 := HK28.out.lt; have h5 := HK26.out.lt; have h6 := HK16.out.lt; exact ⟨by omega, by omega, by omega, by omega, by omega, h4, h3⟩)
       clear hk8 hg8 hs8'))
  have HF : Kept (Fine pg0) := kp (fine_of (by rw [HC.out, HZ.out]))
  have HGd : Kept (∀ i, M.Good pg0 (runTo pg0 z1 i)) := kp (runTo_good HF.out HP.out.row.len z1)
  have HGd2 : Kept (∀ i, M.Good pg0 (runTo pg0 z2 i)) := kp (runTo_good HF.out HP.out.row.len z2)
  go_loopw [10] (fun v wr => ∃ (i : Nat) (q : Pc), i ≤ len1 ∧ v = .int .i64 i ∧ Kin wr u4.heap.size u8.heap.size q ∧ q.cf = runTo pg0 z1 i ∧ Blk wr gC 31 (pcC q) ∧ Blk wr gD 31 (pcC q0) ∧ Blk wr g1 24 (pgC pg0) ∧ Below w.heap.size w wr ∧ Below u4.heap.size u4 wr ∧ u8.heap.size ≤ wr.heap.size) (fun v _ => len1 - (intOf v).toNat)
  case atStart => exact ⟨0, q0, by omega, rfl, .inl (HOk0.out.below HM8.out), by rw [runTo_zero]; exact HCf0.out HZ.out, HK28.out, HK38.out, HK18.out, HU8.out, HM8.out, Nat.le_refl _⟩
  case round =>
    obtain ⟨i, q, hi, rfl, hkin, hcf, hkc, hkd, hkp, hbl, hbu, hbz⟩ := hrel
    have HKin := kp hkin; have HCf := kp hcf; have HKP := kp hkp; have HB := kp hbl; have HBu := kp hbu
    have hBs := hbl.size; have hBu := hbu.size; have hlP := hkp.lt
    have HKC := kp hkc; have HKD := kp hkd; have hlC := hkc.lt; have hlD := hkd.lt
    have HOq := kp (hkin.ok hBu)
    have HPr := kp (HP.out.below hbl)
    have H17 := kp (good_17 (p := pg0) (q := q) (by rw [hcf]; exact HGd.out i))
    clear hkin hcf hkc hkd hkp hbl hbu
    by_cases hlt : i < len1
    · skip
      obtain ⟨ad, x, hA, hadB, hx, hx1, hcx0, hcx1⟩ := HPi.out.pick hlt
      have hadw : ad.block < wr.heap.size := by omega
      have HX := kp hx; have HX1 := kp hx1
      have HCx : Kept (wr.cell? (ad.add (i * 2)) = some (.int .i64 x.1) ∧ wr.cell? ⟨(ad.add (i * 2)).block, (ad.add (i * 2)).off + 1, none⟩ = some (.bool x.2)) := kp ⟨(HB.out.cell (by rw [add_block]; exact hadB)).trans hcx0, (HB.out.cell (by rw [add_block]; exact hadB)).trans hcx1⟩
      subst hA
      clear hx hx1 hcx0 hcx1
      go_wp2
      apply region_tail 7 (.is (pcA q) :: .is (pgA pg0) :: .is _ :: .is _ :: .is (.pointer (some (ad.add (i * 2)))) :: .is (.agg #[.int .i64 x.1, .bool x.2]) :: (.stepped wr.heap.size (M.step pg0 q.cf x.1 x.2)) :: [])
        [[], [], [], [], [(2, 50), (3, 51)], [(4, 52)], [(0, 48), (1, 49), (5, 53)], [(6, 54)]]
        [(0, 48), (1, 49), (2, 50), (3, 51), (4, 52), (5, 53), (6, 54)] (by kernel_rfl) (by kernel_rfl) (by kernel_rfl) (by kernel_rfl) (by kernel_rfl)
      case hob =>
        refine ⟨?o0, ?o1, ?o2, ?o3, ?o4, ?o5, ?o6, trivial⟩
        case o0 =>
          intro W hW; change wpList _ _ _ _ _ _
          go_must (refine wpList_load_blk rfl 31 (.tmp 7) rfl gC rfl _ (pcC q) _ (HKC.out.below hW hlC) Try.underlying31 rfl (by rw [H17.out]; exact conf_size) ?_)
          go_wp2; exact pure_post rfl rfl rfl
        case o1 =>
          intro W hW; change wpList _ _ _ _ _ _
          go_must (refine wpList_load_blk rfl 24 (.tmp 3) rfl g1 rfl _ (pgC pg0) _ (HKP.out.below hW hlP) Try.underlying24 rfl pg_size ?_)
          go_wp2; exact pure_post rfl rfl rfl
        case o2 => intro W hW; change wpList _ _ _ _ _ _; go_wp2; exact pure_post rfl rfl rfl
        case o3 => intro W hW; change wpList _ _ _ _ _ _; go_wp2; exact pure_post rfl rfl rfl
        case o4 => intro W hW; rintro _ rfl; rintro _ rfl; change wpList _ _ _ _ _ _; go_wp2; exact pure_post rfl rfl rfl
        case o5 =>
          intro W hW; rintro _ rfl; change wpList _ _ _ _ _ _
          have hd0 := (hW.cell (p := ad.add (i * 2)) (by rw [add_block]; exact hadw)).trans HCx.out.1
          have hd1 := (hW.cell (p := ⟨(ad.add (i * 2)).block, (ad.add (i * 2)).off + 1, none⟩) (by rw [add_block]; exact hadw)).trans HCx.out.2
          go_wp2; exact pure_post rfl rfl rfl
        case o6 =>
          intro W hW; rintro _ rfl; rintro _ rfl; rintro _ rfl; change wpList _ _ _ _ _ _
          go_wp2_with fail
          refine (sem_step W.heap.size pg0 HF.out q W (pg_more9 (HPr.out.below (hW.mono hBs)) (show w.heap.size ≤ W.heap.size by have := hW.size; omega)) ((HOq.out.below hW).more hW.size) (by rw [HCf.out]; exact HGd.out i) (Nat.le_refl _) x.1 HX1.out x.2).mono ?_
          rintro e w2 ⟨q', rfl, hm2, hcf2, hb2⟩
          have HB2 := kp hb2; have HM2 := kp hm2; have HC2 := kp hcf2; have hsW := hW.size; clear hb2 hm2 hcf2
          go_wp2
          exact made_post rfl rfl rfl HB2.out ⟨q', rfl, HM2.out.less hsW, HC2.out⟩
      case hend =>
        intro W hW; rintro _ rfl; rintro _ rfl; rintro _ rfl; rintro _ rfl; rintro _ rfl; rintro _ rfl; rintro _ ⟨q1, rfl, hmi, hcf1⟩
        simp only [given, put_lit, List.set, List.drop]
        have HW := kp hW; have HMi := kp hmi; have HCf1 : Kept (q1.cf = runTo pg0 z1 (i + 1)) := kp (by rw [hcf1, HCf.out, runTo_succ pg0 z1 i x HX.out])
        have H171 := kp (good_17 (p := pg0) (q := q1) (by rw [HCf1.out]; exact HGd.out (i + 1)))
        have HKC2 := kp (HKC.out.below hW hlC); have HKD2 := kp (HKD.out.below hW hlD); have HKP2 := kp (HKP.out.below hW hlP)
        have hsW := hW.size
        have HsW : Kept (w.heap.size ≤ W.heap.size ∧ u4.heap.size ≤ W.heap.size ∧ u8.heap.size ≤ W.heap.size) := kp (by omega)
        clear hW hmi hcf1
        refine wpList_store_blk rfl 31 (.tmp 7) (.tmp 54) rfl gC (pcC q1) rfl rfl _ _ HKC2.out (by rw [H171.out]; exact conf_size) (by rw [H171.out, H17.out]) (conf_ones q1) ?_
        intro u9 hk9 hg9 hs9
        have HK29 := kp hk9; have HK39 := kp (HKD2.out.grown hg9 (fun e => by cases e; exact HGw2.out.2.2.1 rfl)); have HKin9 : Kept (Kin u9 u4.heap.size u8.heap.size q1) := kp (.inr (HMi.out.away2 hg9 hlC hbz)); have HB9 := kp ((HB.out.trans (HW.out.mono hBs)).grown hg9 HsW.out.1 (fun k e => by cases e; exact HGw.out.2.1))
        have HBu9 := kp ((HBu.out.trans (HW.out.mono hBu)).grown hg9 HsW.out.2.1 (fun k e => by cases e; exact HGw2.out.2.2.2.1))
        have HKP9 := kp (HKP2.out.grown hg9 (fun e => by cases e; exact HGw.out.2.2 rfl))
        have hz9 : u8.heap.size ≤ u9.heap.size := by have := HsW.out.2.2; omega
        clear hk9 hg9 hs9
        go_wp2
        go_roundw
        case rel => exact ⟨i + 1, q1, by omega, by go_num, HKin9.out, HCf1.out, HK29.out, HK39.out, HKP9.out, HB9.out, HBu9.out, hz9⟩
        case measure => simp [intOf]; omega
    · have hge : len1 ≤ i := by omega
      have HEnd : Kept (q.cf = runTo pg0 z1 len1) := kp (by rw [HCf.out, show i = len1 by omega])
      obtain ⟨qc, rfl⟩ : ∃ x, x = q := ⟨_, rfl⟩
      have H17c := H17
      clear hi
      go_wp2
      go_loopw [11] (fun v wr => ∃ (i : Nat) (q : Pc), i ≤ len2 ∧ v = .int .i64 i ∧ Kin wr u4.heap.size u8.heap.size q ∧ q.cf = runTo pg0 z2 i ∧ Blk wr gC 31 (pcC qc) ∧ Kin wr u4.heap.size u8.heap.size qc ∧ Blk wr gD 31 (pcC q) ∧ Blk wr g1 24 (pgC pg0) ∧ Below w.heap.size w wr ∧ Below u4.heap.size u4 wr ∧ u8.heap.size ≤ wr.heap.size) (fun v _ => len2 - (intOf v).toNat)
      case atStart => exact ⟨0, q0, by omega, rfl, .inl (HOk0.out.below HBu.out), by rw [runTo_zero]; exact HCf0.out HZ.out, HKC.out, HKin.out, HKD.out, HKP.out, HB.out, HBu.out, hbz⟩
      case round =>
        obtain ⟨i, q, hi, rfl, hkin, hcf, hkc, hkinc, hkd, hkp, hbl, hbu, hbz⟩ := hrel
        have HKin := kp hkin; have HCf := kp hcf; have HKP := kp hkp; have HB := kp hbl; have HBu := kp hbu
        have hBs := hbl.size; have hBu := hbu.size; have hlP := hkp.lt
        have HKC := kp hkc; have HKD := kp hkd; have HKinc := kp hkinc; have hlC := hkc.lt; have hlD := hkd.lt
        have HOq := kp (hkin.ok hBu)
        have HPr := kp (HP.out.below hbl)
        have H17 := kp (good_17 (p := pg0) (q := q) (by rw [hcf]; exact HGd2.out i))
        clear hkin hkinc hcf hkc hkd hkp hbl hbu
        by_cases hlt : i < len2
        · skip
          obtain ⟨ad, x, hA, hadB, hx, hx1, hcx0, hcx1⟩ := HPi2.out.pick hlt
          have hadw : ad.block < wr.heap.size := by omega
          have HX := kp hx; have HX1 := kp hx1
          have HCx : Kept (wr.cell? (ad.add (i * 2)) = some (.int .i64 x.1) ∧ wr.cell? ⟨(ad.add (i * 2)).block, (ad.add (i * 2)).off + 1, none⟩ = some (.bool x.2)) := kp ⟨(HB.out.cell (by rw [add_block]; exact hadB)).trans hcx0, (HB.out.cell (by rw [add_block]; exact hadB)).trans hcx1⟩
          subst hA
          clear hx hx1 hcx0 hcx1
          go_wp2
          apply region_tail 7 (.is (pcA q) :: .is (pgA pg0) :: .is _ :: .is _ :: .is (.pointer (some (ad.add (i * 2)))) :: .is (.agg #[.int .i64 x.1, .bool x.2]) :: (.stepped wr.heap.size (M.step pg0 q.cf x.1 x.2)) :: [])
            [[], [], [], [], [(2, 63), (3, 64)], [(4, 65)], [(0, 61), (1, 62), (5, 66)], [(6, 67)]]
            [(0, 61), (1, 62), (2, 63), (3, 64), (4, 65), (5, 66), (6, 67)] (by kernel_rfl) (by kernel_rfl) (by kernel_rfl) (by kernel_rfl) (by kernel_rfl)
          case hob =>
            refine ⟨?o0, ?o1, ?o2, ?o3, ?o4, ?o5, ?o6, trivial⟩
            case o0 =>
              intro W hW; change wpList _ _ _ _ _ _
              go_must (refine wpList_load_blk rfl 31 (.tmp 9) rfl gD rfl _ (pcC q) _ (HKD.out.below hW hlD) Try.underlying31 rfl (by rw [H17.out]; exact conf_size) ?_)
              go_wp2; exact pure_post rfl rfl rfl
            case o1 =>
              intro W hW; change wpList _ _ _ _ _ _
              go_must (refine wpList_load_blk rfl 24 (.tmp 3) rfl g1 rfl _ (pgC pg0) _ (HKP.out.below hW hlP) Try.underlying24 rfl pg_size ?_)
              go_wp2; exact pure_post rfl rfl rfl
            case o2 => intro W hW; change wpList _ _ _ _ _ _; go_wp2; exact pure_post rfl rfl rfl
            case o3 => intro W hW; change wpList _ _ _ _ _ _; go_wp2; exact pure_post rfl rfl rfl
            case o4 => intro W hW; rintro _ rfl; rintro _ rfl; change wpList _ _ _ _ _ _; go_wp2; exact pure_post rfl rfl rfl
            case o5 =>
              intro W hW; rintro _ rfl; change wpList _ _ _ _ _ _
              have hd0 := (hW.cell (p := ad.add (i * 2)) (by rw [add_block]; exact hadw)).trans HCx.out.1
              have hd1 := (hW.cell (p := ⟨(ad.add (i * 2)).block, (ad.add (i * 2)).off + 1, none⟩) (by rw [add_block]; exact hadw)).trans HCx.out.2
              go_wp2; exact pure_post rfl rfl rfl
            case o6 =>
              intro W hW; rintro _ rfl; rintro _ rfl; rintro _ rfl; change wpList _ _ _ _ _ _
              go_wp2_with fail
              refine (sem_step W.heap.size pg0 HF.out q W (pg_more9 (HPr.out.below (hW.mono hBs)) (show w.heap.size ≤ W.heap.size by have := hW.size; omega)) ((HOq.out.below hW).more hW.size) (by rw [HCf.out]; exact HGd2.out i) (Nat.le_refl _) x.1 HX1.out x.2).mono ?_
              rintro e w2 ⟨q', rfl, hm2, hcf2, hb2⟩
              have HB2 := kp hb2; have HM2 := kp hm2; have HC2 := kp hcf2; have hsW := hW.size; clear hb2 hm2 hcf2
              go_wp2
              exact made_post rfl rfl rfl HB2.out ⟨q', rfl, HM2.out.less hsW, HC2.out⟩
          case hend =>
            intro W hW; rintro _ rfl; rintro _ rfl; rintro _ rfl; rintro _ rfl; rintro _ rfl; rintro _ rfl; rintro _ ⟨q1, rfl, hmi, hcf1⟩
            simp only [given, put_lit, List.set, List.drop]
            have HW := kp hW; have HMi := kp hmi; have HCf1 : Kept (q1.cf = runTo pg0 z2 (i + 1)) := kp (by rw [hcf1, HCf.out, runTo_succ pg0 z2 i x HX.out])
            have H171 := kp (good_17 (p := pg0) (q := q1) (by rw [HCf1.out]; exact HGd2.out (i + 1)))
            have HKC2 := kp (HKD.out.below hW hlD); have HKD2 := kp (HKC.out.below hW hlC); have HKP2 := kp (HKP.out.below hW hlP)
            have hsW := hW.size
            have HsW : Kept (w.heap.size ≤ W.heap.size ∧ u4.heap.size ≤ W.heap.size ∧ u8.heap.size ≤ W.heap.size) := kp (by omega)
            have HKinc2 := kp (HKinc.out.below (hW.mono (Nat.le_refl _)) hBu)
            clear hW hmi hcf1
            refine wpList_store_blk rfl 31 (.tmp 9) (.tmp 67) rfl gD (pcC q1) rfl rfl _ _ HKC2.out (by rw [H171.out]; exact conf_size) (by rw [H171.out, H17.out]) (conf_ones q1) ?_
            intro u9 hk9 hg9 hs9
            have HK29 := kp hk9; have HK39 := kp (HKD2.out.grown hg9 (fun e => by cases e; exact HGw2.out.2.2.1 rfl)); have HKin9 : Kept (Kin u9 u4.heap.size u8.heap.size q1) := kp (.inr (HMi.out.away2 hg9 hlD hbz)); have HB9 := kp ((HB.out.trans (HW.out.mono hBs)).grown hg9 HsW.out.1 (fun k e => by cases e; exact HGw2.out.1))
            have HBu9 := kp ((HBu.out.trans (HW.out.mono hBu)).grown hg9 HsW.out.2.1 (fun k e => by cases e; exact HGw2.out.2.2.2.2.1))
            have HKP9 := kp (HKP2.out.grown hg9 (fun e => by cases e; exact HGw2.out.2.1 rfl))
            have HKinc9 := kp (HKinc2.out.far hg9 HGw2.out.2.2.2.2.1 HGw2.out.2.2.2.2.2.2 HsW.out.2.1)
            have hz9 : u8.heap.size ≤ u9.heap.size := by have := HsW.out.2.2; omega
            clear hk9 hg9 hs9
            go_wp2
            go_roundw
            case rel => exact ⟨i + 1, q1, by omega, by go_num, HKin9.out, HCf1.out, HK39.out, HKinc9.out, HK29.out, HKP9.out, HB9.out, HBu9.out, hz9⟩
            case measure => simp [intOf]; omega
        · have hge : len2 ≤ i := by omega
          have HEnd2 : Kept (q.cf = runTo pg0 z2 len2) := kp (by rw [HCf.out, show i = len2 by omega])
          have HGc := kp (show M.Good pg0 qc.cf by rw [HEnd.out]; exact HGd.out len1)
          have HGq := kp (show M.Good pg0 q.cf by rw [HEnd2.out]; exact HGd2.out len2)
          have HOc := kp (HKinc.out.ok hBu)
          have HStc := kp (low_stacks HF.out HP.out.row.len HGc.out HOc.out); have HStq := kp (low_stacks HF.out HP.out.row.len HGq.out HOq.out)
          have h8c := most_8 HGc.out HOc.out; have h8q := most_8 HGq.out HOq.out
          obtain ⟨b, hb⟩ : ∃ b : Bool, b = true ↔ qc.cf = q.cf := by
            by_cases h : qc.cf = q.cf
            · exact ⟨true, by simp [h]⟩
            · exact ⟨false, by simp [h]⟩
          have HBq := kp hb
          clear hb hi
          go_wp2
          apply region_list (.is (pcA qc) :: .is (pcA q) :: .is (.bool b) :: .is (pcA qc) :: (.plain wr.heap.size qc.cf) :: .is (pcA q) :: (.plain wr.heap.size q.cf) :: .is (.bool b) :: .is (.bool true) :: .is (.bool true) :: .is (pcA qc) :: .is (pcA qc) :: .is (.bool true) :: .is (.bool true) :: .is (.bool true) :: [])
            [[], [], [(0, 68), (1, 69)], [], [(3, 71)], [], [(5, 73)], [(4, 72), (6, 74)], [(2, 70), (7, 75)], [(8, 76)], [(9, 77)], [(9, 77)], [(10, 78), (11, 79), (9, 77)], [(9, 77), (12, 80)], [(13, 81)]]
            [(0, 68), (1, 69), (2, 70), (3, 71), (4, 72), (5, 73), (6, 74), (7, 75), (8, 76), (9, 77), (10, 78), (11, 79), (12, 80), (13, 81), (14, 6)] (by kernel_rfl) (by kernel_rfl)
          case hob =>
            refine ⟨?o0, ?o1, ?o2, ?o3, ?o4, ?o5, ?o6, ?o7, ?o8, ?o9, ?o10, ?o11, ?o12, ?o13, ?o14, trivial⟩
            case o0 =>
              intro W hW; change wpList _ _ _ _ _ _
              go_must (refine wpList_load_blk_w rfl 31 (.tmp 7) rfl gC rfl _ (pcC qc) _ (HKC.out.below hW hlC) Try.underlying31 rfl (by rw [H17c.out]; exact conf_size) ?_)
              go_wp2; exact pure_post rfl rfl rfl
            case o1 =>
              intro W hW; change wpList _ _ _ _ _ _
              go_must (refine wpList_load_blk_w rfl 31 (.tmp 9) rfl gD rfl _ (pcC q) _ (HKD.out.below hW hlD) Try.underlying31 rfl (by rw [H17.out]; exact conf_size) ?_)
              go_wp2; exact pure_post rfl rfl rfl
            case o2 =>
              intro W hW; rintro _ rfl; rintro _ rfl; change wpList _ _ _ _ _ _
              have hsW := hW.size
              go_wp2_with fail
              refine (sem_same W.heap.size qc q W ((HOc.out.below hW).more hsW) ((HOq.out.below hW).more hsW) (Nat.le_refl _) (good_8s HGc.out) (good_8s HGq.out) HGc.out.owns HGq.out.owns b HBq.out).mono ?_
              rintro e w2 ⟨rfl, hb2⟩
              have HB2 := kp hb2; clear hb2
              go_wp2
              exact made_post rfl rfl rfl HB2.out rfl
            case o3 =>
              intro W hW; change wpList _ _ _ _ _ _
              go_must (refine wpList_load_blk_w rfl 31 (.tmp 7) rfl gC rfl _ (pcC qc) _ (HKC.out.below hW hlC) Try.underlying31 rfl (by rw [H17c.out]; exact conf_size) ?_)
              go_wp2; exact pure_post rfl rfl rfl
            case o4 =>
              intro W hW; rintro _ rfl; change wpList _ _ _ _ _ _
              have hsW := hW.size
              go_wp2_with fail
              refine (law_plain qc W ((HOc.out.below hW).more hsW) h8c HGc.out.owns HStc.out (good_8s HGc.out)).mono ?_
              rintro e w2 ⟨q', rfl, hm2, hcf2, _, _, hsl2, hb2⟩
              have HB2 := kp hb2; have HM2 := kp (hm2.lower hsW); have HC2 := kp hcf2; have HS2 := kp hsl2; clear hb2 hm2 hcf2 hsl2
              go_wp2
              exact made_post rfl rfl rfl HB2.out ⟨q', rfl, HM2.out, HC2.out, HS2.out⟩
            case o5 =>
              intro W hW; change wpList _ _ _ _ _ _
              go_must (refine wpList_load_blk_w rfl 31 (.tmp 9) rfl gD rfl _ (pcC q) _ (HKD.out.below hW hlD) Try.underlying31 rfl (by rw [H17.out]; exact conf_size) ?_)
              go_wp2; exact pure_post rfl rfl rfl
            case o6 =>
              intro W hW; rintro _ rfl; change wpList _ _ _ _ _ _
              have hsW := hW.size
              go_wp2_with fail
              refine (law_plain q W ((HOq.out.below hW).more hsW) h8q HGq.out.owns HStq.out (good_8s HGq.out)).mono ?_
              rintro e w2 ⟨q', rfl, hm2, hcf2, _, _, hsl2, hb2⟩
              have HB2 := kp hb2; have HM2 := kp (hm2.lower hsW); have HC2 := kp hcf2; have HS2 := kp hsl2; clear hb2 hm2 hcf2 hsl2
              go_wp2
              exact made_post rfl rfl rfl HB2.out ⟨q', rfl, HM2.out, HC2.out, HS2.out⟩
            case o7 =>
              intro W hW; rintro _ ⟨p4, rfl, hm4, hc4, hs4⟩; rintro _ ⟨p6, rfl, hm6, hc6, hs6⟩; change wpList _ _ _ _ _ _
              have hsW := hW.size
              go_wp2_with fail
              refine (rs_same W.heap.size p4 p6 W hm4.ok hm6.ok (Nat.le_refl _) hs4 hs6 (rc_own hc4 HGc.out.owns) (rc_own hc6 HGq.out.owns) b (by rw [hc4, hc6]; exact HBq.out)).mono ?_
              rintro e w2 ⟨rfl, hb2⟩
              have HB2 := kp hb2; clear hb2
              go_wp2
              exact made_post rfl rfl rfl HB2.out rfl
            case o8 =>
              intro W hW; rintro _ rfl; rintro _ rfl; change wpList _ _ _ _ _ _
              cases b <;> (go_wp2; exact pure_post rfl rfl rfl)
            case o9 => intro W hW; rintro _ rfl; change wpList _ _ _ _ _ _; go_wp2; exact pure_post rfl rfl rfl
            case o10 =>
              intro W hW; rintro _ rfl; change wpList _ _ _ _ _ _
              go_must (refine wpList_load_blk_w rfl 31 (.tmp 7) rfl gC rfl _ (pcC qc) _ (HKC.out.below hW hlC) Try.underlying31 rfl (by rw [H17c.out]; exact conf_size) ?_)
              go_wp2; exact pure_post rfl rfl rfl
            case o11 =>
              intro W hW; rintro _ rfl; change wpList _ _ _ _ _ _
              go_must (refine wpList_load_blk_w rfl 31 (.tmp 7) rfl gC rfl _ (pcC qc) _ (HKC.out.below hW hlC) Try.underlying31 rfl (by rw [H17c.out]; exact conf_size) ?_)
              go_wp2; exact pure_post rfl rfl rfl
            case o12 =>
              intro W hW; rintro _ rfl; rintro _ rfl; rintro _ rfl; change wpList _ _ _ _ _ _
              have hsW := hW.size
              go_wp2_with fail
              refine (sem_same W.heap.size qc qc W ((HOc.out.below hW).more hsW) ((HOc.out.below hW).more hsW) (Nat.le_refl _) (good_8s HGc.out) (good_8s HGc.out) HGc.out.owns HGc.out.owns true ⟨fun _ => rfl, fun _ => rfl⟩).mono ?_
              rintro e w2 ⟨rfl, hb2⟩
              have HB2 := kp hb2; clear hb2
              go_wp2
              exact made_post rfl rfl rfl HB2.out rfl
            case o13 => intro W hW; rintro _ rfl; rintro _ rfl; change wpList _ _ _ _ _ _; go_wp2; exact pure_post rfl rfl rfl
            case o14 => intro W hW; rintro _ rfl; change wpList _ _ _ _ _ _; go_wp2; exact pure_post rfl rfl rfl
          case hend =>
            intro W hW; rintro _ rfl; rintro _ rfl; rintro _ rfl; rintro _ rfl; rintro _ ⟨p4, rfl, hm4, hc4, hs4⟩; rintro _ rfl; rintro _ ⟨p6, rfl, hm6, hc6, hs6⟩; rintro _ rfl; rintro _ rfl; rintro _ rfl; rintro _ rfl; rintro _ rfl; rintro _ rfl; rintro _ rfl; rintro _ rfl
            simp only [given, put_lit, List.set]
            have HBe := kp (HB.out.trans (hW.mono hBs))
            clear hW hm4 hm6
            go_wp2
            go_ret
            exact ⟨rfl, HBe.out⟩
end Go.Proofs.Ytkblgafackmckaa
