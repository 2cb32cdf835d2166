/- SemLocks, walked. -/
import Derived.Test.YtkblgafackmckaaSemLaw2
import Derived.Test.YtkblgafackmckaaSemFill
namespace Go.Proofs.Ytkblgafackmckaa
open Go.RowKit

set_option maxRecDepth 1000000 in
set_option maxHeartbeats 8000000 in
theorem walkSemLocks (pg0 : Pg) (a1 : Option Addr) (len1 cap1 : Nat) (z1 : List (Int × Bool)) (w : World) (w0 : pg0.Ok w w.heap.size) (w1 : Picks w w.heap.size a1 len1 z1) (c1 : len1 ≤ cap1 ∧ cap1 ≤ maxLen) :
    Calls Try.prog 8 #[pgA pg0, .slice a1 len1 cap1] w fun e w' => e = .returned (.bool true) ∧ Below w.heap.size w w' := by
  have HP := kp w0
  have HPi := kp w1
  have hc1 := c1.1; have hm1 := c1.2
  unfold maxLen at hm1
  obtain ⟨r, hr⟩ : ∃ r, Q.small pg0 = r := ⟨_, rfl⟩
  have HR := kp hr
  clear hr w0 w1 c1
  rw [pgA_is]
  cases r
  · go_enter Try.func8, Try.ntmps8
    go_wp2_with (first
      | ((with_reducible refine wpList_box_agg rfl 24 (.tmp 0) rfl (pgC pg0) rfl ?_); intro g1 u1 hg1 hk1 hu1; have HK1 := kp hk1; have HG1 := kp hg1; have HU1 := kp hu1; have hz1 := hu1.size; clear hg1 hk1 hu1))
    refine (sem_awake u1).mono ?_
    rintro e u2 ⟨rfl, hb2⟩
    have HU2 : Kept (Below w.heap.size w u2) := kp (HU1.out.trans (hb2.mono hz1))
    have hs2 := HU2.out.size
    have HP2 := kp (HP.out.below HU2.out)
    have HK2 := kp (HK1.out.below hb2 HK1.out.lt)
    obtain ⟨hc0, hc1', hc2, hc3⟩ := pg_cells HK2.out
    clear hb2
    go_wp2_with fail
    refine (ref_small _ pg0 u2 HP2.out hs2 _ HR.out).mono ?_
    rintro e u3 ⟨rfl, hb3⟩
    have HU3 : Kept (Below w.heap.size w u3) := kp (HU2.out.trans (hb3.mono hs2))
    have hs3 := HU3.out.size
    have HP3 := kp (HP.out.below HU3.out)
    have HK3 := kp (HK2.out.below hb3 HK2.out.lt)
    clear hb3 hc0 hc1' hc2 hc3
    obtain ⟨hc0, hc1', hc2, hc3⟩ := pg_cells HK3.out
    go_wp2_with fail
    refine (sem_awake u3).mono ?_
    rintro e u4 ⟨rfl, hb4⟩
    have HU4 := kp (HU3.out.trans (hb4.mono hs3))
    clear hb4
    go_wp2
    go_ret
    exact ⟨rfl, HU4.out⟩
  by_cases hbig : 300 < len1
  · go_enter Try.func8, Try.ntmps8
    go_wp2_with (first
      | ((with_reducible refine wpList_box_agg rfl 24 (.tmp 0) rfl (pgC pg0) rfl ?_); intro g1 u1 hg1 hk1 hu1; have HK1 := kp hk1; have HG1 := kp hg1; have HU1 := kp hu1; have hz1 := hu1.size; clear hg1 hk1 hu1))
    refine (sem_awake u1).mono ?_
    rintro e u2 ⟨rfl, hb2⟩
    have HU2 : Kept (Below w.heap.size w u2) := kp (HU1.out.trans (hb2.mono hz1))
    have hs2 := HU2.out.size
    have HP2 := kp (HP.out.below HU2.out)
    have HK2 := kp (HK1.out.below hb2 HK1.out.lt)
    obtain ⟨hc0, hc1', hc2, hc3⟩ := pg_cells HK2.out
    clear hb2
    go_wp2_with fail
    refine (ref_small _ pg0 u2 HP2.out hs2 _ HR.out).mono ?_
    rintro e u3 ⟨rfl, hb3⟩
    have HU3 : Kept (Below w.heap.size w u3) := kp (HU2.out.trans (hb3.mono hs2))
    have hs3 := HU3.out.size
    have HP3 := kp (HP.out.below HU3.out)
    have HK3 := kp (HK2.out.below hb3 HK2.out.lt)
    clear hb3 hc0 hc1' hc2 hc3
    obtain ⟨hc0, hc1', hc2, hc3⟩ := pg_cells HK3.out
    go_wp2_with fail
    refine (sem_awake u3).mono ?_
    rintro e u4 ⟨rfl, hb4⟩
    have HU4 := kp (HU3.out.trans (hb4.mono hs3))
    clear hb4
    go_wp2
    go_ret
    exact ⟨rfl, HU4.out⟩
  have HN3 := kp hbig
  go_enter Try.func8, Try.ntmps8
  go_wp2_with (first
    | ((with_reducible refine wpList_box_agg rfl 24 (.tmp 0) rfl (pgC pg0) rfl ?_); intro g1 u1 hg1 hk1 hu1; have HK1 := kp hk1; have HG1 := kp hg1; have HU1 := kp hu1; have hz1 := hu1.size; clear hg1 hk1 hu1))
  refine (sem_awake u1).mono ?_
  rintro e u2 ⟨rfl, hb2⟩
  have HU2 : Kept (Below w.heap.size w u2) := kp (HU1.out.trans (hb2.mono hz1))
  have hs2 := HU2.out.size
  have HP2 := kp (HP.out.below HU2.out)
  have HK2 := kp (HK1.out.below hb2 HK1.out.lt)
  obtain ⟨hc0, hc1', hc2, hc3⟩ := pg_cells HK2.out
  clear hb2
  go_wp2_with fail
  refine (ref_small _ pg0 u2 HP2.out hs2 _ HR.out).mono ?_
  rintro e u3 ⟨rfl, hb3⟩
  have HU3 : Kept (Below w.heap.size w u3) := kp (HU2.out.trans (hb3.mono hs2))
  have hs3 := HU3.out.size
  have HP3 := kp (HP.out.below HU3.out)
  have HK3 := kp (HK2.out.below hb3 HK2.out.lt)
  clear hb3 hc0 hc1' hc2 hc3
  obtain ⟨hc0, hc1', hc2, hc3⟩ := pg_cells HK3.out
  obtain ⟨ca, cb, cc, hcc⟩ : ∃ a b c, Q.check pg0 = (a, b, c) := ⟨_, _, _, rfl⟩
  have HC := kp hcc
  clear hcc
  by_cases hz : cc = 0
  case neg =>
    have HZ := kp hz
    have hb0 : ((cc : Int) != 0) = true := by simpa using hz
    clear hz
    go_wp2_with (first
      | (go_at_call 11; go_must (refine (sem_start _ pg0 u3 HP3.out hs3 ca cb cc HC.out).mono ?_); rintro e u4 ⟨q0, rfl, hok, hcf, hl0, h16, hb4⟩
         have HOk0 := kp hok; have HCf0 := kp hcf; have HL0 := kp hl0; have H17 := kp (conf_len h16); have HU4 := kp (HU3.out.trans (hb4.mono hs3)); have HK4 := kp (HK3.out.below hb4 HK3.out.lt); have hs4 := HU4.out.size; have hlk4 := HK4.out.lt
         clear hok hcf hl0 h16 hb4 hc0 hc1' hc2 hc3)
      | ((with_reducible show wpList _ _ _ (⟨some 5, _, _, _, _, _⟩ :: _) _ _); go_must (refine wpList_alloc_zero rfl 31 rfl _ conf_zero ?_); intro gC u5 hgC hk5 hu5; have HKc := kp hk5; have HGC := kp hgC; have HU5 := kp (HU4.out.trans (hu5.mono hs4)); have HM5 := kp hu5; have HK5 := kp (HK4.out.below hu5 hlk4); have hs5 := HU5.out.size; have hs45 := hu5.size; have hlC := hk5.lt; clear hk5 hu5 hgC)
      | ((with_reducible show wpList _ _ _ (⟨none, _, _, _, _, _⟩ :: _) _ _); (refine wpList_store_blk rfl 31 (.tmp 5) (.tmp 30) rfl gC (pcC q0) rfl rfl _ _ HKc.out (by rw [H17.out]; exact conf_size) (by rw [H17.out]; rfl) (conf_ones q0) ?_); intro u6 hk6 hg6 hs6'
         have HK26 := kp hk6; have HU6 := kp (HU5.out.grown hg6 hs5 (fun k e => by cases e; have := HGC.out; omega)); have HM6 := kp (HM5.out.grown hg6 hs45 (fun k e => by cases e; have := HGC.out; omega)); have hs6 := HU6.out.size; have hs46 := HM6.out.size
         have HK16 := kp (HK5.out.grown hg6 (fun e => by cases e; have := HGC.out; omega)); have HO6 := kp ((HOk0.out.below HM6.out).more hs46)
         have HGw : Kept (w.heap.size ≤ g1 ∧ w.heap.size ≤ gC ∧ g1 ≠ gC) := kp ⟨by have := HG1.out; omega, by have := HGC.out; omega, by have := HGC.out; omega⟩
         clear hk6 hg6 hs6'))
    go_ret
    exact ⟨rfl, HU6.out⟩
  have HZ := kp hz
  have HZ0 : Kept ((cc : Int) = 0) := kp (by omega)
  have hb0 : ((cc : Int) != 0) = false := by rw [HZ0.out]; rfl
  clear hz
  go_wp2_with (first
    | (go_at_call 11; go_must (refine (sem_start _ pg0 u3 HP3.out hs3 ca cb cc HC.out).mono ?_); rintro e u4 ⟨q0, rfl, hok, hcf, hl0, h16, hb4⟩
       have HOk0 := kp hok; have HCf0 := kp hcf; have HL0 := kp hl0; have H17 := kp (conf_len h16); have HU4 := kp (HU3.out.trans (hb4.mono hs3)); have HK4 := kp (HK3.out.below hb4 HK3.out.lt); have hs4 := HU4.out.size; have hlk4 := HK4.out.lt
       clear hok hcf hl0 h16 hb4 hc0 hc1' hc2 hc3)
    | ((with_reducible show wpList _ _ _ (⟨some 5, _, _, _, _, _⟩ :: _) _ _); go_must (refine wpList_alloc_zero rfl 31 rfl _ conf_zero ?_); intro gC u5 hgC hk5 hu5; have HKc := kp hk5; have HGC := kp hgC; have HU5 := kp (HU4.out.trans (hu5.mono hs4)); have HM5 := kp hu5; have HK5 := kp (HK4.out.below hu5 hlk4); have hs5 := HU5.out.size; have hs45 := hu5.size; have hlC := hk5.lt; clear hk5 hu5 hgC)
    | ((with_reducible show wpList _ _ _ (⟨none, _, _, _, _, _⟩ :: _) _ _); (refine wpList_store_blk rfl 31 (.tmp 5) (.tmp 30) rfl gC (pcC q0) rfl rfl _ _ HKc.out (by rw [H17.out]; exact conf_size) (by rw [H17.out]; rfl) (conf_ones q0) ?_); intro u6 hk6 hg6 hs6'
       have HK26 := kp hk6; have HU6 := kp (HU5.out.grown hg6 hs5 (fun k e => by cases e; have := HGC.out; omega)); have HM6 := kp (HM5.out.grown hg6 hs45 (fun k e => by cases e; have := HGC.out; omega)); have hs6 := HU6.out.size; have hs46 := HM6.out.size
       have HK16 := kp (HK5.out.grown hg6 (fun e => by cases e; have := HGC.out; omega)); have HO6 := kp ((HOk0.out.below HM6.out).more hs46)
       have HGw : Kept (w.heap.size ≤ g1 ∧ w.heap.size ≤ gC ∧ g1 ≠ gC) := kp ⟨by have := HG1.out; omega, by have := HGC.out; omega, by have := HGC.out; omega⟩
       clear hk6 hg6 hs6'))
  have HF : Kept (Fine pg0) := kp (fine_of (by rw [HC.out, HZ.out]))
  have HGd : Kept (∀ i, M.Good pg0 (runTo pg0 z1 i)) := kp (runTo_good HF.out HP.out.row.len z1)
  go_loopw [7] (fun v wr => ∃ (i : Nat) (q : Pc), i ≤ len1 ∧ v = .int .i64 i ∧ q.Ok wr wr.heap.size ∧ q.cf = runTo pg0 z1 i ∧ Blk wr gC 31 (pcC q) ∧ Blk wr g1 24 (pgC pg0) ∧ Below w.heap.size w wr) (fun v _ => len1 - (intOf v).toNat)
  case atStart => exact ⟨0, q0, by omega, rfl, HO6.out, by rw [runTo_zero]; exact HCf0.out HZ.out, HK26.out, HK16.out, HU6.out⟩
  case round =>
    obtain ⟨i, q, hi, rfl, hoq, hcf, hkc, hkp, hbl⟩ := hrel
    have HOq := kp hoq; have HCf := kp hcf; have HKC := kp hkc; have HKP := kp hkp; have HB := kp hbl
    have hBs := hbl.size; have hlC := hkc.lt; have hlP := hkp.lt
    have HPr := kp (HP.out.below hbl)
    have H17 := kp (good_17 (p := pg0) (q := q) (by rw [hcf]; exact HGd.out i))
    clear hoq hcf hkc hkp hbl
    by_cases hlt : i < len1
    · skip
      obtain ⟨ad, x, hA, hadB, hx, hx1, hcx0, hcx1⟩ := HPi.out.pick hlt
      have hadw : ad.block < wr.heap.size := by omega
      have HX := kp hx; have HX1 := kp hx1
      have HCx : Kept (wr.cell? (ad.add (i * 2)) = some (.int .i64 x.1) ∧ wr.cell? ⟨(ad.add (i * 2)).block, (ad.add (i * 2)).off + 1, none⟩ = some (.bool x.2)) := kp ⟨(HB.out.cell (by rw [add_block]; exact hadB)).trans hcx0, (HB.out.cell (by rw [add_block]; exact hadB)).trans hcx1⟩
      subst hA
      clear hx hx1 hcx0 hcx1
      obtain ⟨b, hb⟩ : ∃ b, M.lives q.cf x.1 = b := ⟨_, rfl⟩
      obtain ⟨y, hy⟩ : ∃ y, atNd pg0 q.cf x.1 = y := ⟨_, rfl⟩
      have HBv := kp hb; have HYv := kp hy
      have HGq0 := kp (show M.Good pg0 q.cf by rw [HCf.out]; exact HGd.out i)
      clear hb hy
      go_wp2
      apply region_typed (Fill wr.heap.size 47 (nodeGood y)) [(12, 8)] (.is (pcA q) :: .is (pgA pg0) :: .is _ :: .is _ :: .is (.pointer (some (ad.add (i * 2)))) :: .is (.pointer (some (ad.add (i * 2)))) :: .is (.int .i64 x.1) :: .is (.tuple #[ndA y, .bool b]) :: .is (.tuple #[ndA y, .bool b]) :: .is (ndA y) :: .is (.bool b) :: (.var (nodeGood_ok wr.heap.size y)) :: (.good (nodeGood_ok wr.heap.size y)) :: .is (.bool b) :: [])
        [[], [], [], [], [(2, 43), (3, 44)], [(4, 45)], [(5, 46)], [(0, 41), (1, 42), (6, 47)], [(7, 48)], [(8, 40)], [(8, 40)], [], [(11, 8), (9, 49)], [(10, 50)]]
        [(0, 41), (1, 42), (2, 43), (3, 44), (4, 45), (5, 46), (6, 47), (7, 48), (8, 40), (9, 49), (10, 50), (11, 8), (13, 9)] (by kernel_rfl) (by kernel_rfl) (by kernel_rfl) (by kernel_rfl) (Fill.ok (nodeGood_ok wr.heap.size y))
      case hob =>
        refine ⟨?o0, ?o1, ?o2, ?o3, ?o4, ?o5, ?o6, ?o7, ?o8, ?o9, ?o10, ?o11, ?o12, ?o13, trivial⟩
        case o0 =>
          intro W hF; have hW := hF.below; clear hF; change wpList _ _ _ _ _ _
          go_must (refine wpList_load_blk rfl 31 (.tmp 5) rfl gC rfl _ (pcC q) _ (HKC.out.below hW hlC) Try.underlying31 rfl (by rw [H17.out]; exact conf_size) ?_)
          go_wp2; exact typed_post (Fill.ok (nodeGood_ok wr.heap.size y)) rfl rfl rfl
        case o1 =>
          intro W hF; have hW := hF.below; clear hF; change wpList _ _ _ _ _ _
          go_must (refine wpList_load_blk rfl 24 (.tmp 2) rfl g1 rfl _ (pgC pg0) _ (HKP.out.below hW hlP) Try.underlying24 rfl pg_size ?_)
          go_wp2; exact typed_post (Fill.ok (nodeGood_ok wr.heap.size y)) rfl rfl rfl
        case o2 => intro W hF; have hW := hF.below; clear hF; change wpList _ _ _ _ _ _; go_wp2; exact typed_post (Fill.ok (nodeGood_ok wr.heap.size y)) rfl rfl rfl
        case o3 => intro W hF; have hW := hF.below; clear hF; change wpList _ _ _ _ _ _; go_wp2; exact typed_post (Fill.ok (nodeGood_ok wr.heap.size y)) rfl rfl rfl
        case o4 => intro W hF; have hW := hF.below; clear hF; rintro _ rfl; rintro _ rfl; change wpList _ _ _ _ _ _; go_wp2; exact typed_post (Fill.ok (nodeGood_ok wr.heap.size y)) rfl rfl rfl
        case o5 => intro W hF; have hW := hF.below; clear hF; rintro _ rfl; change wpList _ _ _ _ _ _; go_wp2; exact typed_post (Fill.ok (nodeGood_ok wr.heap.size y)) rfl rfl rfl
        case o6 =>
          intro W hF; have hW := hF.below; clear hF; rintro _ rfl; change wpList _ _ _ _ _ _
          have hd0 := (hW.cell (p := ad.add (i * 2)) (by rw [add_block]; exact hadw)).trans HCx.out.1
          go_wp2; exact typed_post (Fill.ok (nodeGood_ok wr.heap.size y)) rfl rfl rfl
        case o7 =>
          intro W hF; have hW := hF.below; clear hF; rintro _ rfl; rintro _ rfl; rintro _ rfl; change wpList _ _ _ _ _ _
          go_wp2_with fail
          refine (sem_at W.heap.size pg0 HF.out q W (pg_more9 (HPr.out.below (hW.mono hBs)) (show w.heap.size ≤ W.heap.size by have := hW.size; omega)) ((HOq.out.below hW).more hW.size) HGq0.out (Nat.le_refl _) x.1 HX1.out b HBv.out y HYv.out).mono ?_
          rintro e w2 ⟨rfl, hb2⟩
          have HB2 := kp hb2; clear hb2
          go_wp2
          exact typed_made rfl rfl rfl (Fill.of_below HB2.out) rfl
        case o8 => intro W hF; have hW := hF.below; clear hF; rintro _ rfl; change wpList _ _ _ _ _ _; go_wp2; exact typed_post (Fill.ok (nodeGood_ok wr.heap.size y)) rfl rfl rfl
        case o9 => intro W hF; have hW := hF.below; clear hF; rintro _ rfl; change wpList _ _ _ _ _ _; go_wp2; exact typed_post (Fill.ok (nodeGood_ok wr.heap.size y)) rfl rfl rfl
        case o10 => intro W hF; have hW := hF.below; clear hF; rintro _ rfl; change wpList _ _ _ _ _ _; go_wp2; exact typed_post (Fill.ok (nodeGood_ok wr.heap.size y)) rfl rfl rfl
        case o11 =>
          intro W hF; have hW := hF.below; clear hF; change wpList _ _ _ _ _ _
          have hsW := hW.size
          go_must (refine wpList_alloc_zero rfl 47 rfl _ node_zero9 ?_)
          intro gx wx hgx hkx hbx
          have HKx := kp hkx; have HGx := kp hgx; have HBx := kp hbx
          clear hgx hkx hbx
          go_wp2
          exact typed_made rfl rfl rfl (Fill.of_below HBx.out) ⟨gx, _, rfl, by have := HGx.out; omega, HKx.out, rfl⟩
        case o12 =>
          intro W hF; have hW := hF.below; clear hF; rintro _ ⟨gN, cn, rfl, hgN, hkn, hln⟩; rintro _ rfl; change wpList _ _ _ _ _ _
          have HKn := kp hkn; have HGn := kp hgN; have hl4 : (ndC y).length = cn.length := by rw [hln]; rfl
          go_must (refine wpList_store_blk rfl 47 (.tmp 8) (.tmp 49) rfl gN (ndC y) rfl rfl _ _ hkn nd_size hl4.symm (nd_ones y) ?_)
          intro W2 hk2 hg2 _
          have HK2 := kp hk2; have HG2 := kp hg2
          clear hk2 hg2 hkn hln hl4 hW hgN
          have HGood : Kept (nodeGood y (ndC y) W2) := kp rfl
          have HFill : Kept (Fill wr.heap.size 47 (nodeGood y) W W2) := kp (Fill.of_store HG2.out HGn.out HKn.out HK2.out HGood.out)
          go_wp2
          exact typed_stored (d := 8) rfl rfl rfl HFill.out ⟨gN, _, rfl, HGn.out, HK2.out, HGood.out⟩
        case o13 => intro W hF; have hW := hF.below; clear hF; rintro _ rfl; change wpList _ _ _ _ _ _; go_wp2; exact typed_post (Fill.ok (nodeGood_ok wr.heap.size y)) rfl rfl rfl
      case hend =>
        intro W hF; have hW := hF.below; clear hF; rintro _ rfl; rintro _ rfl; rintro _ rfl; rintro _ rfl; rintro _ rfl; rintro _ rfl; rintro _ rfl; rintro _ rfl; rintro _ rfl; rintro _ rfl; rintro _ rfl; rintro _ ⟨gN, cn, rfl, hgN, hkn, hln⟩; rintro _ rfl
        simp only [tgiven, tends, put_lit, List.set]
        rintro ⟨gN2, cn2, e2, hgN2, hkN2, hgood2⟩
        have hkz : Blk W gN2 47 (ndC y) := by have h : cn2 = ndC y := hgood2; rw [← h]; exact hkN2
        have e3 : gN = gN2 := by injection e2 with e2; injection e2 with e2; injection e2
        subst e3
        obtain ⟨wz, rfl⟩ : ∃ wz, wz = W := ⟨_, rfl⟩
        have HKN := kp hkz; have HBz := kp hW; have HGN := kp hgN; have hlN := hkz.lt
        clear hW hkn hln hgN hkN2 hgN2 hgood2 e2 hkz
        have hsz := HBz.out.size
        have HKC := kp (HKC.out.below HBz.out hlC); have HKP := kp (HKP.out.below HBz.out hlP)
        have HCx := kp (And.intro ((HBz.out.cell (by rw [add_block]; exact hadw)).trans HCx.out.1) ((HBz.out.cell (by rw [add_block]; exact hadw)).trans HCx.out.2))
        have hadw : ad.block < wz.heap.size := by omega
        have HPr := kp (HPr.out.below (HBz.out.mono hBs)); have HOq := kp ((HOq.out.below HBz.out).more hsz)
        have HB := kp (HB.out.trans (HBz.out.mono hBs)); have hBs := HB.out.size
        have hlC := HKC.out.lt; have hlP := HKP.out.lt
        clear HBz
        go_wp2
        apply region_tail 8 (.is (pcA q) :: .is (pgA pg0) :: .is _ :: .is _ :: .is (.pointer (some (ad.add (i * 2)))) :: .is (.agg #[.int .i64 x.1, .bool x.2]) :: (.stepped wz.heap.size (M.step pg0 q.cf x.1 x.2)) :: (.confNew wz.heap.size) :: [])
          [[], [], [], [], [(2, 53), (3, 54)], [(4, 55)], [(0, 51), (1, 52), (5, 56)], [], [(7, 10), (6, 57)]]
          [(0, 51), (1, 52), (2, 53), (3, 54), (4, 55), (5, 56), (6, 57), (7, 10)] (by kernel_rfl) (by kernel_rfl) (by kernel_rfl) (by kernel_rfl) (by kernel_rfl)
        case hob =>
          refine ⟨?o0, ?o1, ?o2, ?o3, ?o4, ?o5, ?o6, ?o7, trivial⟩
          case o0 =>
            intro W hW; change wpList _ _ _ _ _ _
            go_must (refine wpList_load_blk rfl 31 (.tmp 5) rfl gC rfl _ (pcC q) _ (HKC.out.below hW hlC) Try.underlying31 rfl (by rw [H17.out]; exact conf_size) ?_)
            go_wp2; exact pure_post rfl rfl rfl
          case o1 =>
            intro W hW; change wpList _ _ _ _ _ _
            go_must (refine wpList_load_blk rfl 24 (.tmp 2) rfl g1 rfl _ (pgC pg0) _ (HKP.out.below hW hlP) Try.underlying24 rfl pg_size ?_)
            go_wp2; exact pure_post rfl rfl rfl
          case o2 => intro W hW; change wpList _ _ _ _ _ _; go_wp2; exact pure_post rfl rfl rfl
          case o3 => intro W hW; change wpList _ _ _ _ _ _; go_wp2; exact pure_post rfl rfl rfl
          case o4 => intro W hW; rintro _ rfl; rintro _ rfl; change wpList _ _ _ _ _ _; go_wp2; exact pure_post rfl rfl rfl
          case o5 =>
            intro W hW; rintro _ rfl; change wpList _ _ _ _ _ _
            have hd0 := (hW.cell (p := ad.add (i * 2)) (by rw [add_block]; exact hadw)).trans HCx.out.1
            have hd1 := (hW.cell (p := ⟨(ad.add (i * 2)).block, (ad.add (i * 2)).off + 1, none⟩) (by rw [add_block]; exact hadw)).trans HCx.out.2
            go_wp2; exact pure_post rfl rfl rfl
          case o6 =>
            intro W hW; rintro _ rfl; rintro _ rfl; rintro _ rfl; change wpList _ _ _ _ _ _
            go_wp2_with fail
            refine (sem_step W.heap.size pg0 HF.out q W (pg_more9 (HPr.out.below (hW.mono hBs)) (show w.heap.size ≤ W.heap.size by have := hW.size; omega)) ((HOq.out.below hW).more hW.size) (by rw [HCf.out]; exact HGd.out i) (Nat.le_refl _) x.1 HX1.out x.2).mono ?_
            rintro e w2 ⟨q', rfl, hm2, hcf2, hb2⟩
            have HB2 := kp hb2; have HM2 := kp hm2; have HC2 := kp hcf2; have hsW := hW.size; clear hb2 hm2 hcf2
            go_wp2
            exact made_post rfl rfl rfl HB2.out ⟨q', rfl, HM2.out.less hsW, HC2.out⟩
          case o7 =>
            intro W hW; change wpList _ _ _ _ _ _
            have hsW := hW.size
            go_must (refine wpList_alloc_zero rfl 31 rfl _ conf_zero ?_)
            intro gx wx hgx hkx hbx
            have HKx := kp hkx; have HGx := kp hgx; have HBx := kp hbx
            clear hgx hkx hbx
            go_wp2
            exact made_post rfl rfl rfl HBx.out ⟨gx, rfl, HKx.out, by have := HGx.out; omega⟩
        case hend =>
          intro W hW; rintro _ rfl; rintro _ rfl; rintro _ rfl; rintro _ rfl; rintro _ rfl; rintro _ rfl; rintro _ ⟨q1, rfl, hmi, hcf1⟩; rintro _ ⟨gD, rfl, hkD, hgD⟩
          simp only [given, put_lit, List.set, List.drop]
          have HW := kp hW; have HMm := kp hmi; have HCf1 : Kept (q1.cf = runTo pg0 z1 (i + 1)) := kp (by rw [hcf1, HCf.out, runTo_succ pg0 z1 i x HX.out])
          have HStep := kp (show q1.cf = M.step pg0 q.cf x.1 x.2 from hcf1)
          have H171 := kp (good_17 (p := pg0) (q := q1) (by rw [HCf1.out]; exact HGd.out (i + 1)))
          have HG1 := kp (show M.Good pg0 q1.cf by rw [HCf1.out]; exact HGd.out (i + 1))
          have HGq := kp (show M.Good pg0 q.cf by rw [HCf.out]; exact HGd.out i)
          have hsW := hW.size
          have HKD := kp hkD; have HGD := kp hgD
          clear hW hmi hcf1 hkD hgD
          have HL1 := kp HMm.out.ok.len; have HLq := kp HOq.out.len
          by_cases hlen : q1.len = q.len
          · have hne : ((q1.len : Int) != (q.len : Int)) = false := by rw [hlen]; exact bne_self_eq_false _
            have HLen := kp hlen
            clear hlen
            go_wp2_with (first
              | ((with_reducible show wpList _ _ _ (⟨none, _, _, _, _, _⟩ :: _) _ _); (refine wpList_store_blk rfl 31 (.tmp 10) (.tmp 57) rfl gD (pcC q1) rfl rfl _ _ HKD.out (by rw [H171.out]; exact conf_size) (by rw [H171.out]; rfl) (conf_ones q1) ?_); intro w7 hk7 hg7 hs7'
                 have HKD7 := kp hk7; have HBr7 := kp (HW.out.grown hg7 hsW (fun k e => by cases e; exact HGD.out)); have hsr7 := HBr7.out.size
                 have HM17 := kp (HMm.out.typed HKD.out hg7); have HO17 := kp HM17.out.ok
                 have HB07 := kp (HB.out.trans (HBr7.out.mono hBs)); have hs07 := HB07.out.size
                 have HOq7 := kp ((HOq.out.below HBr7.out).more hsr7)
                 have HKC7 := kp (HKC.out.below HBr7.out hlC); have HKP7 := kp (HKP.out.below HBr7.out hlP)
                 have hlC7 := HKC7.out.lt; have hlP7 := HKP7.out.lt; have hlD7 := hk7.lt
                 have HNe : Kept (gC ≠ gD ∧ g1 ≠ gD) := kp ⟨by have := HGD.out; omega, by have := HGD.out; omega⟩
                 have HKN7 := kp (HKN.out.below HBr7.out hlN); have hlN7 := HKN7.out.lt; have hcD7 := conf_cell HKD7.out; have hcC7 := conf_cell HKC7.out; have hnk7 := HKN7.out.cell 0; simp only [ndC, List.getElem?_cons_zero] at hnk7
                 clear hk7 hg7 hs7'))
            clear HW HMm HKD
            clear hcD7 hcC7 hnk7
            go_loopw [11] (fun v11 W2 => ∃ t : Nat, t ≤ q.len ∧ v11 = .int .i64 t ∧ Below w7.heap.size w7 W2) (fun v11 _ => q.len - (intOf v11).toNat)
            case atStart => exact ⟨0, by omega, rfl, Below.refl _ _⟩
            case round =>
              obtain ⟨t, ht, rfl, hb2⟩ := hrel
              have HB2 := kp hb2; have hs2 := hb2.size
              have h18 := most_8 HG1.out HO17.out; have hq8 := most_8 HGq.out HOq7.out
              have HKD2 := kp (HKD7.out.below hb2 hlD7); have HKC2 := kp (HKC7.out.below hb2 hlC7); have HKP2 := kp (HKP7.out.below hb2 hlP7); have HKN2 := kp (HKN7.out.below hb2 hlN7)
              have hlD2 := HKD2.out.lt; have hlC2 := HKC2.out.lt; have hlP2 := HKP2.out.lt
              have hll : q.len ≤ q1.len := by rw [← HOq7.out.len, ← HO17.out.len, HStep.out]; exact M.step_len _ _ _ _
              have hcC2 := conf_cell HKC2.out
              clear hb2
              by_cases htl : t < q.len
              · have htl1 : t < q1.len := by omega
                have HIt : Kept (I64 (t : Int)) := kp (by unfold I64; omega)
                have HHq : Kept (M.held q.cf (t : Int) = M.heldTo q.ow t 16) := kp (held_in HOq7.out htl)
                have HH1 : Kept (M.held q1.cf (t : Int) = M.heldTo q1.ow t 16) := kp (held_in HO17.out htl1)
                have HMore : Kept (M.heldTo q1.ow t 16 &&& (4294967295 - M.heldTo q.ow t 16) ≠ 0 → (t : Int) = x.1 ∧ y.kind = 3) := kp (fun h => by
                  obtain ⟨k, hk1, hk2⟩ := andNot_bit _ _ (Nat.lt_of_lt_of_le (M.held_lt q.ow t 16) (by decide)) h
                  have hk1' : (M.heldTo (M.step pg0 q.cf x.1 x.2).owners t 16).testBit k = true := by rw [← HStep.out]; exact hk1
                  obtain ⟨e1, e2, e3⟩ := M.step_more hk1' (show (M.heldTo q.cf.owners t 16).testBit k = false from hk2)
                  refine ⟨e1, ?_⟩
                  rw [← HYv.out, ← e1, atNd_is (by rw [M.lives_nat]; exact e2) rfl]; exact e3)
                have HLess : Kept (M.heldTo q.ow t 16 &&& (4294967295 - M.heldTo q1.ow t 16) ≠ 0 → (t : Int) = x.1 ∧ y.kind = 4) := kp (fun h => by
                  obtain ⟨k, hk1, hk2⟩ := andNot_bit _ _ (Nat.lt_of_lt_of_le (M.held_lt q1.ow t 16) (by decide)) h
                  have hk2' : (M.heldTo (M.step pg0 q.cf x.1 x.2).owners t 16).testBit k = false := by rw [← HStep.out]; exact hk2
                  obtain ⟨e1, e2, e3⟩ := M.step_less (show (M.heldTo q.cf.owners t 16).testBit k = true from hk1) hk2'
                  refine ⟨e1, ?_⟩
                  rw [← HYv.out, ← e1, atNd_is (by rw [M.lives_nat]; exact e2) rfl]; exact e3)
                have hn0 := M.held_lt q.ow t 16; have hn1 := M.held_lt q1.ow t 16
                obtain ⟨n0, he0⟩ : ∃ n0, M.heldTo q.ow t 16 = n0 := ⟨_, rfl⟩
                obtain ⟨n1, he1⟩ : ∃ n1, M.heldTo q1.ow t 16 = n1 := ⟨_, rfl⟩
                rw [he0] at HHq HMore HLess hn0
                rw [he1] at HH1 HMore HLess hn1
                have HA1 : Kept (bits .andNot .u32 (n1 : Int) (n0 : Int) = ((n1 &&& (4294967295 - n0) : Nat) : Int)) := kp (u32_andNot_nat n1 n0 (by omega) (by omega))
                have HA0 : Kept (bits .andNot .u32 (n0 : Int) (n1 : Int) = ((n0 &&& (4294967295 - n1) : Nat) : Int)) := kp (u32_andNot_nat n0 n1 (by omega) (by omega))
                clear he0 he1
                go_wp2
                apply region_list (.is (pcA q) :: .is _ :: .is (.int .u32 (n0 : Int)) :: .is (pcA q1) :: .is _ :: .is (.int .u32 (n1 : Int)) :: .is (.int .u32 (n0 : Int)) :: .is (.int .u32 (n1 : Int)) :: [])
                  [[], [], [(0, 91), (1, 92)], [], [], [(3, 94), (4, 95)], [(2, 93)], [(5, 96)]]
                  [(0, 91), (1, 92), (2, 93), (3, 94), (4, 95), (5, 96), (6, 12), (7, 13)] (by kernel_rfl) (by kernel_rfl)
                case hob =>
                  refine ⟨?o0, ?o1, ?o2, ?o3, ?o4, ?o5, ?o6, ?o7, trivial⟩
                  case o0 =>
                    intro W hW; change wpList _ _ _ _ _ _
                    go_must (refine wpList_load_blk rfl 31 (.tmp 5) rfl gC rfl _ (pcC q) _ (HKC2.out.below hW hlC2) Try.underlying31 rfl (by rw [H17.out]; exact conf_size) ?_)
                    go_wp2; exact pure_post rfl rfl rfl
                  case o1 => intro W hW; change wpList _ _ _ _ _ _; go_wp2; exact pure_post rfl rfl rfl
                  case o2 =>
                    intro W hW; rintro _ rfl; rintro _ rfl; change wpList _ _ _ _ _ _
                    go_wp2_with fail
                    refine (sem_held q W HOq7.out.row.len (by omega) HGq.out.owns (own_8 HGq.out) (t : Int) HIt.out n0 HHq.out).mono ?_
                    rintro e w2 ⟨rfl, hb2⟩
                    have HBq := kp hb2; clear hb2
                    go_wp2
                    exact made_post rfl rfl rfl HBq.out rfl
                  case o3 =>
                    intro W hW; change wpList _ _ _ _ _ _
                    go_must (refine wpList_load_blk rfl 31 (.tmp 10) rfl gD rfl _ (pcC q1) _ (HKD2.out.below hW hlD2) Try.underlying31 rfl (by rw [H171.out]; exact conf_size) ?_)
                    go_wp2; exact pure_post rfl rfl rfl
                  case o4 => intro W hW; change wpList _ _ _ _ _ _; go_wp2; exact pure_post rfl rfl rfl
                  case o5 =>
                    intro W hW; rintro _ rfl; rintro _ rfl; change wpList _ _ _ _ _ _
                    go_wp2_with fail
                    refine (sem_held q1 W HO17.out.row.len (by omega) HG1.out.owns (own_8 HG1.out) (t : Int) HIt.out n1 HH1.out).mono ?_
                    rintro e w2 ⟨rfl, hb2⟩
                    have HBq := kp hb2; clear hb2
                    go_wp2
                    exact made_post rfl rfl rfl HBq.out rfl
                  case o6 => intro W hW; rintro _ rfl; change wpList _ _ _ _ _ _; go_wp2; exact pure_post rfl rfl rfl
                  case o7 => intro W hW; rintro _ rfl; change wpList _ _ _ _ _ _; go_wp2; exact pure_post rfl rfl rfl
                case hend =>
                  intro W hW; rintro _ rfl; rintro _ rfl; rintro _ rfl; rintro _ rfl; rintro _ rfl; rintro _ rfl; rintro _ rfl; rintro _ rfl
                  simp only [given, put_lit, List.set]
                  have HB9 : Kept (Below w7.heap.size w7 W) := kp (HB2.out.trans (hW.mono hs2))
                  have hnk := (HKN7.out.below HB9.out hlN7).cell 0
                  simp only [ndC, List.getElem?_cons_zero] at hnk
                  have hpx := ((HBr7.out.trans (HB9.out.mono hsr7)).cell (p := ad.add (i * 2)) (by rw [add_block]; exact hadw)).trans HCx.out.1
                  clear hW hcC2
                  by_cases hz1 : n1 &&& (4294967295 - n0) = 0
                  · have hA1 : (bits .andNot .u32 (n1 : Int) (n0 : Int) != 0) = false := by rw [HA1.out, hz1]; rfl
                    by_cases hz0 : n0 &&& (4294967295 - n1) = 0
                    · have hA0 : (bits .andNot .u32 (n0 : Int) (n1 : Int) != 0) = false := by rw [HA0.out, hz0]; rfl
                      clear hz0 hz1
                      go_wp2
                      go_roundw
                      case rel => exact ⟨t + 1, by omega, by go_num, HB9.out⟩
                      case measure => simp [intOf]; omega
                    · have hA0 : (bits .andNot .u32 (n0 : Int) (n1 : Int) != 0) = true := by rw [HA0.out, bne_iff_ne]; omega
                      obtain ⟨ht1, hk4⟩ := HLess.out hz0
                      have et : ((t : Int) != x.1) = false := by rw [ht1]; exact bne_self_eq_false _
                      have e4 : (y.kind != 4) = false := by rw [hk4]; rfl
                      clear hz0 hz1 ht1 hk4
                      go_wp2
                      go_roundw
                      case rel => exact ⟨t + 1, by omega, by go_num, HB9.out⟩
                      case measure => simp [intOf]; omega
                  · have hA1 : (bits .andNot .u32 (n1 : Int) (n0 : Int) != 0) = true := by rw [HA1.out, bne_iff_ne]; omega
                    obtain ⟨ht1, hk3⟩ := HMore.out hz1
                    have et : ((t : Int) != x.1) = false := by rw [ht1]; exact bne_self_eq_false _
                    have e3 : (y.kind != 3) = false := by rw [hk3]; rfl
                    by_cases hz0 : n0 &&& (4294967295 - n1) = 0
                    · have hA0 : (bits .andNot .u32 (n0 : Int) (n1 : Int) != 0) = false := by rw [HA0.out, hz0]; rfl
                      clear hz0 hz1 ht1 hk3
                      go_wp2
                      go_roundw
                      case rel => exact ⟨t + 1, by omega, by go_num, HB9.out⟩
                      case measure => simp [intOf]; omega
                    · obtain ⟨_, hk4⟩ := HLess.out hz0
                      exact absurd (hk3.symm.trans hk4) (by decide)
              · have hge2 : q.len ≤ t := by omega
                have HM12 := kp (HM17.out.below HB2.out (Nat.le_refl _))
                have HB02 := kp (HB07.out.trans (HB2.out.mono hs07)); have hs02 := HB02.out.size
                go_wp2_with (first
                  | ((with_reducible show wpList _ _ _ (⟨some 135, _, _, _, _, _⟩ :: _) _ _); go_must (refine wpList_load_blk rfl 31 (.tmp 10) rfl gD rfl _ (pcC q1) _ HKD2.out Try.underlying31 rfl (by rw [H171.out]; exact conf_size) ?_))
                  | ((with_reducible show wpList _ _ _ (⟨none, _, _, _, _, _⟩ :: _) _ _); (refine wpList_store_blk rfl 31 (.tmp 5) (.tmp 135) rfl gC (pcC q1) rfl rfl _ _ HKC2.out (by rw [H171.out]; exact conf_size) (by rw [H171.out, H17.out]) (conf_ones q1) ?_); intro wz2 hkz hgz hsz
                     have HKZ := kp hkz; have HOz := kp (HM12.out.typed HKC2.out hgz).ok; have HBz2 := kp (HB02.out.grown hgz hs02 (fun k e => by cases e; exact HGw.out.2.1))
                     have HKPz := kp (HKP2.out.grown hgz (fun e => by cases e; exact HGw.out.2.2 rfl))
                     clear hkz hgz hsz))
                go_roundw
                case rel => exact ⟨i + 1, q1, by omega, by go_num, HOz.out, HCf1.out, HKZ.out, HKPz.out, HBz2.out⟩
                case measure => simp [intOf]; omega
          have hsp := M.step_spawn (p := pg0) (c := q.cf) (t := x.1) (way := x.2) (by rw [← HStep.out, HL1.out, HLq.out]; exact hlen)
          have hlen1 : q1.len = q.len + 1 := by rw [← HL1.out, HStep.out, hsp.2.2.2, HLq.out]
          have hbt : b = true := by rw [← HBv.out]; unfold M.lives; rw [hsp.2.1, decide_eq_true hsp.1]; rfl
          have hy5 : y.kind = 5 := by
            obtain ⟨k, hk⟩ : ∃ k : Nat, x.1 = (k : Int) := ⟨x.1.toNat, by have := hsp.1; omega⟩
            have h1 := hsp.2.1; have h2 := hsp.2.2.1
            rw [hk, Int.toNat_natCast] at h1 h2
            rw [← HYv.out, hk, atNd_is (by rw [M.lives_nat]; exact h1) rfl]; exact h2
          subst hbt
          have hq8' := most_8 HGq.out HOq.out
          have hne : ((q1.len : Int) != (q.len : Int)) = true := by rw [bne_iff_ne]; omega
          have hn1' : ((q1.len : Int) != (q.len : Int) + 1) = false := by rw [hlen1]; simp
          have e5 : (y.kind != 5) = false := by rw [hy5]; rfl
          have HY5 := kp hy5; have HLe1 := kp hlen1
          clear hsp hlen hy5 hlen1
          go_wp2_with (first
            | ((with_reducible show wpList _ _ _ (⟨none, _, _, _, _, _⟩ :: _) _ _); (refine wpList_store_blk rfl 31 (.tmp 10) (.tmp 57) rfl gD (pcC q1) rfl rfl _ _ HKD.out (by rw [H171.out]; exact conf_size) (by rw [H171.out]; rfl) (conf_ones q1) ?_); intro w7 hk7 hg7 hs7'
               have HKD7 := kp hk7; have HBr7 := kp (HW.out.grown hg7 hsW (fun k e => by cases e; exact HGD.out)); have hsr7 := HBr7.out.size
               have HM17 := kp (HMm.out.typed HKD.out hg7); have HO17 := kp HM17.out.ok
               have HB07 := kp (HB.out.trans (HBr7.out.mono hBs)); have hs07 := HB07.out.size
               have HOq7 := kp ((HOq.out.below HBr7.out).more hsr7)
               have HKC7 := kp (HKC.out.below HBr7.out hlC); have HKP7 := kp (HKP.out.below HBr7.out hlP)
               have hlC7 := HKC7.out.lt; have hlP7 := HKP7.out.lt; have hlD7 := hk7.lt
               have HNe : Kept (gC ≠ gD ∧ g1 ≠ gD) := kp ⟨by have := HGD.out; omega, by have := HGD.out; omega⟩
               have HKN7 := kp (HKN.out.below HBr7.out hlN); have hlN7 := HKN7.out.lt; have hcD7 := conf_cell HKD7.out; have hcC7 := conf_cell HKC7.out; have hnk7 := HKN7.out.cell 0; simp only [ndC, List.getElem?_cons_zero] at hnk7
               clear hk7 hg7 hs7'))
          clear HW HMm HKD
          clear hcD7 hcC7 hnk7 hne hn1' e5
          go_loopw [11] (fun v11 W2 => ∃ t : Nat, t ≤ q.len ∧ v11 = .int .i64 t ∧ Below w7.heap.size w7 W2) (fun v11 _ => q.len - (intOf v11).toNat)
          case atStart => exact ⟨0, by omega, rfl, Below.refl _ _⟩
          case round =>
            obtain ⟨t, ht, rfl, hb2⟩ := hrel
            have HB2 := kp hb2; have hs2 := hb2.size
            have h18 := most_8 HG1.out HO17.out; have hq8 := most_8 HGq.out HOq7.out
            have HKD2 := kp (HKD7.out.below hb2 hlD7); have HKC2 := kp (HKC7.out.below hb2 hlC7); have HKP2 := kp (HKP7.out.below hb2 hlP7); have HKN2 := kp (HKN7.out.below hb2 hlN7)
            have hlD2 := HKD2.out.lt; have hlC2 := HKC2.out.lt; have hlP2 := HKP2.out.lt
            have hll : q.len ≤ q1.len := by rw [← HOq7.out.len, ← HO17.out.len, HStep.out]; exact M.step_len _ _ _ _
            have hcC2 := conf_cell HKC2.out
            clear hb2
            by_cases htl : t < q.len
            · have htl1 : t < q1.len := by omega
              have HIt : Kept (I64 (t : Int)) := kp (by unfold I64; omega)
              have HHq : Kept (M.held q.cf (t : Int) = M.heldTo q.ow t 16) := kp (held_in HOq7.out htl)
              have HH1 : Kept (M.held q1.cf (t : Int) = M.heldTo q1.ow t 16) := kp (held_in HO17.out htl1)
              have HMore : Kept (M.heldTo q1.ow t 16 &&& (4294967295 - M.heldTo q.ow t 16) ≠ 0 → (t : Int) = x.1 ∧ y.kind = 3) := kp (fun h => by
                obtain ⟨k, hk1, hk2⟩ := andNot_bit _ _ (Nat.lt_of_lt_of_le (M.held_lt q.ow t 16) (by decide)) h
                have hk1' : (M.heldTo (M.step pg0 q.cf x.1 x.2).owners t 16).testBit k = true := by rw [← HStep.out]; exact hk1
                obtain ⟨e1, e2, e3⟩ := M.step_more hk1' (show (M.heldTo q.cf.owners t 16).testBit k = false from hk2)
                refine ⟨e1, ?_⟩
                rw [← HYv.out, ← e1, atNd_is (by rw [M.lives_nat]; exact e2) rfl]; exact e3)
              have HLess : Kept (M.heldTo q.ow t 16 &&& (4294967295 - M.heldTo q1.ow t 16) ≠ 0 → (t : Int) = x.1 ∧ y.kind = 4) := kp (fun h => by
                obtain ⟨k, hk1, hk2⟩ := andNot_bit _ _ (Nat.lt_of_lt_of_le (M.held_lt q1.ow t 16) (by decide)) h
                have hk2' : (M.heldTo (M.step pg0 q.cf x.1 x.2).owners t 16).testBit k = false := by rw [← HStep.out]; exact hk2
                obtain ⟨e1, e2, e3⟩ := M.step_less (show (M.heldTo q.cf.owners t 16).testBit k = true from hk1) hk2'
                refine ⟨e1, ?_⟩
                rw [← HYv.out, ← e1, atNd_is (by rw [M.lives_nat]; exact e2) rfl]; exact e3)
              have hn0 := M.held_lt q.ow t 16; have hn1 := M.held_lt q1.ow t 16
              obtain ⟨n0, he0⟩ : ∃ n0, M.heldTo q.ow t 16 = n0 := ⟨_, rfl⟩
              obtain ⟨n1, he1⟩ : ∃ n1, M.heldTo q1.ow t 16 = n1 := ⟨_, rfl⟩
              rw [he0] at HHq HMore HLess hn0
              rw [he1] at HH1 HMore HLess hn1
              have HA1 : Kept (bits .andNot .u32 (n1 : Int) (n0 : Int) = ((n1 &&& (4294967295 - n0) : Nat) : Int)) := kp (u32_andNot_nat n1 n0 (by omega) (by omega))
              have HA0 : Kept (bits .andNot .u32 (n0 : Int) (n1 : Int) = ((n0 &&& (4294967295 - n1) : Nat) : Int)) := kp (u32_andNot_nat n0 n1 (by omega) (by omega))
              clear he0 he1
              go_wp2
              apply region_list (.is (pcA q) :: .is _ :: .is (.int .u32 (n0 : Int)) :: .is (pcA q1) :: .is _ :: .is (.int .u32 (n1 : Int)) :: .is (.int .u32 (n0 : Int)) :: .is (.int .u32 (n1 : Int)) :: [])
                [[], [], [(0, 91), (1, 92)], [], [], [(3, 94), (4, 95)], [(2, 93)], [(5, 96)]]
                [(0, 91), (1, 92), (2, 93), (3, 94), (4, 95), (5, 96), (6, 12), (7, 13)] (by kernel_rfl) (by kernel_rfl)
              case hob =>
                refine ⟨?o0, ?o1, ?o2, ?o3, ?o4, ?o5, ?o6, ?o7, trivial⟩
                case o0 =>
                  intro W hW; change wpList _ _ _ _ _ _
                  go_must (refine wpList_load_blk rfl 31 (.tmp 5) rfl gC rfl _ (pcC q) _ (HKC2.out.below hW hlC2) Try.underlying31 rfl (by rw [H17.out]; exact conf_size) ?_)
                  go_wp2; exact pure_post rfl rfl rfl
                case o1 => intro W hW; change wpList _ _ _ _ _ _; go_wp2; exact pure_post rfl rfl rfl
                case o2 =>
                  intro W hW; rintro _ rfl; rintro _ rfl; change wpList _ _ _ _ _ _
                  go_wp2_with fail
                  refine (sem_held q W HOq7.out.row.len (by omega) HGq.out.owns (own_8 HGq.out) (t : Int) HIt.out n0 HHq.out).mono ?_
                  rintro e w2 ⟨rfl, hb2⟩
                  have HBq := kp hb2; clear hb2
                  go_wp2
                  exact made_post rfl rfl rfl HBq.out rfl
                case o3 =>
                  intro W hW; change wpList _ _ _ _ _ _
                  go_must (refine wpList_load_blk rfl 31 (.tmp 10) rfl gD rfl _ (pcC q1) _ (HKD2.out.below hW hlD2) Try.underlying31 rfl (by rw [H171.out]; exact conf_size) ?_)
                  go_wp2; exact pure_post rfl rfl rfl
                case o4 => intro W hW; change wpList _ _ _ _ _ _; go_wp2; exact pure_post rfl rfl rfl
                case o5 =>
                  intro W hW; rintro _ rfl; rintro _ rfl; change wpList _ _ _ _ _ _
                  go_wp2_with fail
                  refine (sem_held q1 W HO17.out.row.len (by omega) HG1.out.owns (own_8 HG1.out) (t : Int) HIt.out n1 HH1.out).mono ?_
                  rintro e w2 ⟨rfl, hb2⟩
                  have HBq := kp hb2; clear hb2
                  go_wp2
                  exact made_post rfl rfl rfl HBq.out rfl
                case o6 => intro W hW; rintro _ rfl; change wpList _ _ _ _ _ _; go_wp2; exact pure_post rfl rfl rfl
                case o7 => intro W hW; rintro _ rfl; change wpList _ _ _ _ _ _; go_wp2; exact pure_post rfl rfl rfl
              case hend =>
                intro W hW; rintro _ rfl; rintro _ rfl; rintro _ rfl; rintro _ rfl; rintro _ rfl; rintro _ rfl; rintro _ rfl; rintro _ rfl
                simp only [given, put_lit, List.set]
                have HB9 : Kept (Below w7.heap.size w7 W) := kp (HB2.out.trans (hW.mono hs2))
                have hnk := (HKN7.out.below HB9.out hlN7).cell 0
                simp only [ndC, List.getElem?_cons_zero] at hnk
                have hpx := ((HBr7.out.trans (HB9.out.mono hsr7)).cell (p := ad.add (i * 2)) (by rw [add_block]; exact hadw)).trans HCx.out.1
                clear hW hcC2
                by_cases hz1 : n1 &&& (4294967295 - n0) = 0
                · have hA1 : (bits .andNot .u32 (n1 : Int) (n0 : Int) != 0) = false := by rw [HA1.out, hz1]; rfl
                  by_cases hz0 : n0 &&& (4294967295 - n1) = 0
                  · have hA0 : (bits .andNot .u32 (n0 : Int) (n1 : Int) != 0) = false := by rw [HA0.out, hz0]; rfl
                    clear hz0 hz1
                    go_wp2
                    go_roundw
                    case rel => exact ⟨t + 1, by omega, by go_num, HB9.out⟩
                    case measure => simp [intOf]; omega
                  · have hA0 : (bits .andNot .u32 (n0 : Int) (n1 : Int) != 0) = true := by rw [HA0.out, bne_iff_ne]; omega
                    obtain ⟨ht1, hk4⟩ := HLess.out hz0
                    have et : ((t : Int) != x.1) = false := by rw [ht1]; exact bne_self_eq_false _
                    have e4 : (y.kind != 4) = false := by rw [hk4]; rfl
                    clear hz0 hz1 ht1 hk4
                    go_wp2
                    go_roundw
                    case rel => exact ⟨t + 1, by omega, by go_num, HB9.out⟩
                    case measure => simp [intOf]; omega
                · have hA1 : (bits .andNot .u32 (n1 : Int) (n0 : Int) != 0) = true := by rw [HA1.out, bne_iff_ne]; omega
                  obtain ⟨ht1, hk3⟩ := HMore.out hz1
                  have et : ((t : Int) != x.1) = false := by rw [ht1]; exact bne_self_eq_false _
                  have e3 : (y.kind != 3) = false := by rw [hk3]; rfl
                  by_cases hz0 : n0 &&& (4294967295 - n1) = 0
                  · have hA0 : (bits .andNot .u32 (n0 : Int) (n1 : Int) != 0) = false := by rw [HA0.out, hz0]; rfl
                    clear hz0 hz1 ht1 hk3
                    go_wp2
                    go_roundw
                    case rel => exact ⟨t + 1, by omega, by go_num, HB9.out⟩
                    case measure => simp [intOf]; omega
                  · obtain ⟨_, hk4⟩ := HLess.out hz0
                    exact absurd (hk3.symm.trans hk4) (by decide)
            · have hge2 : q.len ≤ t := by omega
              have HM12 := kp (HM17.out.below HB2.out (Nat.le_refl _))
              have HB02 := kp (HB07.out.trans (HB2.out.mono hs07)); have hs02 := HB02.out.size
              go_wp2_with (first
                | ((with_reducible show wpList _ _ _ (⟨some 135, _, _, _, _, _⟩ :: _) _ _); go_must (refine wpList_load_blk rfl 31 (.tmp 10) rfl gD rfl _ (pcC q1) _ HKD2.out Try.underlying31 rfl (by rw [H171.out]; exact conf_size) ?_))
                | ((with_reducible show wpList _ _ _ (⟨none, _, _, _, _, _⟩ :: _) _ _); (refine wpList_store_blk rfl 31 (.tmp 5) (.tmp 135) rfl gC (pcC q1) rfl rfl _ _ HKC2.out (by rw [H171.out]; exact conf_size) (by rw [H171.out, H17.out]) (conf_ones q1) ?_); intro wz2 hkz hgz hsz
                   have HKZ := kp hkz; have HOz := kp (HM12.out.typed HKC2.out hgz).ok; have HBz2 := kp (HB02.out.grown hgz hs02 (fun k e => by cases e; exact HGw.out.2.1))
                   have HKPz := kp (HKP2.out.grown hgz (fun e => by cases e; exact HGw.out.2.2 rfl))
                   clear hkz hgz hsz))
              go_roundw
              case rel => exact ⟨i + 1, q1, by omega, by go_num, HOz.out, HCf1.out, HKZ.out, HKPz.out, HBz2.out⟩
              case measure => simp [intOf]; omega
    · have hge : len1 ≤ i := by omega
      go_wp2
      go_ret
      exact ⟨rfl, HB.out⟩
end Go.Proofs.Ytkblgafackmckaa
