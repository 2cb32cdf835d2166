/- SemWay, walked. -/
import Derived.Test.YtkblgafackmckaaSemLaw2
import Derived.Test.YtkblgafackmckaaSemFill
namespace Go.Proofs.Ytkblgafackmckaa
open Go.RowKit

set_option maxRecDepth 1000000 in
set_option maxHeartbeats 8000000 in
theorem walkSemWay (pg0 : Pg) (a1 : Option Addr) (len1 cap1 : Nat) (z1 : List (Int × Bool)) (a2 : Int) (w : World) (w0 : pg0.Ok w w.heap.size) (w1 : Picks w w.heap.size a1 len1 z1) (c1 : len1 ≤ cap1 ∧ cap1 ≤ maxLen) (w2 : (Lit.int .u8 a2).wf = true) :
    Calls Try.prog 7 #[pgA pg0, .slice a1 len1 cap1, .int .u8 a2] w fun e w' => e = .returned (.bool true) ∧ Below w.heap.size w w' := by
  have HP := kp w0
  have HPi := kp w1
  have hc1 := c1.1; have hm1 := c1.2
  unfold maxLen at hm1
  obtain ⟨r, hr⟩ : ∃ r, Q.small pg0 = r := ⟨_, rfl⟩
  have HR := kp hr
  clear hr w0 w1 c1
  have HU8 : Kept (0 ≤ a2 ∧ a2 < 256) := kp (u8_range _ w2)
  clear w2
  rw [pgA_is]
  cases r
  · go_enter Try.func7, Try.ntmps7
    go_wp2_with (first
      | ((with_reducible refine wpList_box_agg rfl 24 (.tmp 0) rfl (pgC pg0) rfl ?_); intro g1 u1 hg1 hk1 hu1; have HK1 := kp hk1; have HG1 := kp hg1; have HU1 := kp hu1; have hz1 := hu1.size; clear hg1 hk1 hu1))
    refine (sem_awake u1).mono ?_
    rintro e u2 ⟨rfl, hb2⟩
    have HU2 : Kept (Below w.heap.size w u2) := kp (HU1.out.trans (hb2.mono hz1))
    have hs2 := HU2.out.size
    have HP2 := kp (HP.out.below HU2.out)
    have HK2 := kp (HK1.out.below hb2 HK1.out.lt)
    obtain ⟨hc0, hc1', hc2, hc3⟩ := pg_cells HK2.out
    clear hb2
    go_wp2_with fail
    refine (ref_small _ pg0 u2 HP2.out hs2 _ HR.out).mono ?_
    rintro e u3 ⟨rfl, hb3⟩
    have HU3 : Kept (Below w.heap.size w u3) := kp (HU2.out.trans (hb3.mono hs2))
    have hs3 := HU3.out.size
    have HP3 := kp (HP.out.below HU3.out)
    have HK3 := kp (HK2.out.below hb3 HK2.out.lt)
    clear hb3 hc0 hc1' hc2 hc3
    obtain ⟨hc0, hc1', hc2, hc3⟩ := pg_cells HK3.out
    go_wp2_with fail
    refine (sem_awake u3).mono ?_
    rintro e u4 ⟨rfl, hb4⟩
    have HU4 := kp (HU3.out.trans (hb4.mono hs3))
    clear hb4
    go_wp2
    go_ret
    exact ⟨rfl, HU4.out⟩
  by_cases hbig : 300 < len1
  · go_enter Try.func7, Try.ntmps7
    go_wp2_with (first
      | ((with_reducible refine wpList_box_agg rfl 24 (.tmp 0) rfl (pgC pg0) rfl ?_); intro g1 u1 hg1 hk1 hu1; have HK1 := kp hk1; have HG1 := kp hg1; have HU1 := kp hu1; have hz1 := hu1.size; clear hg1 hk1 hu1))
    refine (sem_awake u1).mono ?_
    rintro e u2 ⟨rfl, hb2⟩
    have HU2 : Kept (Below w.heap.size w u2) := kp (HU1.out.trans (hb2.mono hz1))
    have hs2 := HU2.out.size
    have HP2 := kp (HP.out.below HU2.out)
    have HK2 := kp (HK1.out.below hb2 HK1.out.lt)
    obtain ⟨hc0, hc1', hc2, hc3⟩ := pg_cells HK2.out
    clear hb2
    go_wp2_with fail
    refine (ref_small _ pg0 u2 HP2.out hs2 _ HR.out).mono ?_
    rintro e u3 ⟨rfl, hb3⟩
    have HU3 : Kept (Below w.heap.size w u3) := kp (HU2.out.trans (hb3.mono hs2))
    have hs3 := HU3.out.size
    have HP3 := kp (HP.out.below HU3.out)
    have HK3 := kp (HK2.out.below hb3 HK2.out.lt)
    clear hb3 hc0 hc1' hc2 hc3
    obtain ⟨hc0, hc1', hc2, hc3⟩ := pg_cells HK3.out
    go_wp2_with fail
    refine (sem_awake u3).mono ?_
    rintro e u4 ⟨rfl, hb4⟩
    have HU4 := kp (HU3.out.trans (hb4.mono hs3))
    clear hb4
    go_wp2
    go_ret
    exact ⟨rfl, HU4.out⟩
  have HN3 := kp hbig
  go_enter Try.func7, Try.ntmps7
  go_wp2_with (first
    | ((with_reducible refine wpList_box_agg rfl 24 (.tmp 0) rfl (pgC pg0) rfl ?_); intro g1 u1 hg1 hk1 hu1; have HK1 := kp hk1; have HG1 := kp hg1; have HU1 := kp hu1; have hz1 := hu1.size; clear hg1 hk1 hu1))
  refine (sem_awake u1).mono ?_
  rintro e u2 ⟨rfl, hb2⟩
  have HU2 : Kept (Below w.heap.size w u2) := kp (HU1.out.trans (hb2.mono hz1))
  have hs2 := HU2.out.size
  have HP2 := kp (HP.out.below HU2.out)
  have HK2 := kp (HK1.out.below hb2 HK1.out.lt)
  obtain ⟨hc0, hc1', hc2, hc3⟩ := pg_cells HK2.out
  clear hb2
  go_wp2_with fail
  refine (ref_small _ pg0 u2 HP2.out hs2 _ HR.out).mono ?_
  rintro e u3 ⟨rfl, hb3⟩
  have HU3 : Kept (Below w.heap.size w u3) := kp (HU2.out.trans (hb3.mono hs2))
  have hs3 := HU3.out.size
  have HP3 := kp (HP.out.below HU3.out)
  have HK3 := kp (HK2.out.below hb3 HK2.out.lt)
  clear hb3 hc0 hc1' hc2 hc3
  obtain ⟨hc0, hc1', hc2, hc3⟩ := pg_cells HK3.out
  obtain ⟨ca, cb, cc, hcc⟩ : ∃ a b c, Q.check pg0 = (a, b, c) := ⟨_, _, _, rfl⟩
  have HC := kp hcc
  clear hcc
  by_cases hz : cc = 0
  case neg =>
    have HZ := kp hz
    have hb0 : ((cc : Int) != 0) = true := by simpa using hz
    clear hz
    go_wp2_with (first
      | (go_at_call 11; go_must (refine (sem_start _ pg0 u3 HP3.out hs3 ca cb cc HC.out).mono ?_); rintro e u4 ⟨q0, rfl, hok, hcf, hl0, h16, hb4⟩
         have HOk0 := kp hok; have HCf0 := kp hcf; have HL0 := kp hl0; have H17 := kp (conf_len h16); have HU4 := kp (HU3.out.trans (hb4.mono hs3)); have HK4 := kp (HK3.out.below hb4 HK3.out.lt); have hs4 := HU4.out.size; have hlk4 := HK4.out.lt
         clear hok hcf hl0 h16 hb4 hc0 hc1' hc2 hc3)
      | ((with_reducible show wpList _ _ _ (⟨some 7, _, _, _, _, _⟩ :: _) _ _); go_must (refine wpList_alloc_zero rfl 31 rfl _ conf_zero ?_); intro gC u5 hgC hk5 hu5; have HKc := kp hk5; have HGC := kp hgC; have HU5 := kp (HU4.out.trans (hu5.mono hs4)); have HM5 := kp hu5; have HK5 := kp (HK4.out.below hu5 hlk4); have hs5 := HU5.out.size; have hs45 := hu5.size; have hlC := hk5.lt; clear hk5 hu5 hgC)
      | ((with_reducible show wpList _ _ _ (⟨none, _, _, _, _, _⟩ :: _) _ _); (refine wpList_store_blk rfl 31 (.tmp 7) (.tmp 31) rfl gC (pcC q0) rfl rfl _ _ HKc.out (by rw [H17.out]; exact conf_size) (by rw [H17.out]; rfl) (conf_ones q0) ?_); intro u6 hk6 hg6 hs6'
         have HK26 := kp hk6; have HU6 := kp (HU5.out.grown hg6 hs5 (fun k e => by cases e; have := HGC.out; omega)); have HM6 := kp (HM5.out.grown hg6 hs45 (fun k e => by cases e; have := HGC.out; omega)); have hs6 := HU6.out.size; have hs46 := HM6.out.size
         have HK16 := kp (HK5.out.grown hg6 (fun e => by cases e; have := HGC.out; omega)); have HO6 := kp ((HOk0.out.below HM6.out).more hs46)
         have HGw : Kept (w.heap.size ≤ g1 ∧ w.heap.size ≤ gC ∧ g1 ≠ gC) := kp ⟨by have := HG1.out; omega, by have := HGC.out; omega, by have := HGC.out; omega⟩
         clear hk6 hg6 hs6'))
    go_ret
    exact ⟨rfl, HU6.out⟩
  have HZ := kp hz
  have HZ0 : Kept ((cc : Int) = 0) := kp (by omega)
  have hb0 : ((cc : Int) != 0) = false := by rw [HZ0.out]; rfl
  clear hz
  go_wp2_with (first
    | (go_at_call 11; go_must (refine (sem_start _ pg0 u3 HP3.out hs3 ca cb cc HC.out).mono ?_); rintro e u4 ⟨q0, rfl, hok, hcf, hl0, h16, hb4⟩
       have HOk0 := kp hok; have HCf0 := kp hcf; have HL0 := kp hl0; have H17 := kp (conf_len h16); have HU4 := kp (HU3.out.trans (hb4.mono hs3)); have HK4 := kp (HK3.out.below hb4 HK3.out.lt); have hs4 := HU4.out.size; have hlk4 := HK4.out.lt
       clear hok hcf hl0 h16 hb4 hc0 hc1' hc2 hc3)
    | ((with_reducible show wpList _ _ _ (⟨some 7, _, _, _, _, _⟩ :: _) _ _); go_must (refine wpList_alloc_zero rfl 31 rfl _ conf_zero ?_); intro gC u5 hgC hk5 hu5; have HKc := kp hk5; have HGC := kp hgC; have HU5 := kp (HU4.out.trans (hu5.mono hs4)); have HM5 := kp hu5; have HK5 := kp (HK4.out.below hu5 hlk4); have hs5 := HU5.out.size; have hs45 := hu5.size; have hlC := hk5.lt; clear hk5 hu5 hgC)
    | ((with_reducible show wpList _ _ _ (⟨none, _, _, _, _, _⟩ :: _) _ _); (refine wpList_store_blk rfl 31 (.tmp 7) (.tmp 31) rfl gC (pcC q0) rfl rfl _ _ HKc.out (by rw [H17.out]; exact conf_size) (by rw [H17.out]; rfl) (conf_ones q0) ?_); intro u6 hk6 hg6 hs6'
       have HK26 := kp hk6; have HU6 := kp (HU5.out.grown hg6 hs5 (fun k e => by cases e; have := HGC.out; omega)); have HM6 := kp (HM5.out.grown hg6 hs45 (fun k e => by cases e; have := HGC.out; omega)); have hs6 := HU6.out.size; have hs46 := HM6.out.size
       have HK16 := kp (HK5.out.grown hg6 (fun e => by cases e; have := HGC.out; omega)); have HO6 := kp ((HOk0.out.below HM6.out).more hs46)
       have HGw : Kept (w.heap.size ≤ g1 ∧ w.heap.size ≤ gC ∧ g1 ≠ gC) := kp ⟨by have := HG1.out; omega, by have := HGC.out; omega, by have := HGC.out; omega⟩
       clear hk6 hg6 hs6'))
  have HF : Kept (Fine pg0) := kp (fine_of (by rw [HC.out, HZ.out]))
  have HGd : Kept (∀ i, M.Good pg0 (runTo pg0 z1 i)) := kp (runTo_good HF.out HP.out.row.len z1)
  go_loopw [9] (fun v wr => ∃ (i : Nat) (q : Pc), i ≤ len1 ∧ v = .int .i64 i ∧ q.Ok wr wr.heap.size ∧ q.cf = runTo pg0 z1 i ∧ Blk wr gC 31 (pcC q) ∧ Blk wr g1 24 (pgC pg0) ∧ Below w.heap.size w wr) (fun v _ => len1 - (intOf v).toNat)
  case atStart => exact ⟨0, q0, by omega, rfl, HO6.out, by rw [runTo_zero]; exact HCf0.out HZ.out, HK26.out, HK16.out, HU6.out⟩
  case round =>
    obtain ⟨i, q, hi, rfl, hoq, hcf, hkc, hkp, hbl⟩ := hrel
    have HOq := kp hoq; have HCf := kp hcf; have HKC := kp hkc; have HKP := kp hkp; have HB := kp hbl
    have hBs := hbl.size; have hlC := hkc.lt; have hlP := hkp.lt
    have HPr := kp (HP.out.below hbl)
    have H17 := kp (good_17 (p := pg0) (q := q) (by rw [hcf]; exact HGd.out i))
    clear hoq hcf hkc hkp hbl
    by_cases hlt : i < len1
    · obtain ⟨ad, x, hA, hadB, hx, hx1, hcx0, hcx1⟩ := HPi.out.pick hlt
      have hadw : ad.block < wr.heap.size := by omega
      have HX := kp hx; have HX1 := kp hx1
      have HCx : Kept (wr.cell? (ad.add (i * 2)) = some (.int .i64 x.1) ∧ wr.cell? ⟨(ad.add (i * 2)).block, (ad.add (i * 2)).off + 1, none⟩ = some (.bool x.2)) := kp ⟨(HB.out.cell (by rw [add_block]; exact hadB)).trans hcx0, (HB.out.cell (by rw [add_block]; exact hadB)).trans hcx1⟩
      subst hA
      clear hx hx1 hcx0 hcx1
      go_wp2
      apply region_tail 7 (.is (pcA q) :: .is (pgA pg0) :: .is _ :: .is _ :: .is (.pointer (some (ad.add (i * 2)))) :: .is (.agg #[.int .i64 x.1, .bool x.2]) :: (.stepped wr.heap.size (M.step pg0 q.cf x.1 x.2)) :: [])
        [[], [], [], [], [(2, 43), (3, 44)], [(4, 45)], [(0, 41), (1, 42), (5, 46)], [(6, 47)]]
        [(0, 41), (1, 42), (2, 43), (3, 44), (4, 45), (5, 46), (6, 47)] (by kernel_rfl) (by kernel_rfl) (by kernel_rfl) (by kernel_rfl) (by kernel_rfl)
      case hob =>
        refine ⟨?o0, ?o1, ?o2, ?o3, ?o4, ?o5, ?o6, trivial⟩
        case o0 =>
          intro W hW; change wpList _ _ _ _ _ _
          go_must (refine wpList_load_blk rfl 31 (.tmp 7) rfl gC rfl _ (pcC q) _ (HKC.out.below hW hlC) Try.underlying31 rfl (by rw [H17.out]; exact conf_size) ?_)
          go_wp2; exact pure_post rfl rfl rfl
        case o1 =>
          intro W hW; change wpList _ _ _ _ _ _
          go_must (refine wpList_load_blk rfl 24 (.tmp 3) rfl g1 rfl _ (pgC pg0) _ (HKP.out.below hW hlP) Try.underlying24 rfl pg_size ?_)
          go_wp2; exact pure_post rfl rfl rfl
        case o2 => intro W hW; change wpList _ _ _ _ _ _; go_wp2; exact pure_post rfl rfl rfl
        case o3 => intro W hW; change wpList _ _ _ _ _ _; go_wp2; exact pure_post rfl rfl rfl
        case o4 => intro W hW; rintro _ rfl; rintro _ rfl; change wpList _ _ _ _ _ _; go_wp2; exact pure_post rfl rfl rfl
        case o5 =>
          intro W hW; rintro _ rfl; change wpList _ _ _ _ _ _
          have hd0 := (hW.cell (p := ad.add (i * 2)) (by rw [add_block]; exact hadw)).trans HCx.out.1
          have hd1 := (hW.cell (p := ⟨(ad.add (i * 2)).block, (ad.add (i * 2)).off + 1, none⟩) (by rw [add_block]; exact hadw)).trans HCx.out.2
          go_wp2; exact pure_post rfl rfl rfl
        case o6 =>
          intro W hW; rintro _ rfl; rintro _ rfl; rintro _ rfl; change wpList _ _ _ _ _ _
          go_wp2_with fail
          refine (sem_step W.heap.size pg0 HF.out q W (pg_more9 (HPr.out.below (hW.mono hBs)) (show w.heap.size ≤ W.heap.size by have := hW.size; omega)) ((HOq.out.below hW).more hW.size) (by rw [HCf.out]; exact HGd.out i) (Nat.le_refl _) x.1 HX1.out x.2).mono ?_
          rintro e w2 ⟨q', rfl, hm2, hcf2, hb2⟩
          have HB2 := kp hb2; have HM2 := kp hm2; have HC2 := kp hcf2; have hsW := hW.size; clear hb2 hm2 hcf2
          go_wp2
          exact made_post rfl rfl rfl HB2.out ⟨q', rfl, HM2.out.less hsW, HC2.out⟩
      case hend =>
        intro W hW; rintro _ rfl; rintro _ rfl; rintro _ rfl; rintro _ rfl; rintro _ rfl; rintro _ rfl; rintro _ ⟨q1, rfl, hmi, hcf1⟩
        simp only [given, put_lit, List.set, List.drop]
        have HW := kp hW; have HMi := kp hmi; have HCf1 : Kept (q1.cf = runTo pg0 z1 (i + 1)) := kp (by rw [hcf1, HCf.out, runTo_succ pg0 z1 i x HX.out])
        have H171 := kp (good_17 (p := pg0) (q := q1) (by rw [HCf1.out]; exact HGd.out (i + 1)))
        have HKC2 := kp (HKC.out.below hW hlC); have HKP2 := kp (HKP.out.below hW hlP)
        have hsW := hW.size
        have HsW : Kept (w.heap.size ≤ W.heap.size) := kp (by omega)
        clear hW hmi hcf1
        refine wpList_store_blk rfl 31 (.tmp 7) (.tmp 47) rfl gC (pcC q1) rfl rfl _ _ HKC2.out (by rw [H171.out]; exact conf_size) (by rw [H171.out, H17.out]) (conf_ones q1) ?_
        intro u7 hk7 hg7 hs7
        have HK27 := kp hk7; have HOq1 := kp (HMi.out.away hg7 hlC); have HB7 := kp ((HB.out.trans (HW.out.mono hBs)).grown hg7 HsW.out (fun k e => by cases e; exact HGw.out.2.1))
        have HKP7 := kp (HKP2.out.grown hg7 (fun e => by cases e; exact HGw.out.2.2 rfl))
        clear hk7 hg7 hs7
        go_wp2
        go_roundw
        case rel => exact ⟨i + 1, q1, by omega, by go_num, HOq1.out, HCf1.out, HK27.out, HKP7.out, HB7.out⟩
        case measure => simp [intOf]; omega
    · have hge : len1 ≤ i := by omega
      have HEnd : Kept (q.cf = runTo pg0 z1 len1) := kp (by rw [HCf.out, show i = len1 by omega])
      have HGq : Kept (M.Good pg0 q.cf) := kp (by rw [HEnd.out]; exact HGd.out len1)
      obtain ⟨k, hk⟩ : ∃ k : Nat, k = (a2 % 8).toNat := ⟨_, rfl⟩
      have h8 := HU8.out
      have hwr : wrap64 a2 = a2 := by unfold wrap64; omega
      have hkk : (wrap64 a2).tmod 8 = (k : Int) := by rw [hwr, Int.tmod_eq_emod_of_nonneg h8.1]; omega
      have hk8 : k < 8 := by omega
      have HIk : Kept (I64 (k : Int)) := kp (by unfold I64; omega)
      obtain ⟨b, hb⟩ : ∃ b, M.lives q.cf (k : Int) = b := ⟨_, rfl⟩
      obtain ⟨x, hx⟩ : ∃ x, atNd pg0 q.cf (k : Int) = x := ⟨_, rfl⟩
      have HBv := kp hb; have HXv := kp hx
      have hkp2 := pg_cells HKP.out
      have HKk := kp hkk
      have hk1 : k < 8 := hk8
      have hbw : w.heap.size ≤ wr.heap.size := hBs
      clear hk hb hx h8 hwr hkk
      go_wp2_with (first
        | ((with_reducible show wpList _ _ _ (⟨some 52, _, _, _, _, _⟩ :: _) _ _); go_must (refine wpList_load_blk rfl 31 (.tmp 7) rfl gC rfl _ (pcC q) _ HKC.out Try.underlying31 rfl (by rw [H17.out]; exact conf_size) ?_)))
      rw [HKk.out]
      refine (sem_at _ pg0 HF.out q wr (pg_more9 HPr.out hBs) HOq.out HGq.out (Nat.le_refl _) (k : Int) HIk.out b HBv.out x HXv.out).mono ?_
      rintro e w2 ⟨rfl, hb2⟩
      have HB2 := kp hb2; have hsB2 := hb2.size
      have HKC2 := kp (HKC.out.below hb2 hlC); have HKP2 := kp (HKP.out.below hb2 hlP)
      clear hb2 hkp2
      go_wp2_with (first
        | ((with_reducible show wpList _ _ _ (⟨some 11, _, _, _, _, _⟩ :: _) _ _); go_must (refine wpList_alloc_zero rfl 47 rfl _ node_zero9 ?_); intro gN w3 hgN hk3 hw3; have HKN := kp hk3; have HGN := kp hgN; have HB3 := kp (HB2.out.trans (hw3.mono hsB2)); have hs3 := HB3.out.size; have hlN := hk3.lt; clear hk3 hw3 hgN)
        | ((with_reducible show wpList _ _ _ (⟨none, _, _, _, _, _⟩ :: _) _ _); go_must (refine wpList_store_blk rfl 47 (.tmp 11) (.tmp 56) rfl gN (ndC x) rfl rfl _ _ HKN.out nd_size rfl (nd_ones9 x) ?_); intro w4 hk4 hg4 hs4'
           have HKN4 := kp hk4; have HB4 := kp (HB3.out.grown hg4 hs3 (fun k e => by cases e; have := HGN.out; omega)); have hs4 := HB4.out.size; have hlN4 := hk4.lt; clear hk4 hg4 hs4'))
      have HKC4 := kp (HKC.out.below HB4.out hlC); have HKP4 := kp (HKP.out.below HB4.out hlP)
      have hlC4 := HKC4.out.lt; have hlP4 := HKP4.out.lt
      have HOq4 := kp ((HOq.out.below HB4.out).more hs4); have HPr4 := kp (pg_more9 (HPr.out.below (HB4.out.mono hBs)) (show w.heap.size ≤ w4.heap.size by omega))
      clear HB2 HB3 HKC2 HKP2 HKN
      obtain ⟨cF, hcF⟩ : ∃ c, M.step pg0 q.cf (k : Int) false = c := ⟨_, rfl⟩
      obtain ⟨cT, hcT⟩ : ∃ c, M.step pg0 q.cf (k : Int) true = c := ⟨_, rfl⟩
      have HcF := kp hcF; have HcT := kp hcT
      have HGcF := kp (show M.Good pg0 cF by rw [← hcF]; exact M.good_step HF.out HP.out.row.len HGq.out (k : Int) false)
      have HGcT := kp (show M.Good pg0 cT by rw [← hcT]; exact M.good_step HF.out HP.out.row.len HGq.out (k : Int) true)
      clear hcF hcT
      apply region_typed (Fill w4.heap.size 31 (confGood w4.heap.size cF cT)) [(12, 13), (13, 14)] (.is (pcA q) :: .is (pgA pg0) :: .is _ :: .is (.agg #[.int .i64 (k : Int), .bool false]) :: (.stepped w4.heap.size cF cT cF) :: .is (pcA q) :: .is (pgA pg0) :: .is _ :: .is (.agg #[.int .i64 (k : Int), .bool true]) :: (.stepped w4.heap.size cF cT cT) :: (.var (confGood_ok w4.heap.size cF cT)) :: (.var (confGood_ok w4.heap.size cF cT)) :: (.good (confGood_ok w4.heap.size cF cT)) :: (.good (confGood_ok w4.heap.size cF cT)) :: [])
        [[], [], [], [(2, 60)], [(0, 58), (1, 59), (3, 61)], [], [], [], [(7, 65)], [(5, 63), (6, 64), (8, 66)], [], [], [(10, 13), (4, 62)], [(11, 14), (9, 67)]]
        [(0, 58), (1, 59), (2, 60), (3, 61), (4, 62), (5, 63), (6, 64), (7, 65), (8, 66), (9, 67), (10, 13), (11, 14)] (by kernel_rfl) (by kernel_rfl) (by kernel_rfl) (by kernel_rfl) (Fill.ok (confGood_ok w4.heap.size cF cT))
      case hob =>
        refine ⟨?o0, ?o1, ?o2, ?o3, ?o4, ?o5, ?o6, ?o7, ?o8, ?o9, ?o10, ?o11, ?o12, ?o13, trivial⟩
        case o0 =>
          intro W hF; have hW := hF.below; clear hF; change wpList _ _ _ _ _ _
          go_must (refine wpList_load_blk rfl 31 (.tmp 7) rfl gC rfl _ (pcC q) _ (HKC4.out.below hW hlC4) Try.underlying31 rfl (by rw [H17.out]; exact conf_size) ?_)
          go_wp2; exact typed_post (Fill.ok (confGood_ok w4.heap.size cF cT)) rfl rfl rfl
        case o1 =>
          intro W hF; have hW := hF.below; clear hF; change wpList _ _ _ _ _ _
          go_must (refine wpList_load_blk rfl 24 (.tmp 3) rfl g1 rfl _ (pgC pg0) _ (HKP4.out.below hW hlP4) Try.underlying24 rfl pg_size ?_)
          go_wp2; exact typed_post (Fill.ok (confGood_ok w4.heap.size cF cT)) rfl rfl rfl
        case o2 => intro W hF; have hW := hF.below; clear hF; change wpList _ _ _ _ _ _; go_wp2; exact typed_post (Fill.ok (confGood_ok w4.heap.size cF cT)) rfl rfl rfl
        case o3 => intro W hF; have hW := hF.below; clear hF; rintro _ rfl; change wpList _ _ _ _ _ _; go_wp2; exact typed_post (Fill.ok (confGood_ok w4.heap.size cF cT)) rfl rfl rfl
        case o4 =>
          intro W hF; have hW := hF.below; clear hF; rintro _ rfl; rintro _ rfl; rintro _ rfl; change wpList _ _ _ _ _ _
          go_wp2_with fail
          refine (sem_step W.heap.size pg0 HF.out q W (pg_more9 (HPr4.out.below hW) hW.size) ((HOq4.out.below hW).more hW.size) HGq.out (Nat.le_refl _) (k : Int) HIk.out false).mono ?_
          rintro e w2 ⟨q', rfl, hm2, hcf2, hb2⟩
          have HB2 := kp hb2; have HM2 := kp hm2; have HC2 := kp hcf2; have hsW := hW.size; clear hb2 hm2 hcf2
          go_wp2
          exact typed_made rfl rfl rfl (Fill.of_below HB2.out) ⟨q', rfl, HM2.out.less hsW, HC2.out.trans HcF.out⟩
        case o5 =>
          intro W hF; have hW := hF.below; clear hF; change wpList _ _ _ _ _ _
          go_must (refine wpList_load_blk rfl 31 (.tmp 7) rfl gC rfl _ (pcC q) _ (HKC4.out.below hW hlC4) Try.underlying31 rfl (by rw [H17.out]; exact conf_size) ?_)
          go_wp2; exact typed_post (Fill.ok (confGood_ok w4.heap.size cF cT)) rfl rfl rfl
        case o6 =>
          intro W hF; have hW := hF.below; clear hF; change wpList _ _ _ _ _ _
          go_must (refine wpList_load_blk rfl 24 (.tmp 3) rfl g1 rfl _ (pgC pg0) _ (HKP4.out.below hW hlP4) Try.underlying24 rfl pg_size ?_)
          go_wp2; exact typed_post (Fill.ok (confGood_ok w4.heap.size cF cT)) rfl rfl rfl
        case o7 => intro W hF; have hW := hF.below; clear hF; change wpList _ _ _ _ _ _; go_wp2; exact typed_post (Fill.ok (confGood_ok w4.heap.size cF cT)) rfl rfl rfl
        case o8 => intro W hF; have hW := hF.below; clear hF; rintro _ rfl; change wpList _ _ _ _ _ _; go_wp2; exact typed_post (Fill.ok (confGood_ok w4.heap.size cF cT)) rfl rfl rfl
        case o9 =>
          intro W hF; have hW := hF.below; clear hF; rintro _ rfl; rintro _ rfl; rintro _ rfl; change wpList _ _ _ _ _ _
          go_wp2_with fail
          refine (sem_step W.heap.size pg0 HF.out q W (pg_more9 (HPr4.out.below hW) hW.size) ((HOq4.out.below hW).more hW.size) HGq.out (Nat.le_refl _) (k : Int) HIk.out true).mono ?_
          rintro e w2 ⟨q', rfl, hm2, hcf2, hb2⟩
          have HB2 := kp hb2; have HM2 := kp hm2; have HC2 := kp hcf2; have hsW := hW.size; clear hb2 hm2 hcf2
          go_wp2
          exact typed_made rfl rfl rfl (Fill.of_below HB2.out) ⟨q', rfl, HM2.out.less hsW, HC2.out.trans HcT.out⟩
        case o10 =>
          intro W hF; have hW := hF.below; clear hF; change wpList _ _ _ _ _ _
          have hsW := hW.size
          go_must (refine wpList_alloc_zero rfl 31 rfl _ conf_zero ?_)
          intro gx wx hgx hkx hbx
          have HKx := kp hkx; have HGx := kp hgx; have HBx := kp hbx
          clear hgx hkx hbx
          go_wp2
          exact typed_made rfl rfl rfl (Fill.of_below HBx.out) ⟨gx, _, rfl, by have := HGx.out; omega, HKx.out, rfl⟩
        case o11 =>
          intro W hF; have hW := hF.below; clear hF; change wpList _ _ _ _ _ _
          have hsW := hW.size
          go_must (refine wpList_alloc_zero rfl 31 rfl _ conf_zero ?_)
          intro gx wx hgx hkx hbx
          have HKx := kp hkx; have HGx := kp hgx; have HBx := kp hbx
          clear hgx hkx hbx
          go_wp2
          exact typed_made rfl rfl rfl (Fill.of_below HBx.out) ⟨gx, _, rfl, by have := HGx.out; omega, HKx.out, rfl⟩
        case o12 =>
          intro W hF; have hW := hF.below; clear hF; rintro _ ⟨gA, cA, rfl, hgA, hkA, hlA⟩; rintro _ ⟨qa, rfl, hma, hca⟩; change wpList _ _ _ _ _ _
          have HKn := kp hkA; have HGn := kp hgA; have HMn := kp hma; have HCn := kp hca
          have HGd2 := kp (show M.Good pg0 qa.cf by rw [hca]; exact HGcF.out)
          have H17n := kp (good_17 HGd2.out)
          have hl17 : (pcC qa).length = cA.length := by rw [H17n.out, hlA]
          go_must (refine wpList_store_blk rfl 31 (.tmp 13) (.tmp 62) rfl gA (pcC qa) rfl rfl _ _ hkA (by rw [H17n.out]; exact conf_size) hl17.symm (conf_ones qa) ?_)
          intro W2 hk2 hg2 _
          have HK2 := kp hk2; have HG2 := kp hg2
          clear hk2 hg2 hkA hlA hl17 hW hgA hma hca
          have HGood : Kept (confGood w4.heap.size cF cT (pcC qa) W2) := kp ⟨qa, rfl, H17n.out, HMn.out.typed HKn.out HG2.out, .inl HCn.out⟩
          have HFill : Kept (Fill w4.heap.size 31 (confGood w4.heap.size cF cT) W W2) := kp (Fill.of_store HG2.out HGn.out HKn.out HK2.out HGood.out)
          go_wp2
          exact typed_stored (d := 13) rfl rfl rfl HFill.out ⟨gA, _, rfl, HGn.out, HK2.out, HGood.out⟩
        case o13 =>
          intro W hF; have hW := hF.below; clear hF; rintro _ ⟨gB, cB, rfl, hgB, hkB, hlB⟩; rintro _ ⟨qb, rfl, hmb, hcb⟩; change wpList _ _ _ _ _ _
          have HKn := kp hkB; have HGn := kp hgB; have HMn := kp hmb; have HCn := kp hcb
          have HGd2 := kp (show M.Good pg0 qb.cf by rw [hcb]; exact HGcT.out)
          have H17n := kp (good_17 HGd2.out)
          have hl17 : (pcC qb).length = cB.length := by rw [H17n.out, hlB]
          go_must (refine wpList_store_blk rfl 31 (.tmp 14) (.tmp 67) rfl gB (pcC qb) rfl rfl _ _ hkB (by rw [H17n.out]; exact conf_size) hl17.symm (conf_ones qb) ?_)
          intro W2 hk2 hg2 _
          have HK2 := kp hk2; have HG2 := kp hg2
          clear hk2 hg2 hkB hlB hl17 hW hgB hmb hcb
          have HGood : Kept (confGood w4.heap.size cF cT (pcC qb) W2) := kp ⟨qb, rfl, H17n.out, HMn.out.typed HKn.out HG2.out, .inr HCn.out⟩
          have HFill : Kept (Fill w4.heap.size 31 (confGood w4.heap.size cF cT) W W2) := kp (Fill.of_store HG2.out HGn.out HKn.out HK2.out HGood.out)
          go_wp2
          exact typed_stored (d := 14) rfl rfl rfl HFill.out ⟨gB, _, rfl, HGn.out, HK2.out, HGood.out⟩
      case hend =>
        intro W hF; have hW := hF.below; clear hF; rintro _ rfl; rintro _ rfl; rintro _ rfl; rintro _ rfl; rintro _ ⟨qa, rfl, hma, hca⟩; rintro _ rfl; rintro _ rfl; rintro _ rfl; rintro _ rfl; rintro _ ⟨qb, rfl, hmb, hcb⟩; rintro _ ⟨gA, cA, rfl, hgA, hkA, hlA⟩; rintro _ ⟨gB, cB, rfl, hgB, hkB, hlB⟩
        simp only [tgiven, tends, put_lit, List.set]
        rintro ⟨gA2, cA2, eA, _, hkA2, qa2, rfl, h17a, hma2, hca2⟩
        rintro ⟨gB2, cB2, eB, _, hkB2, qb2, rfl, h17b, hmb2, hcb2⟩
        have eA3 : gA = gA2 := by injection eA with eA; injection eA with eA; injection eA
        have eB3 : gB = gB2 := by injection eB with eB; injection eB with eB; injection eB
        subst eA3 eB3
        clear hma hca hmb hcb hkA hkB hlA hlB hgA hgB eA eB
        obtain ⟨qa, rfl⟩ : ∃ x, x = qa2 := ⟨_, rfl⟩
        obtain ⟨qb, rfl⟩ : ∃ x, x = qb2 := ⟨_, rfl⟩
        have HW := kp hW
        have HKA := kp hkA2; have HKB := kp hkB2; have HMa := kp hma2; have HMb := kp hmb2; have H17a := kp h17a; have H17b := kp h17b
        have HGa := kp (show M.Good pg0 qa.cf by rcases hca2 with h | h <;> rw [h] <;> first | exact HGcF.out | exact HGcT.out)
        have HGb := kp (show M.Good pg0 qb.cf by rcases hcb2 with h | h <;> rw [h] <;> first | exact HGcF.out | exact HGcT.out)
        have HBW : Kept (Below w.heap.size w W) := kp (HB.out.trans ((HB4.out.trans (HW.out.mono hs4)).mono hBs))
        have HKN5 := kp (HKN4.out.below HW.out hlN4)
        have hwW := HBW.out.size
        have HZz : Kept (¬ (b = true ∧ x.kind = 8 ∧ x.next ≠ x.alt) → qa.cf = qb.cf) := kp (fun h => by
          have he : cF = cT := by
            rw [← HcF.out, ← HcT.out]
            refine M.step_way (fun hh => h ?_)
            have hbt : b = true := by rw [← HBv.out, M.lives_nat]; exact hh.1
            have hxe := atNd_is (HBv.out.trans hbt) (show M.node pg0 q.cf k = M.node pg0 q.cf k from rfl)
            rw [HXv.out] at hxe
            rw [hxe]
            exact ⟨hbt, hh.2⟩
          rw [← he] at hca2 hcb2
          rcases hca2 with h1 | h1 <;> rcases hcb2 with h2 | h2 <;> rw [h1, h2])
        have hd0 := HKN5.out.cell 0; have hd2 := HKN5.out.cell 2; have hd3 := HKN5.out.cell 3
        simp only [ndC, List.getElem?_cons_zero, List.getElem?_cons_succ] at hd0 hd2 hd3
        clear hW hkA2 hkB2 hma2 hmb2 hca2 hcb2 h17a h17b
        by_cases hall : b = true ∧ x.kind = 8 ∧ x.next ≠ x.alt
        · obtain ⟨hb, h8, hn⟩ := hall
          subst hb
          have e8 : (x.kind == 8) = true := by rw [beq_iff_eq]; exact h8
          have en : (x.next != x.alt) = true := by rw [bne_iff_ne]; exact hn
          clear h8 hn
          go_wp2
          go_ret
          exact ⟨rfl, HBW.out⟩
        have HEq := kp (HZz.out hall)
        have HAll := kp hall
        clear hall
        cases b
        · skip
          go_wp2_with (first
            | ((with_reducible show wpList _ _ _ (⟨some 82, _, _, _, _, _⟩ :: _) _ _); go_must (refine wpList_load_blk_w rfl 31 (.tmp 13) rfl gA rfl _ (pcC qa) _ HKA.out Try.underlying31 rfl (by rw [H17a.out]; exact conf_size) ?_))
            | ((with_reducible show wpList _ _ _ (⟨some 83, _, _, _, _, _⟩ :: _) _ _); go_must (refine wpList_load_blk_w rfl 31 (.tmp 14) rfl gB rfl _ (pcC qb) _ HKB.out Try.underlying31 rfl (by rw [H17b.out]; exact conf_size) ?_))
            | (go_at_call 26; go_must (refine (sem_same W.heap.size qa qb W HMa.out.ok HMb.out.ok (Nat.le_refl _) (good_8s HGa.out) (good_8s HGb.out) HGa.out.owns HGb.out.owns true ⟨fun _ => HEq.out, fun _ => rfl⟩).mono ?_); rintro e w10 ⟨rfl, hb10⟩
               have HBx := kp (HBW.out.trans (hb10.mono hwW)); clear hb10))
          go_ret
          exact ⟨rfl, HBx.out⟩
        by_cases h8 : x.kind = 8
        · have en : (x.next != x.alt) = false := by
            have := HAll.out
            cases hh : (x.next != x.alt) with
            | false => rfl
            | true => exact absurd ⟨rfl, h8, by rwa [bne_iff_ne] at hh⟩ this
          have e8 : (x.kind == 8) = true := by rw [beq_iff_eq]; exact h8
          clear h8
          go_wp2_with (first
            | ((with_reducible show wpList _ _ _ (⟨some 82, _, _, _, _, _⟩ :: _) _ _); go_must (refine wpList_load_blk_w rfl 31 (.tmp 13) rfl gA rfl _ (pcC qa) _ HKA.out Try.underlying31 rfl (by rw [H17a.out]; exact conf_size) ?_))
            | ((with_reducible show wpList _ _ _ (⟨some 83, _, _, _, _, _⟩ :: _) _ _); go_must (refine wpList_load_blk_w rfl 31 (.tmp 14) rfl gB rfl _ (pcC qb) _ HKB.out Try.underlying31 rfl (by rw [H17b.out]; exact conf_size) ?_))
            | (go_at_call 26; go_must (refine (sem_same W.heap.size qa qb W HMa.out.ok HMb.out.ok (Nat.le_refl _) (good_8s HGa.out) (good_8s HGb.out) HGa.out.owns HGb.out.owns true ⟨fun _ => HEq.out, fun _ => rfl⟩).mono ?_); rintro e w10 ⟨rfl, hb10⟩
               have HBx := kp (HBW.out.trans (hb10.mono hwW)); clear hb10))
          go_ret
          exact ⟨rfl, HBx.out⟩
        have e8 : (x.kind == 8) = false := by rw [beq_eq_false_iff_ne]; exact h8
        clear h8
        go_wp2_with (first
          | ((with_reducible show wpList _ _ _ (⟨some 82, _, _, _, _, _⟩ :: _) _ _); go_must (refine wpList_load_blk_w rfl 31 (.tmp 13) rfl gA rfl _ (pcC qa) _ HKA.out Try.underlying31 rfl (by rw [H17a.out]; exact conf_size) ?_))
          | ((with_reducible show wpList _ _ _ (⟨some 83, _, _, _, _, _⟩ :: _) _ _); go_must (refine wpList_load_blk_w rfl 31 (.tmp 14) rfl gB rfl _ (pcC qb) _ HKB.out Try.underlying31 rfl (by rw [H17b.out]; exact conf_size) ?_))
          | (go_at_call 26; go_must (refine (sem_same W.heap.size qa qb W HMa.out.ok HMb.out.ok (Nat.le_refl _) (good_8s HGa.out) (good_8s HGb.out) HGa.out.owns HGb.out.owns true ⟨fun _ => HEq.out, fun _ => rfl⟩).mono ?_); rintro e w10 ⟨rfl, hb10⟩
             have HBx := kp (HBW.out.trans (hb10.mono hwW)); clear hb10))
        go_ret
        exact ⟨rfl, HBx.out⟩
end Go.Proofs.Ytkblgafackmckaa
