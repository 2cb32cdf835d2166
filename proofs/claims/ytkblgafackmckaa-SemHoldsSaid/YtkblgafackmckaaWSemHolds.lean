/- SemHolds, walked. -/
import Derived.Test.YtkblgafackmckaaSemLaw2
namespace Go.Proofs.Ytkblgafackmckaa
open Go.RowKit

set_option maxRecDepth 1000000 in
set_option maxHeartbeats 8000000 in
theorem walkSemHolds (pg0 : Pg) (a1 : Option Addr) (len1 cap1 : Nat) (z1 : List (Int × Bool)) (w : World) (w0 : pg0.Ok w w.heap.size) (w1 : Picks w w.heap.size a1 len1 z1) (c1 : len1 ≤ cap1 ∧ cap1 ≤ maxLen) :
    Calls Try.prog 4 #[pgA pg0, .slice a1 len1 cap1] w fun e w' => e = .returned (.bool true) ∧ Below w.heap.size w w' := by
  have HP := kp w0
  have HPi := kp w1
  have hc1 := c1.1; have hm1 := c1.2
  unfold maxLen at hm1
  obtain ⟨r, hr⟩ : ∃ r, Q.small pg0 = r := ⟨_, rfl⟩
  have HR := kp hr
  clear hr w0 w1 c1
  rw [pgA_is]
  cases r
  · go_enter Try.func4, Try.ntmps4
    go_wp2_with (first
      | ((with_reducible refine wpList_box_agg rfl 24 (.tmp 0) rfl (pgC pg0) rfl ?_); intro g1 u1 hg1 hk1 hu1; have HK1 := kp hk1; have HG1 := kp hg1; have HU1 := kp hu1; have hz1 := hu1.size; clear hg1 hk1 hu1))
    refine (sem_awake u1).mono ?_
    rintro e u2 ⟨rfl, hb2⟩
    have HU2 : Kept (Below w.heap.size w u2) := kp (HU1.out.trans (hb2.mono hz1))
    have hs2 := HU2.out.size
    have HP2 := kp (HP.out.below HU2.out)
    have HK2 := kp (HK1.out.below hb2 HK1.out.lt)
    obtain ⟨hc0, hc1', hc2, hc3⟩ := pg_cells HK2.out
    clear hb2
    go_wp2_with fail
    refine (ref_small _ pg0 u2 HP2.out hs2 _ HR.out).mono ?_
    rintro e u3 ⟨rfl, hb3⟩
    have HU3 : Kept (Below w.heap.size w u3) := kp (HU2.out.trans (hb3.mono hs2))
    have hs3 := HU3.out.size
    have HP3 := kp (HP.out.below HU3.out)
    have HK3 := kp (HK2.out.below hb3 HK2.out.lt)
    clear hb3 hc0 hc1' hc2 hc3
    obtain ⟨hc0, hc1', hc2, hc3⟩ := pg_cells HK3.out
    go_wp2_with fail
    refine (sem_awake u3).mono ?_
    rintro e u4 ⟨rfl, hb4⟩
    have HU4 := kp (HU3.out.trans (hb4.mono hs3))
    clear hb4
    go_wp2
    go_ret
    exact ⟨rfl, HU4.out⟩
  by_cases hbig : 300 < len1
  · go_enter Try.func4, Try.ntmps4
    go_wp2_with (first
      | ((with_reducible refine wpList_box_agg rfl 24 (.tmp 0) rfl (pgC pg0) rfl ?_); intro g1 u1 hg1 hk1 hu1; have HK1 := kp hk1; have HG1 := kp hg1; have HU1 := kp hu1; have hz1 := hu1.size; clear hg1 hk1 hu1))
    refine (sem_awake u1).mono ?_
    rintro e u2 ⟨rfl, hb2⟩
    have HU2 : Kept (Below w.heap.size w u2) := kp (HU1.out.trans (hb2.mono hz1))
    have hs2 := HU2.out.size
    have HP2 := kp (HP.out.below HU2.out)
    have HK2 := kp (HK1.out.below hb2 HK1.out.lt)
    obtain ⟨hc0, hc1', hc2, hc3⟩ := pg_cells HK2.out
    clear hb2
    go_wp2_with fail
    refine (ref_small _ pg0 u2 HP2.out hs2 _ HR.out).mono ?_
    rintro e u3 ⟨rfl, hb3⟩
    have HU3 : Kept (Below w.heap.size w u3) := kp (HU2.out.trans (hb3.mono hs2))
    have hs3 := HU3.out.size
    have HP3 := kp (HP.out.below HU3.out)
    have HK3 := kp (HK2.out.below hb3 HK2.out.lt)
    clear hb3 hc0 hc1' hc2 hc3
    obtain ⟨hc0, hc1', hc2, hc3⟩ := pg_cells HK3.out
    go_wp2_with fail
    refine (sem_awake u3).mono ?_
    rintro e u4 ⟨rfl, hb4⟩
    have HU4 := kp (HU3.out.trans (hb4.mono hs3))
    clear hb4
    go_wp2
    go_ret
    exact ⟨rfl, HU4.out⟩
  have HN3 := kp hbig
  go_enter Try.func4, Try.ntmps4
  go_wp2_with (first
    | ((with_reducible refine wpList_box_agg rfl 24 (.tmp 0) rfl (pgC pg0) rfl ?_); intro g1 u1 hg1 hk1 hu1; have HK1 := kp hk1; have HG1 := kp hg1; have HU1 := kp hu1; have hz1 := hu1.size; clear hg1 hk1 hu1))
  refine (sem_awake u1).mono ?_
  rintro e u2 ⟨rfl, hb2⟩
  have HU2 : Kept (Below w.heap.size w u2) := kp (HU1.out.trans (hb2.mono hz1))
  have hs2 := HU2.out.size
  have HP2 := kp (HP.out.below HU2.out)
  have HK2 := kp (HK1.out.below hb2 HK1.out.lt)
  obtain ⟨hc0, hc1', hc2, hc3⟩ := pg_cells HK2.out
  clear hb2
  go_wp2_with fail
  refine (ref_small _ pg0 u2 HP2.out hs2 _ HR.out).mono ?_
  rintro e u3 ⟨rfl, hb3⟩
  have HU3 : Kept (Below w.heap.size w u3) := kp (HU2.out.trans (hb3.mono hs2))
  have hs3 := HU3.out.size
  have HP3 := kp (HP.out.below HU3.out)
  have HK3 := kp (HK2.out.below hb3 HK2.out.lt)
  clear hb3 hc0 hc1' hc2 hc3
  obtain ⟨hc0, hc1', hc2, hc3⟩ := pg_cells HK3.out
  obtain ⟨ca, cb, cc, hcc⟩ : ∃ a b c, Q.check pg0 = (a, b, c) := ⟨_, _, _, rfl⟩
  have HC := kp hcc
  clear hcc
  by_cases hz : cc = 0
  case neg =>
    have HZ := kp hz
    have hb0 : ((cc : Int) != 0) = true := by simpa using hz
    clear hz
    go_wp2_with (first
      | (go_at_call 11; go_must (refine (sem_start _ pg0 u3 HP3.out hs3 ca cb cc HC.out).mono ?_); rintro e u4 ⟨q0, rfl, hok, hcf, hl0, h16, hb4⟩
         have HOk0 := kp hok; have HCf0 := kp hcf; have HL0 := kp hl0; have H17 := kp (conf_len h16); have HU4 := kp (HU3.out.trans (hb4.mono hs3)); have HK4 := kp (HK3.out.below hb4 HK3.out.lt); have hs4 := HU4.out.size; have hlk4 := HK4.out.lt
         clear hok hcf hl0 h16 hb4 hc0 hc1' hc2 hc3)
      | ((with_reducible show wpList _ _ _ (⟨some 5, _, _, _, _, _⟩ :: _) _ _); go_must (refine wpList_alloc_zero rfl 31 rfl _ conf_zero ?_); intro gC u5 hgC hk5 hu5; have HKc := kp hk5; have HGC := kp hgC; have HU5 := kp (HU4.out.trans (hu5.mono hs4)); have HM5 := kp hu5; have HK5 := kp (HK4.out.below hu5 hlk4); have hs5 := HU5.out.size; have hs45 := hu5.size; have hlC := hk5.lt; clear hk5 hu5 hgC)
      | ((with_reducible show wpList _ _ _ (⟨none, _, _, _, _, _⟩ :: _) _ _); (refine wpList_store_blk rfl 31 (.tmp 5) (.tmp 28) rfl gC (pcC q0) rfl rfl _ _ HKc.out (by rw [H17.out]; exact conf_size) (by rw [H17.out]; rfl) (conf_ones q0) ?_); intro u6 hk6 hg6 hs6'
         have HK26 := kp hk6; have HU6 := kp (HU5.out.grown hg6 hs5 (fun k e => by cases e; have := HGC.out; omega)); have HM6 := kp (HM5.out.grown hg6 hs45 (fun k e => by cases e; have := HGC.out; omega)); have hs6 := HU6.out.size; have hs46 := HM6.out.size
         have HK16 := kp (HK5.out.grown hg6 (fun e => by cases e; have := HGC.out; omega)); have HO6 := kp ((HOk0.out.below HM6.out).more hs46)
         have HGw : Kept (w.heap.size ≤ g1 ∧ w.heap.size ≤ gC ∧ g1 ≠ gC) := kp ⟨by have := HG1.out; omega, by have := HGC.out; omega, by have := HGC.out; omega⟩
         have hcL : u6.cell? ⟨gC, 0, none⟩ = some (.slice q0.A 0 q0.cap) := by have h := conf_cell HK26.out; rwa [HL0.out HZ.out] at h
         clear hk6 hg6 hs6'))
    go_ret
    exact ⟨rfl, HU6.out⟩
  have HZ := kp hz
  have HZ0 : Kept ((cc : Int) = 0) := kp (by omega)
  have hb0 : ((cc : Int) != 0) = false := by rw [HZ0.out]; rfl
  clear hz
  go_wp2_with (first
    | (go_at_call 11; go_must (refine (sem_start _ pg0 u3 HP3.out hs3 ca cb cc HC.out).mono ?_); rintro e u4 ⟨q0, rfl, hok, hcf, hl0, h16, hb4⟩
       have HOk0 := kp hok; have HCf0 := kp hcf; have HL0 := kp hl0; have H17 := kp (conf_len h16); have HU4 := kp (HU3.out.trans (hb4.mono hs3)); have HK4 := kp (HK3.out.below hb4 HK3.out.lt); have hs4 := HU4.out.size; have hlk4 := HK4.out.lt
       clear hok hcf hl0 h16 hb4 hc0 hc1' hc2 hc3)
    | ((with_reducible show wpList _ _ _ (⟨some 5, _, _, _, _, _⟩ :: _) _ _); go_must (refine wpList_alloc_zero rfl 31 rfl _ conf_zero ?_); intro gC u5 hgC hk5 hu5; have HKc := kp hk5; have HGC := kp hgC; have HU5 := kp (HU4.out.trans (hu5.mono hs4)); have HM5 := kp hu5; have HK5 := kp (HK4.out.below hu5 hlk4); have hs5 := HU5.out.size; have hs45 := hu5.size; have hlC := hk5.lt; clear hk5 hu5 hgC)
    | ((with_reducible show wpList _ _ _ (⟨none, _, _, _, _, _⟩ :: _) _ _); (refine wpList_store_blk rfl 31 (.tmp 5) (.tmp 28) rfl gC (pcC q0) rfl rfl _ _ HKc.out (by rw [H17.out]; exact conf_size) (by rw [H17.out]; rfl) (conf_ones q0) ?_); intro u6 hk6 hg6 hs6'
       have HK26 := kp hk6; have HU6 := kp (HU5.out.grown hg6 hs5 (fun k e => by cases e; have := HGC.out; omega)); have HM6 := kp (HM5.out.grown hg6 hs45 (fun k e => by cases e; have := HGC.out; omega)); have hs6 := HU6.out.size; have hs46 := HM6.out.size
       have HK16 := kp (HK5.out.grown hg6 (fun e => by cases e; have := HGC.out; omega)); have HO6 := kp ((HOk0.out.below HM6.out).more hs46)
       have HGw : Kept (w.heap.size ≤ g1 ∧ w.heap.size ≤ gC ∧ g1 ≠ gC) := kp ⟨by have := HG1.out; omega, by have := HGC.out; omega, by have := HGC.out; omega⟩
       clear hk6 hg6 hs6'))
  have HF : Kept (Fine pg0) := kp (fine_of (by rw [HC.out, HZ.out]))
  have HGd : Kept (∀ i, M.Good pg0 (runTo pg0 z1 i)) := kp (runTo_good HF.out HP.out.row.len z1)
  go_loopw [7] (fun v wr => ∃ (i : Nat) (q : Pc), i ≤ len1 ∧ v = .int .i64 i ∧ q.Ok wr wr.heap.size ∧ q.cf = runTo pg0 z1 i ∧ Blk wr gC 31 (pcC q) ∧ Blk wr g1 24 (pgC pg0) ∧ Below w.heap.size w wr) (fun v _ => len1 - (intOf v).toNat)
  case atStart => exact ⟨0, q0, by omega, rfl, HO6.out, by rw [runTo_zero]; exact HCf0.out HZ.out, HK26.out, HK16.out, HU6.out⟩
  case round =>
    obtain ⟨i, q, hi, rfl, hoq, hcf, hkc, hkp, hbl⟩ := hrel
    have HOq := kp hoq; have HCf := kp hcf; have HKC := kp hkc; have HKP := kp hkp; have HB := kp hbl
    have hBs := hbl.size; have hlC := hkc.lt; have hlP := hkp.lt
    have HPr := kp (HP.out.below hbl)
    have H17 := kp (good_17 (p := pg0) (q := q) (by rw [hcf]; exact HGd.out i))
    clear hoq hcf hkc hkp hbl
    by_cases hlt : i < len1
    · skip
      obtain ⟨ad, x, hA, hadB, hx, hx1, hcx0, hcx1⟩ := HPi.out.pick hlt
      have hadw : ad.block < wr.heap.size := by omega
      have HX := kp hx; have HX1 := kp hx1
      have HCx : Kept (wr.cell? (ad.add (i * 2)) = some (.int .i64 x.1) ∧ wr.cell? ⟨(ad.add (i * 2)).block, (ad.add (i * 2)).off + 1, none⟩ = some (.bool x.2)) := kp ⟨(HB.out.cell (by rw [add_block]; exact hadB)).trans hcx0, (HB.out.cell (by rw [add_block]; exact hadB)).trans hcx1⟩
      subst hA
      clear hx hx1 hcx0 hcx1
      go_wp2
      apply region_tail 8 (.is (pcA q) :: .is (pgA pg0) :: .is _ :: .is _ :: .is (.pointer (some (ad.add (i * 2)))) :: .is (.agg #[.int .i64 x.1, .bool x.2]) :: (.stepped wr.heap.size (M.step pg0 q.cf x.1 x.2)) :: (.confNew wr.heap.size) :: [])
        [[], [], [], [], [(2, 44), (3, 45)], [(4, 46)], [(0, 42), (1, 43), (5, 47)], [], [(7, 8), (6, 48)]]
        [(0, 42), (1, 43), (2, 44), (3, 45), (4, 46), (5, 47), (6, 48), (7, 8)] (by kernel_rfl) (by kernel_rfl) (by kernel_rfl) (by kernel_rfl) (by kernel_rfl)
      case hob =>
        refine ⟨?o0, ?o1, ?o2, ?o3, ?o4, ?o5, ?o6, ?o7, trivial⟩
        case o0 =>
          intro W hW; change wpList _ _ _ _ _ _
          go_must (refine wpList_load_blk rfl 31 (.tmp 5) rfl gC rfl _ (pcC q) _ (HKC.out.below hW hlC) Try.underlying31 rfl (by rw [H17.out]; exact conf_size) ?_)
          go_wp2; exact pure_post rfl rfl rfl
        case o1 =>
          intro W hW; change wpList _ _ _ _ _ _
          go_must (refine wpList_load_blk rfl 24 (.tmp 2) rfl g1 rfl _ (pgC pg0) _ (HKP.out.below hW hlP) Try.underlying24 rfl pg_size ?_)
          go_wp2; exact pure_post rfl rfl rfl
        case o2 => intro W hW; change wpList _ _ _ _ _ _; go_wp2; exact pure_post rfl rfl rfl
        case o3 => intro W hW; change wpList _ _ _ _ _ _; go_wp2; exact pure_post rfl rfl rfl
        case o4 => intro W hW; rintro _ rfl; rintro _ rfl; change wpList _ _ _ _ _ _; go_wp2; exact pure_post rfl rfl rfl
        case o5 =>
          intro W hW; rintro _ rfl; change wpList _ _ _ _ _ _
          have hd0 := (hW.cell (p := ad.add (i * 2)) (by rw [add_block]; exact hadw)).trans HCx.out.1
          have hd1 := (hW.cell (p := ⟨(ad.add (i * 2)).block, (ad.add (i * 2)).off + 1, none⟩) (by rw [add_block]; exact hadw)).trans HCx.out.2
          go_wp2; exact pure_post rfl rfl rfl
        case o6 =>
          intro W hW; rintro _ rfl; rintro _ rfl; rintro _ rfl; change wpList _ _ _ _ _ _
          go_wp2_with fail
          refine (sem_step W.heap.size pg0 HF.out q W (pg_more9 (HPr.out.below (hW.mono hBs)) (show w.heap.size ≤ W.heap.size by have := hW.size; omega)) ((HOq.out.below hW).more hW.size) (by rw [HCf.out]; exact HGd.out i) (Nat.le_refl _) x.1 HX1.out x.2).mono ?_
          rintro e w2 ⟨q', rfl, hm2, hcf2, hb2⟩
          have HB2 := kp hb2; have HM2 := kp hm2; have HC2 := kp hcf2; have hsW := hW.size; clear hb2 hm2 hcf2
          go_wp2
          exact made_post rfl rfl rfl HB2.out ⟨q', rfl, HM2.out.less hsW, HC2.out⟩
        case o7 =>
          intro W hW; change wpList _ _ _ _ _ _
          have hsW := hW.size
          go_must (refine wpList_alloc_zero rfl 31 rfl _ conf_zero ?_)
          intro gx wx hgx hkx hbx
          have HKx := kp hkx; have HGx := kp hgx; have HBx := kp hbx
          clear hgx hkx hbx
          go_wp2
          exact made_post rfl rfl rfl HBx.out ⟨gx, rfl, HKx.out, by have := HGx.out; omega⟩
      case hend =>
        intro W hW; rintro _ rfl; rintro _ rfl; rintro _ rfl; rintro _ rfl; rintro _ rfl; rintro _ rfl; rintro _ ⟨q1, rfl, hmi, hcf1⟩; rintro _ ⟨gD, rfl, hkD, hgD⟩
        simp only [given, put_lit, List.set, List.drop]
        have HW := kp hW; have HMm := kp hmi; have HCf1 : Kept (q1.cf = runTo pg0 z1 (i + 1)) := kp (by rw [hcf1, HCf.out, runTo_succ pg0 z1 i x HX.out])
        have HStep := kp (show q1.cf = M.step pg0 q.cf x.1 x.2 from hcf1)
        have H171 := kp (good_17 (p := pg0) (q := q1) (by rw [HCf1.out]; exact HGd.out (i + 1)))
        have HG1 := kp (show M.Good pg0 q1.cf by rw [HCf1.out]; exact HGd.out (i + 1))
        have HGq := kp (show M.Good pg0 q.cf by rw [HCf.out]; exact HGd.out i)
        have hsW := hW.size
        have HKD := kp hkD; have HGD := kp hgD
        clear hW hmi hcf1 hkD hgD
        go_wp2_with (first
          | ((with_reducible show wpList _ _ _ (⟨none, _, _, _, _, _⟩ :: _) _ _); (refine wpList_store_blk rfl 31 (.tmp 8) (.tmp 48) rfl gD (pcC q1) rfl rfl _ _ HKD.out (by rw [H171.out]; exact conf_size) (by rw [H171.out]; rfl) (conf_ones q1) ?_); intro w7 hk7 hg7 hs7'
             have HKD7 := kp hk7; have HBr7 := kp (HW.out.grown hg7 hsW (fun k e => by cases e; exact HGD.out)); have hsr7 := HBr7.out.size
             have HM17 := kp (HMm.out.typed HKD.out hg7); have HO17 := kp HM17.out.ok
             have HB07 := kp (HB.out.trans (HBr7.out.mono hBs)); have hs07 := HB07.out.size
             have HOq7 := kp ((HOq.out.below HBr7.out).more hsr7)
             have HKC7 := kp (HKC.out.below HBr7.out hlC); have HKP7 := kp (HKP.out.below HBr7.out hlP)
             have hlC7 := HKC7.out.lt; have hlP7 := HKP7.out.lt; have hlD7 := hk7.lt
             have HNe : Kept (gC ≠ gD ∧ g1 ≠ gD) := kp ⟨by have := HGD.out; omega, by have := HGD.out; omega⟩
             clear hk7 hg7 hs7'))
        clear HW HMm HKD
        have hcD7 := conf_cell HKD7.out
        go_wp2
        go_loopw [9, 10] (fun v9 v10 W2 => ∃ (t m : Nat), t ≤ q1.len ∧ v10 = .int .i64 t ∧ v9 = .int .u32 (m : Int) ∧ m < 65536 ∧ (∀ k, m.testBit k = true → q1.ow.getD k 0 ≤ t) ∧ Below w7.heap.size w7 W2) (fun _ v10 _ => q1.len - (intOf v10).toNat)
        case atStart => exact ⟨0, 0, by omega, rfl, rfl, by omega, (fun k hk => by simp at hk), Below.refl _ _⟩
        case round =>
          obtain ⟨t, m, ht, rfl, rfl, hm, hbits, hb2⟩ := hrel
          have HB2 := kp hb2; have HBits := kp hbits; have hs2 := hb2.size
          have h18 := most_8 HG1.out HO17.out; have hq8 := most_8 HGq.out HOq7.out
          have HKD2 := kp (HKD7.out.below hb2 hlD7); have HKC2 := kp (HKC7.out.below hb2 hlC7); have HKP2 := kp (HKP7.out.below hb2 hlP7)
          have HO12 := kp ((HO17.out.below hb2).more hs2); have HOq2 := kp ((HOq7.out.below hb2).more hs2)
          have hlD2 := HKD2.out.lt; have hlC2 := HKC2.out.lt; have hlP2 := HKP2.out.lt
          have hcD := conf_cell HKD2.out
          clear hbits hb2
          by_cases htl : t < q1.len
          · obtain ⟨ad1, th, hA1, had1, hth, hsok, hthc, hsl, hct, _⟩ := HO12.out.thread htl
            have HIt : Kept (I64 (t : Int)) := kp (by unfold I64; omega)
            have HHeld : Kept (M.held q1.cf (t : Int) = M.heldTo q1.ow t 16) := kp (held_in HO12.out htl)
            obtain ⟨hh, hhe⟩ : ∃ hh, M.heldTo q1.ow t 16 = hh := ⟨_, rfl⟩
            have hhlt : hh < 65536 := by rw [← hhe]; exact M.held_lt q1.ow t 16
            have HAp : Kept (m &&& hh = 0) := kp (by rw [← hhe]; exact M.held_apart HBits.out)
            have HJo : Kept (∀ k, (m ||| hh).testBit k = true → q1.ow.getD k 0 ≤ t + 1) := kp (by rw [← hhe]; exact M.held_join HBits.out)
            rw [hhe] at HHeld
            have hand : (bits .and .u32 (m : Int) (hh : Int) != 0) = false := by rw [u32_and_nat m hh (by omega) (by omega), HAp.out]; rfl
            have HOrB : Kept (bits .or .u32 (m : Int) (hh : Int) = ((m ||| hh : Nat) : Int)) := kp (u32_or_nat m hh (by omega) (by omega))
            have hor : m ||| hh < 65536 := Nat.or_lt_two_pow (n := 16) hm hhlt
            have HHigh : Kept (th.sv.len ≤ pg0.len) := kp (by
              have h1 := M.high HF.out HP.out.row.len HG1.out (x := tvT th) (List.mem_map_of_mem (List.mem_of_getElem? hth))
              rw [HP.out.row.len] at h1
              have h2 : (tvT th).stack.length = th.sv.len := hsl
              omega)
            have HEnd : Kept (M.lives q.cf (t : Int) = false → t < q.len → M.lives q1.cf (t : Int) = false) := kp (fun h hlt2 => by
              rw [HStep.out]; exact M.step_ended (by rw [HOq7.out.len]; exact hlt2) h)
            have HCt := kp hct; have hsc := hsok.lc; have hsm := hsok.cm
            unfold maxLen at hsm
            rw [hA1] at hcD
            have hpl := HP.out.lc; have hpm := HP.out.cm
            unfold maxLen at hpm
            clear hhe hth hsok hthc hsl hct
            go_wp2_with (first
              | ((with_reducible show wpList _ _ _ (⟨some 56, _, _, _, _, _⟩ :: _) _ _); go_must (refine wpList_load_blk rfl 31 (.tmp 8) rfl gD rfl _ (pcC q1) _ HKD2.out Try.underlying31 rfl (by rw [H171.out]; exact conf_size) ?_))
              | (go_at_call 22; go_must (refine (sem_held q1 _ HO12.out.row.len h18 HG1.out.owns (own_8 HG1.out) (t : Int) HIt.out hh HHeld.out).mono ?_); rintro e w8 ⟨rfl, hb8⟩
                 have HB8 := kp hb8; have hs8 := hb8.size; have HKD8 := kp (HKD2.out.below hb8 hlD2); have HKC8 := kp (HKC2.out.below hb8 hlC2); have HKP8 := kp (HKP2.out.below hb8 hlP2)
                 have hcD8 := conf_cell HKD8.out; have hpc8 := pg_cells HKP8.out; have hct8 := (hb8.cell (by rw [add_block]; exact had1)).trans HCt.out
                 rw [hA1] at hcD8
                 obtain ⟨_, _, _, hp3⟩ := hpc8
                 clear hb8 hcD))
            have hpc : th.sv.len ≤ pg0.len := HHigh.out
            go_quiet (fail)
            obtain ⟨w9, hw9⟩ : ∃ y, w8.drewN nq = y := ⟨_, rfl⟩
            have HB9 : Kept (Below w7.heap.size w7 w9) := kp (by rw [← hw9]; exact below_drewN (HB2.out.trans (HB8.out.mono hs2)) _)
            rw [hw9]
            clear hw9 hcD8 hp3 hct8 hand
            have hs9 := HB9.out.size
            have HKD9 := kp (HKD7.out.below HB9.out hlD7); have HKC9 := kp (HKC7.out.below HB9.out hlC7); have hlD9 := HKD9.out.lt
            have HOq9 := kp ((HOq7.out.below HB9.out).more hs9); have HO19 := kp ((HO17.out.below HB9.out).more hs9)
            have hcC9 := conf_cell HKC9.out
            by_cases htq : t < q.len
            · cases hlq : M.lives q.cf (t : Int)
              · have HLq := kp hlq; have HLq1 := kp (HEnd.out hlq htq)
                clear hlq
                go_wp2_with (first
                | ((with_reducible show wpList _ _ _ (⟨some 85, _, _, _, _, _⟩ :: _) _ _); go_must (refine wpList_load_blk_w rfl 31 (.tmp 5) rfl gC rfl _ (pcC q) _ HKC9.out Try.underlying31 rfl (by rw [H17.out]; exact conf_size) ?_))
                | (go_at_call_of 16 (Value.agg (pcC q).toArray); go_must (refine (sem_lives w9.heap.size q w9 HOq9.out (Nat.le_refl _) (by omega) (t : Int) HIt.out _ HLq.out).mono ?_); rintro e w10 ⟨rfl, hb10⟩
                   have HBa := kp (HB9.out.trans (hb10.mono hs9)); have HKDa := kp (HKD9.out.below hb10 hlD9); have HO1a := kp (HO19.out.below hb10); have hs10 := hb10.size; clear hb10)
                | ((with_reducible show wpList _ _ _ (⟨some 91, _, _, _, _, _⟩ :: _) _ _); go_must (refine wpList_load_blk_w rfl 31 (.tmp 8) rfl gD rfl _ (pcC q1) _ HKDa.out Try.underlying31 rfl (by rw [H171.out]; exact conf_size) ?_))
                | (go_at_call_of 16 (Value.agg (pcC q1).toArray); go_must (refine (sem_lives w9.heap.size q1 w10 HO1a.out hs10 (by omega) (t : Int) HIt.out _ HLq1.out).mono ?_); rintro e w11 ⟨rfl, hb11⟩
                   have HBb := kp (HBa.out.trans (hb11.mono HBa.out.size)); clear hb11))
                go_roundw
                case rel => exact ⟨t + 1, m ||| hh, by omega, by go_num, by rw [HOrB.out], hor, HJo.out, HBb.out⟩
                case measure => simp [intOf]; omega
              · have HLq := kp hlq
                clear hlq
                go_wp2_with (first
                | ((with_reducible show wpList _ _ _ (⟨some 85, _, _, _, _, _⟩ :: _) _ _); go_must (refine wpList_load_blk_w rfl 31 (.tmp 5) rfl gC rfl _ (pcC q) _ HKC9.out Try.underlying31 rfl (by rw [H17.out]; exact conf_size) ?_))
                | (go_at_call_of 16 (Value.agg (pcC q).toArray); go_must (refine (sem_lives w9.heap.size q w9 HOq9.out (Nat.le_refl _) (by omega) (t : Int) HIt.out _ HLq.out).mono ?_); rintro e w10 ⟨rfl, hb10⟩
                   have HBa := kp (HB9.out.trans (hb10.mono hs9)); have HKDa := kp (HKD9.out.below hb10 hlD9); have HO1a := kp (HO19.out.below hb10); have hs10 := hb10.size; clear hb10))
                go_roundw
                case rel => exact ⟨t + 1, m ||| hh, by omega, by go_num, by rw [HOrB.out], hor, HJo.out, HBa.out⟩
                case measure => simp [intOf]; omega
            · have htq2 : q.len ≤ t := by omega
              go_wp2
              go_roundw
              case rel => exact ⟨t + 1, m ||| hh, by omega, by go_num, by rw [HOrB.out], hor, HJo.out, HB9.out⟩
              case measure => simp [intOf]; omega
          · have hge2 : q1.len ≤ t := by omega
            have hcC2 := conf_cell HKC2.out
            have hll : q.len ≤ q1.len := by rw [← HOq2.out.len, ← HO12.out.len, HStep.out]; exact M.step_len _ _ _ _
            have HM12 := kp (HM17.out.below HB2.out (Nat.le_refl _))
            have HB02 := kp (HB07.out.trans (HB2.out.mono hs07)); have hs02 := HB02.out.size
            go_wp2_with (first
              | ((with_reducible show wpList _ _ _ (⟨some 108, _, _, _, _, _⟩ :: _) _ _); go_must (refine wpList_load_blk rfl 31 (.tmp 8) rfl gD rfl _ (pcC q1) _ HKD2.out Try.underlying31 rfl (by rw [H171.out]; exact conf_size) ?_))
              | ((with_reducible show wpList _ _ _ (⟨none, _, _, _, _, _⟩ :: _) _ _); (refine wpList_store_blk rfl 31 (.tmp 5) (.tmp 108) rfl gC (pcC q1) rfl rfl _ _ HKC2.out (by rw [H171.out]; exact conf_size) (by rw [H171.out, H17.out]) (conf_ones q1) ?_); intro wz hkz hgz hsz
                 have HKZ := kp hkz; have HOz := kp (HM12.out.typed HKC2.out hgz).ok; have HBz := kp (HB02.out.grown hgz hs02 (fun k e => by cases e; exact HGw.out.2.1))
                 have HKPz := kp (HKP2.out.grown hgz (fun e => by cases e; exact HGw.out.2.2 rfl))
                 clear hkz hgz hsz))
            go_roundw
            case rel => exact ⟨i + 1, q1, by omega, by go_num, HOz.out, HCf1.out, HKZ.out, HKPz.out, HBz.out⟩
            case measure => simp [intOf]; omega
    · have hge : len1 ≤ i := by omega
      go_wp2
      go_ret
      exact ⟨rfl, HB.out⟩
end Go.Proofs.Ytkblgafackmckaa
