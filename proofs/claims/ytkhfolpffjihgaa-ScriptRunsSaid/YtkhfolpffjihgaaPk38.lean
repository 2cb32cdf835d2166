/- SemR8, RaceRun, RaceR1, RaceR2, in one text. -/
import Derived.Test.YtkhfolpffjihgaaPk34
import Derived.Test.YtkhfolpffjihgaaPk27
import Derived.Test.YtkhfolpffjihgaaPk37
import Derived.Test.YtkhfolpffjihgaaPk20
import Derived.Test.YtkhfolpffjihgaaPk28
import Derived.Test.YtkhfolpffjihgaaPk33
import Derived.Test.YtkhfolpffjihgaaSemR3
import Derived.BigQuiet
namespace Go.Proofs.Ytkhfolpffjihgaa
open Go.RowKit
theorem built_start (A : Option Addr) (n c : Nat) (A2 : Option Addr) (n2 c2 : Nat) : Try.prog.built 59 [(0, .slice A n c), (1, .slice A2 n2 c2)] = some (Value.slice A n c :: .slice A2 n2 c2 :: zeros 16).toArray := by kernel_rfl
theorem start_ones (A : Option Addr) (n c : Nat) (A2 : Option Addr) (n2 c2 : Nat) : ∀ u ∈ Value.slice A n c :: .slice A2 n2 c2 :: zeros 16, u.oneCell' = true := by
  intro u hu
  rcases List.mem_cons.1 hu with rfl | hu
  · rfl
  rcases List.mem_cons.1 hu with rfl | hu
  · rfl
  · rw [List.eq_of_mem_replicate hu]; rfl
theorem zeros16 : zeros 16 = (List.replicate 16 0 : List Nat).map natV := by rfl
theorem zeros8c : zeros 8 = cellsR 8 slV [List.replicate 8 0] := by rfl
def rcOne (gF gM gZ : Nat) : Rc := ⟨some ⟨gM, 0, none⟩, 1, [⟨some ⟨gF, 0, none⟩, 1, 1, [(0, 0)]⟩], some ⟨gZ, 0, none⟩, 1, [List.replicate 8 0], 1, List.replicate 16 0⟩
theorem rcOne_cells (gF gM gZ : Nat) : rcC (rcOne gF gM gZ) = Value.slice (some ⟨gM, 0, none⟩) 1 1 :: .slice (some ⟨gZ, 0, none⟩) 1 1 :: zeros 16 := by unfold rcC rcOne; rw [zeros16]
theorem rcOne_mine {w : World} {B gF gM gZ : Nat} (hF : Blk w gF 86 [.int .i64 ((0 : Nat) : Int), .int .i64 0]) (hM : Blk w gM 84 [.slice (some ⟨gF, 0, none⟩) 1 1]) (hZ : Blk w gZ 83 (zeros 8)) (h1 : B ≤ gF) (h2 : B ≤ gM) (h3 : B ≤ gZ) : RMine w B (rcOne gF gM gZ) := by
  have e1 : gF ≠ gM := fun e => by subst e; exact jU hF hM (by decide)
  have e2 : gF ≠ gZ := fun e => by subst e; exact jU hF hZ (by decide)
  have e3 : gM ≠ gZ := fun e => by subst e; exact jU hM hZ (by decide)
  refine ⟨OwnR.of_blk hM h2 rfl (Nat.le_refl _) (show 1 ≤ maxLen by unfold maxLen; omega) rfl rfl, OwnR.of_blk hZ h3 rfl (Nat.le_refl _) (show 1 ≤ maxLen by unfold maxLen; omega) rfl (by rw [zeros8c]; rfl), ⟨fun k x hx => ?_, fun k x b hx hb hs => ?_, fun j k x y b hx hy hj hk => ?_⟩, fun b hb hb2 => ?_⟩
  · have hk : k = 0 := by have := (List.getElem?_eq_some_iff.1 hx).1; simp [rcOne] at this; omega
    subst hk
    have e : x = ⟨some ⟨gF, 0, none⟩, 1, 1, [(0, 0)]⟩ := (Option.some.inj hx).symm
    subst e
    exact own_new hF h1
  · have hk : k = 0 := by have := (List.getElem?_eq_some_iff.1 hx).1; simp [rcOne] at this; omega
    subst hk
    have e : x = ⟨some ⟨gF, 0, none⟩, 1, 1, [(0, 0)]⟩ := (Option.some.inj hx).symm
    subst e
    have eb : gF = b := by injection hb
    rcases hs with hs | hs
    · have : gM = b := by injection hs
      exact e1 (by omega)
    · have : gZ = b := by injection hs
      exact e2 (by omega)
  · have hk1 : j = 0 := by have := (List.getElem?_eq_some_iff.1 hx).1; simp [rcOne] at this; omega
    have hk2 : k = 0 := by have := (List.getElem?_eq_some_iff.1 hy).1; simp [rcOne] at this; omega
    omega
  · have h4 : gM = b := (by injection hb)
    have h5 : gZ = b := (by injection hb2)
    exact e3 (by omega)
set_option maxRecDepth 100000 in
set_option maxHeartbeats 3200000 in
theorem rs_start (w : World) : Calls Try.prog 38 #[] w (StepR w M.start) := by
  unfold StepR
  go_enter Try.func38, Try.ntmps38
  go_wp2_with (first
    | ((with_reducible show Sl 0); go_must (refine j3 rfl 59 rfl _ jV ?_); intro gR w1 hgR hk1 hw1; have HKR1 := kp hk1; have HGR := kp hgR; have HW1 := kp hw1; have hs1 := hw1.size; have hlR1 := hk1.lt; clear hk1 hw1 hgR)
    | ((with_reducible show Sl 2); go_must (refine jF rfl 84 86 (.tmp 1) rfl 2 Try.underlying84 y7 (by omega) (by omega) _ [.int .i64 0, .int .i64 0] rfl rfl rfl ?_); intro gF w2 hgF hk2 hw2; have HF2 := kp hk2; have HgF := kp (show w.heap.size ≤ gF by omega); have HW2 := kp (HW1.out.trans (hw2.mono hs1)); have HKR2 := kp (HKR1.out.below hw2 hlR1); have hs2 := HW2.out.size; have hlF2 := hk2.lt; have hlR2 := HKR2.out.lt; clear hk2 hw2 hgF)
    | ((with_reducible show Sl 3); go_must (refine jF rfl 56 84 (.tmp 2) rfl 1 Try.underlying56 rstacks_one (by omega) (by omega) _ [.slice (some ⟨gF, 0, none⟩) 1 1] rfl rfl rfl ?_); intro gM w3 hgM hk3 hw3; have HM3 := kp hk3; have HgM := kp (show w.heap.size ≤ gM by omega); have HW3 := kp (HW2.out.trans (hw3.mono hs2)); have HKR3 := kp (HKR2.out.below hw3 hlR2); have HF3 := kp (HF2.out.below hw3 hlF2); have hs3 := HW3.out.size; have hlF3 := HF3.out.lt; have hlM3 := hk3.lt; have hlR3 := HKR3.out.lt; clear hk3 hw3 hgM)
    | ((with_reducible show Sl 4); go_must (refine xL rfl 83 rfl (zeros 8) 8 3 Try.underlying83 int_info9 slots_zero9 ?_))
    | ((with_reducible show Sl 5); go_must (refine jF rfl 57 83 (.tmp 4) rfl 8 Try.underlying57 qI (by omega) (by omega) _ (zeros 8) rfl rfl rfl ?_); intro gZ w4 hgZ hk4 hw4; have HZ4 := kp hk4; have HgZ := kp (show w.heap.size ≤ gZ by omega); have HW4 := kp (HW3.out.trans (hw4.mono hs3)); have HKR4 := kp (HKR3.out.below hw4 hlR3); have HF4 := kp (HF3.out.below hw4 hlF3); have HM4 := kp (HM3.out.below hw4 hlM3); have hs4 := HW4.out.size; have HNR : Kept (gR ≠ gF ∧ gR ≠ gM ∧ gR ≠ gZ) := kp ⟨fun e => by rw [e] at HKR4; exact jU HKR4.out HF4.out (by decide), fun e => by rw [e] at HKR4; exact jU HKR4.out HM4.out (by decide), fun e => by rw [e] at HKR4; exact jU HKR4.out HZ4.out (by decide)⟩; clear hk4 hw4 hgZ)
    | ((with_reducible show Sl 6); go_must (refine wpList_build_2 rfl 59 0 1 (.tmp 3) (.tmp 5) rfl (.slice (some ⟨gM, 0, none⟩) 1 1) (.slice (some ⟨gZ, 0, none⟩) 1 1) rfl rfl (Value.slice (some ⟨gM, 0, none⟩) 1 1 :: .slice (some ⟨gZ, 0, none⟩) 1 1 :: zeros 16) (built_start _ _ _ _ _ _) ?_))
    | ((with_reducible show Sn); go_must (refine j4 rfl 59 (.tmp 0) (.tmp 6) rfl gR (Value.slice (some ⟨gM, 0, none⟩) 1 1 :: .slice (some ⟨gZ, 0, none⟩) 1 1 :: zeros 16) rfl rfl _ _ HKR4.out j5 rfl (start_ones _ _ _ _ _ _) ?_); intro w5 hk5 hg5 hs5
       have HK5 := kp (show Blk w5 gR 59 (rcC (rcOne gF gM gZ)) from by rw [rcOne_cells]; exact hk5)
       have HMi := kp (rcOne_mine (HF4.out.grown hg5 (fun e => by cases e; exact HNR.out.1 rfl)) (HM4.out.grown hg5 (fun e => by cases e; exact HNR.out.2.1 rfl)) (HZ4.out.grown hg5 (fun e => by cases e; exact HNR.out.2.2 rfl)) HgF.out HgM.out HgZ.out)
       have HW5 := kp (HW4.out.grown hg5 hs4 (fun k e => by cases e; exact HGR.out)); clear hk5 hg5 hs5)
    | ((with_reducible show bodyPost _ _ _ _ _ _); exact bodyPost_ret (jJ (P := Try.prog) (fn := Try.f38) rfl _ _ gR 59 _ _ rfl HK5.out Try.underlying59 rfl (by rw [jW (q := rcOne gF gM gZ) rfl]; exact j5)) rfl ⟨rcOne gF gM gZ, rfl, HMi.out, rfl, HW5.out⟩))
def Fact.rsteppedR (K : Nat) (c : M.Cf) : Fact :=
  ⟨fun v W => ∃ q', v = rcA q' ∧ RMine W K q' ∧ q'.cf = c, fun _ _ _ hb ⟨q', h1, h2, h3⟩ => ⟨q', h1, h2.below hb (Nat.le_refl _), h3⟩⟩
theorem RMine.typed {w w' : World} {B g : Nat} {q : Rc} {cs : List Value} (h : RMine w B q) (hb : Blk w g 59 cs) (hg : w.grownBy w' (some g)) : RMine w' B q := by
  have k1 : ∀ v : Value, (v.ownBlock ≠ some g) → v.ownBlock = none ∨ v.ownBlock ≠ some g := fun v hv => .inr hv
  exact ⟨h.row.far hg (k1 _ (h.row.typed hb (by decide))), h.slr.far hg (k1 _ (h.slr.typed hb (by decide))), ⟨fun k x hx => (h.fam.own k x hx).far hg (k1 _ ((h.fam.own k x hx).typed hb (by decide))), h.fam.out, h.fam.apart⟩, h.ne⟩
theorem put_none_rur (a : Act) (v : Value) : a.put none v = a := rfl
theorem good_owr {p : Pg} {q : Rc} {c : M.Cf} (hg : M.Good p c) (h : q.cf = c) : q.ow.length = 16 := by subst h; exact hg.owns
set_option maxRecDepth 1000000 in
set_option maxHeartbeats 8000000 in
theorem ref_run (pg0 : Pg) (a1 : Option Addr) (len1 cap1 : Nat) (z1 : List (Int × Bool)) (w : World) (w0 : pg0.Ok w w.heap.size) (w1 : Picks w w.heap.size a1 len1 z1) (c1 : len1 ≤ cap1 ∧ cap1 ≤ maxLen) (hn : len1 ≤ 300) (hf : Fine pg0) :
    Calls Try.prog 21 #[pgA pg0, .slice a1 len1 cap1] w (StepR w (runTo pg0 z1 len1)) := by
  unfold StepR
  have HP := kp w0
  have HPi := kp w1
  have hc1 := c1.1; have hm1 := c1.2
  unfold maxLen at hm1
  clear w0 w1 c1
  have HF := kp hf
  have HGd : Kept (∀ i, M.Good pg0 (runTo pg0 z1 i)) := kp (qG HF.out HP.out.row.len z1)
  clear hf
  rw [jO]
  go_enter Try.func21, Try.ntmps21
  go_wp2_with (first
    | ((with_reducible refine j2 rfl 38 (.tmp 0) rfl (pgC pg0) rfl ?_); intro g1 u1 hg1 hk1 hu1; have HK1 := kp hk1; have HG1 := kp hg1; have HU1 := kp hu1; have hz1 := hu1.size; have hl1 := hk1.lt; clear hg1 hk1 hu1)
    | ((with_reducible show Sl 4); go_must (refine j3 rfl 59 rfl _ jV ?_); intro gR u2 hgR hk2 hu2; have HKR2 := kp hk2; have HGR := kp hgR; have HU2 := kp (HU1.out.trans (hu2.mono hz1)); have HK12 := kp (HK1.out.below hu2 hl1); have hz2 := HU2.out.size; have hlR2 := hk2.lt; have hl12 := HK12.out.lt; clear hk2 hu2 hgR)
    | (go_at_call 38; fail))
  refine (rs_start u2).mono ?_
  unfold StepR
  rintro e u4 ⟨q0, rfl, hmi, hcf, hb4⟩
  have HMi4 := kp hmi; have HCf0 := kp hcf
  have H016 : Kept (q0.ow.length = 16) := kp (by have h : q0.ow = List.replicate 16 0 := congrArg M.Cf.owners hcf; rw [h]; rfl)
  have H17 := kp (jW H016.out)
  clear hcf
  have HU4 := kp (HU2.out.trans (hb4.mono hz2)); have HK4 := kp (HK12.out.below hb4 hl12); have HKR4 := kp (HKR2.out.below hb4 hlR2); have hs4 := HU4.out.size; have hs24 := hb4.size; have hlk4 := HK4.out.lt; have hlR4 := HKR4.out.lt
  clear hmi hb4
  go_wp2_with (first
    | ((with_reducible show Sl 5); go_must (refine j3 rfl 59 rfl _ jV ?_); intro gC u5 hgC hk5 hu5; have HKc := kp hk5; have HGC := kp hgC; have HU5 := kp (HU4.out.trans (hu5.mono hs4)); have HMi5 := kp (HMi4.out.below hu5 (Nat.le_refl _)); have HK5 := kp (HK4.out.below hu5 hlk4); have HKR5 := kp (HKR4.out.below hu5 hlR4); have hs5 := HU5.out.size; have hlC := hk5.lt; clear hk5 hu5 hgC)
    | ((with_reducible show Sn); (refine j4 rfl 59 (.tmp 5) (.tmp 7) rfl gC (rcC q0) rfl rfl _ _ HKc.out (by rw [H17.out]; exact j5) (by rw [H17.out]; rfl) (jZ q0) ?_); intro u6 hk6 hg6 hs6'
       have HK26 := kp hk6; have HU6 := kp (HU5.out.grown hg6 hs5 (fun k e => by cases e; have := HGC.out; omega)); have hs6 := HU6.out.size
       have HK16 := kp (HK5.out.grown hg6 (fun e => by cases e; have := HGC.out; omega)); have HKR6 := kp (HKR5.out.grown hg6 (fun e => by cases e; have := HGC.out; omega)); have hlR6 := HKR6.out.lt
       have HMi6 := kp ((RMine.typed HMi5.out HKc.out hg6).lessR hz2)
       have HGw : Kept (w.heap.size ≤ g1 ∧ w.heap.size ≤ gC ∧ w.heap.size ≤ gR ∧ g1 ≠ gC ∧ gR ≠ gC) := kp ⟨by have := HG1.out; omega, by have := HGC.out; omega, by have := HGR.out; omega, by have := HGC.out; omega, by have := HGC.out; omega⟩
       have HZl : Kept ((Value.slice none 0 0 :: .slice none 0 0 :: zeros 16 : List Value).length = 18) := kp rfl
       clear hk6 hg6 hs6'))
  go_loopw [6] (fun v wr => ∃ (i : Nat) (q : Rc), i ≤ len1 ∧ v = .int .i64 i ∧ RMine wr w.heap.size q ∧ q.cf = runTo pg0 z1 i ∧ Blk wr gC 59 (rcC q) ∧ Blk wr g1 38 (pgC pg0) ∧ (∃ cs, cs.length = 18 ∧ Blk wr gR 59 cs) ∧ Below w.heap.size w wr) (fun v _ => len1 - (intOf v).toNat)
  case atStart => exact ⟨0, q0, by omega, rfl, HMi6.out, by rw [y6]; exact HCf0.out, HK26.out, HK16.out, ⟨_, HZl.out, HKR6.out⟩, HU6.out⟩
  case round =>
    obtain ⟨i, q, hi, rfl, hmq, hcf, hkc, hkp, ⟨csR, hlR, hkR⟩, hbl⟩ := hrel
    have HMq := kp hmq; have HCf := kp hcf; have HKC := kp hkc; have HKP := kp hkp; have HKR := kp hkR; have HLR := kp hlR; have HB := kp hbl
    have HOq := kp hmq.ok
    have hBs := hbl.size; have hlC := hkc.lt; have hlP := hkp.lt; have hlRw := hkR.lt
    have HPr := kp (HP.out.below hbl)
    have H17 := kp (jW (q := q) (good_owr (HGd.out i) hcf))
    clear hmq hcf hkc hkp hkR hlR hbl
    by_cases hlt : i < len1
    · obtain ⟨ad, x, hA, hadB, hx, hx1, hcx0, hcx1⟩ := HPi.out.pick hlt
      have hadw : ad.block < wr.heap.size := by omega
      have HX := kp hx; have HX1 := kp hx1
      have HCx : Kept (wr.cell? (ad.add (i * 2)) = some (.int .i64 x.1) ∧ wr.cell? ⟨(ad.add (i * 2)).block, (ad.add (i * 2)).off + 1, none⟩ = some (.bool x.2)) := kp ⟨(HB.out.cell (by rw [j8]; exact hadB)).trans hcx0, (HB.out.cell (by rw [j8]; exact hadB)).trans hcx1⟩
      subst hA
      clear hx hx1 hcx0 hcx1
      go_wp2
      apply jD 7 (.is (rcA q) :: .is (pgA pg0) :: .is _ :: .is _ :: .is (.pointer (some (ad.add (i * 2)))) :: .is (.agg #[.int .i64 x.1, .bool x.2]) :: (.rsteppedR wr.heap.size (M.step pg0 q.cf x.1 x.2)) :: [])
        [[], [], [], [], [(2, 16), (3, 17)], [(4, 18)], [(0, 14), (1, 15), (5, 19)], [(6, 20)]]
        [(0, 14), (1, 15), (2, 16), (3, 17), (4, 18), (5, 19), (6, 20)] (by kernel_rfl) (by kernel_rfl) (by kernel_rfl) (by kernel_rfl) (by kernel_rfl)
      case hob =>
        refine ⟨?o0, ?o1, ?o2, ?o3, ?o4, ?o5, ?o6, trivial⟩
        case o0 =>
          intro W hW; change wpList _ _ _ _ _ _
          go_must (refine j1 rfl 59 (.tmp 5) rfl gC rfl _ (rcC q) _ (HKC.out.below hW hlC) Try.underlying59 rfl (by rw [H17.out]; exact j5) ?_)
          go_wp2; exact j0 rfl rfl rfl
        case o1 =>
          intro W hW; change wpList _ _ _ _ _ _
          go_must (refine j1 rfl 38 (.tmp 2) rfl g1 rfl _ (pgC pg0) _ (HKP.out.below hW hlP) Try.underlying38 rfl jB ?_)
          go_wp2; exact j0 rfl rfl rfl
        case o2 => intro W hW; change wpList _ _ _ _ _ _; go_wp2; exact j0 rfl rfl rfl
        case o3 => intro W hW; change wpList _ _ _ _ _ _; go_wp2; exact j0 rfl rfl rfl
        case o4 => intro W hW; rintro _ rfl; rintro _ rfl; change wpList _ _ _ _ _ _; go_wp2; exact j0 rfl rfl rfl
        case o5 =>
          intro W hW; rintro _ rfl; change wpList _ _ _ _ _ _
          have hd0 := (hW.cell (p := ad.add (i * 2)) (by rw [j8]; exact hadw)).trans HCx.out.1
          have hd1 := (hW.cell (p := ⟨(ad.add (i * 2)).block, (ad.add (i * 2)).off + 1, none⟩) (by rw [j8]; exact hadw)).trans HCx.out.2
          go_wp2; exact j0 rfl rfl rfl
        case o6 =>
          intro W hW; rintro _ rfl; rintro _ rfl; rintro _ rfl; change wpList _ _ _ _ _ _
          have hsW := hW.size
          go_wp2_with fail
          refine (rs_step W.heap.size pg0 HF.out q W (qZ (HPr.out.below (hW.mono hBs)) (show w.heap.size ≤ W.heap.size by omega)) ((HOq.out.below hW).more hsW) (by rw [HCf.out]; exact HGd.out i) (Nat.le_refl _) x.1 HX1.out x.2).mono ?_
          unfold StepR
          rintro e w2 ⟨q', rfl, hm2, hcf2, hb2⟩
          have HB2 := kp hb2; have HM2 := kp hm2; have HC2 := kp hcf2; clear hb2 hm2 hcf2
          go_wp2
          exact jC rfl rfl rfl HB2.out ⟨q', rfl, HM2.out.lessR hsW, HC2.out⟩
      case hend =>
        intro W hW; rintro _ rfl; rintro _ rfl; rintro _ rfl; rintro _ rfl; rintro _ rfl; rintro _ rfl; rintro _ ⟨q1, rfl, hmi, hcf1⟩
        simp only [given, jI, List.set, List.drop]
        have HW := kp hW; have HMi := kp (hmi.lessR hBs); have HCf1 : Kept (q1.cf = runTo pg0 z1 (i + 1)) := kp (by rw [hcf1, HCf.out, xD pg0 z1 i x HX.out])
        have H171 := kp (jW (q := q1) (good_owr (HGd.out (i + 1)) HCf1.out))
        have HKC2 := kp (HKC.out.below hW hlC); have HKP2 := kp (HKP.out.below hW hlP); have HKR2 := kp (HKR.out.below hW hlRw)
        have hsW := hW.size
        have HsW : Kept (w.heap.size ≤ W.heap.size) := kp (by omega)
        clear hW hmi hcf1
        refine j4 rfl 59 (.tmp 5) (.tmp 20) rfl gC (rcC q1) rfl rfl _ _ HKC2.out (by rw [H171.out]; exact j5) (by rw [H171.out, H17.out]) (jZ q1) ?_
        intro u7 hk7 hg7 hs7
        have HK27 := kp hk7; have HM7 := kp (RMine.typed HMi.out HKC2.out hg7); have HB7 := kp ((HB.out.trans (HW.out.mono hBs)).grown hg7 HsW.out (fun k e => by cases e; exact HGw.out.2.1))
        have HKP7 := kp (HKP2.out.grown hg7 (fun e => by cases e; exact HGw.out.2.2.2.1 rfl)); have HKR7 := kp (HKR2.out.grown hg7 (fun e => by cases e; exact HGw.out.2.2.2.2 rfl))
        clear hk7 hg7 hs7
        simp only [put_none_rur]
        go_wp2
        go_roundw
        case rel => exact ⟨i + 1, q1, by omega, by go_num, HM7.out, HCf1.out, HK27.out, HKP7.out, ⟨_, HLR.out, HKR7.out⟩, HB7.out⟩
        case measure => simp [intOf]; omega
    · have hge : len1 ≤ i := by omega
      have HEnd : Kept (q.cf = runTo pg0 z1 len1) := kp (by rw [HCf.out, show i = len1 by omega])
      go_wp2_with (first
        | ((with_reducible show Sl 21); go_must (refine j1 rfl 59 (.tmp 5) rfl gC rfl _ (rcC q) _ HKC.out Try.underlying59 rfl (by rw [H17.out]; exact j5) ?_))
        | ((with_reducible show Sn); (refine j4 rfl 59 (.tmp 4) (.tmp 21) rfl gR (rcC q) rfl rfl _ _ HKR.out (by rw [H17.out]; exact j5) (by rw [H17.out, HLR.out]) (jZ q) ?_); intro u7 hk7 hg7 hs7'
           have HKR7 := kp hk7; have HU7 := kp (HB.out.grown hg7 hBs (fun k e => by cases e; exact HGw.out.2.2.1))
           have HM7 := kp (RMine.typed HMq.out HKR.out hg7)
           clear hk7 hg7 hs7')
        | ((with_reducible show bodyPost _ _ _ _ _ _); exact bodyPost_ret (jJ (P := Try.prog) (fn := Try.f21) rfl _ _ gR 59 _ _ rfl HKR7.out Try.underlying59 rfl (by rw [H17.out]; exact j5)) rfl ⟨q, rfl, HM7.out, HEnd.out, HU7.out⟩))
set_option maxRecDepth 100000 in
set_option maxHeartbeats 1600000 in
theorem ra_at (B : Nat) (p : Pg) (hf : Fine p) (q : Rc) (w : World) (hp : p.Ok w B) (hq : q.Ok w B) (hg : M.Good p q.cf) (hB : B ≤ w.heap.size) (t : Int) (ht : I64 t) (gl how : Int) (ha : M.acc p q.cf t = (gl, how)) :
    Calls Try.prog 55 #[pgA p, rcA q, .int .i64 t] w fun e w' => e = .returned (.tuple #[.int .i64 gl, .int .i64 how]) ∧ Below w.heap.size w w' := by
  have h8 : q.len ≤ 8 := by rw [← hq.len]; exact hg.most
  have HQ18 := kp (jW hg.owns)
  have HP := kp hp; have HQ := kp hq; have HT := kp ht; have HG := kp hg; have HF := kp hf
  cases hlv : M.lives q.cf t
  · have HLv := kp hlv
    rw [acc_out hlv] at ha
    have e1 : (0 : Int) = gl := congrArg Prod.fst ha
    have e2 : (0 : Int) = how := congrArg Prod.snd ha
    subst e1 e2
    clear hp hq ht hg hf ha hlv
    rw [l8, jO]
    go_enter Try.func55, Try.ntmps55
    go_wp2_with (first
      | ((with_reducible refine j2 rfl 38 (.tmp 0) rfl (pgC p) rfl ?_); intro g1 w1 hg1 hk1 hw1; have HK1 := kp hk1; have HW1 := kp hw1; have hs1 := hw1.size; have hl1 := hk1.lt; clear hk1 hw1)
      | ((with_reducible refine j2 rfl 59 (.tmp 1) rfl (rcC q) rfl ?_); intro g2 w2 hg2 hk2 hw2; have HK2 := kp hk2; have HK12 := kp (HK1.out.below hw2 hl1); have HW2 := kp (HW1.out.trans (hw2.mono hs1)); have hs2 := HW2.out.size; have hl12 := HK12.out.lt; have hl2 := hk2.lt; clear hk2 hw2)
      | ((with_reducible show Sl 9); go_must (refine j1 rfl 59 (.tmp 4) rfl g2 rfl _ (rcC q) _ HK2.out Try.underlying59 rfl (by rw [HQ18.out]; exact j5) ?_))
      | (go_at_call 78; go_must (refine (q8 B q w2 (HQ.out.below (HW2.out.mono hB)) (by omega) (by omega) t HT.out false HLv.out).mono ?_); rintro e w4 ⟨rfl, hb4⟩
         have HW4 := kp (HW2.out.trans (hb4.mono hs2)); clear hb4))
    go_ret2
    exact ⟨rfl, HW4.out⟩
  · obtain ⟨k, rfl⟩ : ∃ k : Nat, t = (k : Int) := ⟨t.toNat, by
      unfold M.lives at hlv
      rw [Bool.and_eq_true, decide_eq_true_eq] at hlv
      omega⟩
    obtain ⟨x, hx⟩ : ∃ x, M.node p q.cf k = x := ⟨_, rfl⟩
    have hlv2 := hlv
    rw [M.lives_nat] at hlv2
    have HLv := kp hlv; have HLv2 := kp hlv2; have HX := kp hx
    have ha2 : (if x.kind = 1 ∨ x.kind = 2 then (x.arg, x.kind) else (0, 0)) = (gl, how) := by
      rw [← ha]
      unfold M.acc
      rw [Int.toNat_natCast, hx, hlv]
      simp
    have HEx : Kept (ndC x = [.int .i64 x.kind, .int .i64 x.arg, .int .i64 x.next, .int .i64 x.alt]) := kp rfl
    clear hp hq ht hg hf ha hlv hlv2 hx
    by_cases hk : x.kind = 1 ∨ x.kind = 2
    · rw [if_pos hk] at ha2
      have e1 : x.arg = gl := congrArg Prod.fst ha2
      have e2 : x.kind = how := congrArg Prod.snd ha2
      have HE1 := kp e1; have HE2 := kp e2
      clear ha2 e1 e2
      have e12 : (x.kind != 1) = false ∨ (x.kind != 1) = true ∧ (x.kind != 2) = false := by
        rcases hk with h | h
        · exact .inl (by rw [h]; rfl)
        · exact .inr ⟨by rw [h]; rfl, by rw [h]; rfl⟩
      clear hk
      obtain ⟨kd, hkd⟩ : ∃ kd, x.kind = kd := ⟨_, rfl⟩
      obtain ⟨ar, har⟩ : ∃ ar, x.arg = ar := ⟨_, rfl⟩
      rw [hkd, har] at HEx
      rw [har] at HE1
      rw [hkd] at HE2 e12
      clear hkd har
      rcases e12 with e1 | ⟨e1, e2⟩
      all_goals
        rw [l8, jO]
        go_enter Try.func55, Try.ntmps55
        go_wp2_with (first
          | ((with_reducible refine j2 rfl 38 (.tmp 0) rfl (pgC p) rfl ?_); intro g1 w1 hg1 hk1 hw1; have HK1 := kp hk1; have HW1 := kp hw1; have hs1 := hw1.size; have hl1 := hk1.lt; clear hk1 hw1)
          | ((with_reducible refine j2 rfl 59 (.tmp 1) rfl (rcC q) rfl ?_); intro g2 w2 hg2 hk2 hw2; have HK2 := kp hk2; have HK12 := kp (HK1.out.below hw2 hl1); have HW2 := kp (HW1.out.trans (hw2.mono hs1)); have hs2 := HW2.out.size; have hl12 := HK12.out.lt; have hl2 := hk2.lt; clear hk2 hw2)
          | ((with_reducible show Sl 9); go_must (refine j1 rfl 59 (.tmp 4) rfl g2 rfl _ (rcC q) _ HK2.out Try.underlying59 rfl (by rw [HQ18.out]; exact j5) ?_))
          | (go_at_call 78; go_must (refine (q8 B q w2 (HQ.out.below (HW2.out.mono hB)) (by omega) (by omega) (k : Int) HT.out true HLv.out).mono ?_); rintro e w4 ⟨rfl, hb4⟩
             have HW4 := kp (HW2.out.trans (hb4.mono hs2)); have HK24 := kp (HK2.out.below hb4 hl2); have HK14 := kp (HK12.out.below hb4 hl12); have hs4 := HW4.out.size; clear hb4)
          | ((with_reducible show Sl 13); go_must (refine j1 rfl 59 (.tmp 4) rfl g2 rfl _ (rcC q) _ HK24.out Try.underlying59 rfl (by rw [HQ18.out]; exact j5) ?_))
          | ((with_reducible show Sl 14); go_must (refine j1 rfl 38 (.tmp 3) rfl g1 rfl _ (pgC p) _ HK14.out Try.underlying38 rfl jB ?_))
          | (go_at_call 59; go_must (refine (qX B p HF.out q w4 (HP.out.below (HW4.out.mono hB)) (HQ.out.below (HW4.out.mono hB)) HG.out (by omega) k HLv2.out x HX.out).mono ?_); rintro e w5 ⟨rfl, hb5⟩
             have HW5 := kp (HW4.out.trans (hb5.mono hs4)); have hs5 := HW5.out.size; clear hb5)
          | ((with_reducible show Sl 8); go_must (refine j3 rfl 75 rfl (ndC ⟨0, 0, 0, 0⟩) jR ?_); intro g3 w7 hg3 hk7 hw7; have HK37 := kp hk7; have HG3 := kp hg3; have HW7 := kp (HW5.out.trans (hw7.mono hs5)); clear hk7 hw7 hg3)
          | ((with_reducible show Sn); go_must (refine j4 rfl 75 (.tmp 8) (.tmp 16) rfl g3 (ndC x) rfl rfl _ _ HK37.out jK rfl (jS _) ?_); intro w6 hk6 hg6 hs6
             have HW6 := kp (HW7.out.grown hg6 HW7.out.size (fun k e => by cases e; have := HG3.out; omega)); clear hg6 hs6
             rw [HEx.out] at hk6; have hx0 := hk6.cell 0; have hx1 := hk6.cell 1; simp only [List.getElem?_cons_zero, List.getElem?_cons_succ] at hx0 hx1; clear hk6))
        go_quiet (fail)
        go_wp2
        go_ret2
        exact ⟨by rw [HE1.out, HE2.out]; rfl, jE HW6.out _⟩
    · rw [if_neg hk] at ha2
      have e1 : (0 : Int) = gl := congrArg Prod.fst ha2
      have e2 : (0 : Int) = how := congrArg Prod.snd ha2
      subst e1 e2
      have n1 : (x.kind != 1) = true := by rw [bne_iff_ne]; omega
      have n2 : (x.kind != 2) = true := by rw [bne_iff_ne]; omega
      clear ha2 hk
      rw [l8, jO]
      go_enter Try.func55, Try.ntmps55
      go_wp2_with (first
        | ((with_reducible refine j2 rfl 38 (.tmp 0) rfl (pgC p) rfl ?_); intro g1 w1 hg1 hk1 hw1; have HK1 := kp hk1; have HW1 := kp hw1; have hs1 := hw1.size; have hl1 := hk1.lt; clear hk1 hw1)
        | ((with_reducible refine j2 rfl 59 (.tmp 1) rfl (rcC q) rfl ?_); intro g2 w2 hg2 hk2 hw2; have HK2 := kp hk2; have HK12 := kp (HK1.out.below hw2 hl1); have HW2 := kp (HW1.out.trans (hw2.mono hs1)); have hs2 := HW2.out.size; have hl12 := HK12.out.lt; have hl2 := hk2.lt; clear hk2 hw2)
        | ((with_reducible show Sl 9); go_must (refine j1 rfl 59 (.tmp 4) rfl g2 rfl _ (rcC q) _ HK2.out Try.underlying59 rfl (by rw [HQ18.out]; exact j5) ?_))
        | (go_at_call 78; go_must (refine (q8 B q w2 (HQ.out.below (HW2.out.mono hB)) (by omega) (by omega) (k : Int) HT.out true HLv.out).mono ?_); rintro e w4 ⟨rfl, hb4⟩
           have HW4 := kp (HW2.out.trans (hb4.mono hs2)); have HK24 := kp (HK2.out.below hb4 hl2); have HK14 := kp (HK12.out.below hb4 hl12); have hs4 := HW4.out.size; clear hb4)
        | ((with_reducible show Sl 13); go_must (refine j1 rfl 59 (.tmp 4) rfl g2 rfl _ (rcC q) _ HK24.out Try.underlying59 rfl (by rw [HQ18.out]; exact j5) ?_))
        | ((with_reducible show Sl 14); go_must (refine j1 rfl 38 (.tmp 3) rfl g1 rfl _ (pgC p) _ HK14.out Try.underlying38 rfl jB ?_))
        | (go_at_call 59; go_must (refine (qX B p HF.out q w4 (HP.out.below (HW4.out.mono hB)) (HQ.out.below (HW4.out.mono hB)) HG.out (by omega) k HLv2.out x HX.out).mono ?_); rintro e w5 ⟨rfl, hb5⟩
           have HW5 := kp (HW4.out.trans (hb5.mono hs4)); have hs5 := HW5.out.size; clear hb5)
        | ((with_reducible show Sl 8); go_must (refine j3 rfl 75 rfl (ndC ⟨0, 0, 0, 0⟩) jR ?_); intro g3 w7 hg3 hk7 hw7; have HK37 := kp hk7; have HG3 := kp hg3; have HW7 := kp (HW5.out.trans (hw7.mono hs5)); clear hk7 hw7 hg3)
        | ((with_reducible show Sn); go_must (refine j4 rfl 75 (.tmp 8) (.tmp 16) rfl g3 (ndC x) rfl rfl _ _ HK37.out jK rfl (jS _) ?_); intro w6 hk6 hg6 hs6
           have HW6 := kp (HW7.out.grown hg6 HW7.out.size (fun k e => by cases e; have := HG3.out; omega)); clear hg6 hs6
           rw [HEx.out] at hk6; have hx0 := hk6.cell 0; simp only [List.getElem?_cons_zero] at hx0; clear hk6))
      go_ret2
      exact ⟨rfl, HW6.out⟩
set_option maxRecDepth 100000 in
set_option maxHeartbeats 3200000 in
theorem ra_pair (B : Nat) (p : Pg) (hf : Fine p) (q : Rc) (w : World) (hp : p.Ok w B) (hq : q.Ok w B) (hg : M.Good p q.cf) (hB : B ≤ w.heap.size) (a b g : Int) (ha : I64 a) (hb : I64 b) (r : Bool) (hr : M.pair p q.cf a b g = r) :
    Calls Try.prog 56 #[pgA p, rcA q, .int .i64 a, .int .i64 b, .int .i64 g] w fun e w' => e = .returned (.bool r) ∧ Below w.heap.size w w' := by
  have HQ18 := kp (jW hg.owns)
  have HP := kp hp; have HQ := kp hq; have HG := kp hg; have HF := kp hf; have HA := kp ha; have HB := kp hb
  obtain ⟨x, hx⟩ : ∃ x, (M.acc p q.cf a).1 = x := ⟨_, rfl⟩
  obtain ⟨h1, hh1⟩ : ∃ h1, (M.acc p q.cf a).2 = h1 := ⟨_, rfl⟩
  obtain ⟨y, hy⟩ : ∃ y, (M.acc p q.cf b).1 = y := ⟨_, rfl⟩
  obtain ⟨h2, hh2⟩ : ∃ h2, (M.acc p q.cf b).2 = h2 := ⟨_, rfl⟩
  have HAa : Kept (M.acc p q.cf a = (x, h1)) := kp (by rw [← hx, ← hh1])
  have HAb : Kept (M.acc p q.cf b = (y, h2)) := kp (by rw [← hy, ← hh2])
  have t1 := M.acc_two p q.cf a
  have t2 := M.acc_two p q.cf b
  rw [hh1] at t1
  rw [hh2] at t2
  have hr2 : decide (a ≠ b ∧ 0 < h1 ∧ 0 < h2 ∧ x = y ∧ x = g ∧ 2 < h1 + h2) = r := by
    rw [← hr]; unfold M.pair; rw [hx, hh1, hy, hh2]
  clear hp hq hg hf ha hb hx hh1 hy hh2 hr
  rw [l8, jO]
  go_enter Try.func56, Try.ntmps56
  have HR2 := kp hr2; have HT1 := kp t1; have HT2 := kp t2
  clear hr2 t1 t2
  go_wp2_with (first
    | ((with_reducible refine j2 rfl 38 (.tmp 0) rfl (pgC p) rfl ?_); intro g1 w1 hg1 hk1 hw1; have HK1 := kp hk1; have HW1 := kp hw1; have hs1 := hw1.size; have hl1 := hk1.lt; clear hk1 hw1)
    | ((with_reducible refine j2 rfl 59 (.tmp 1) rfl (rcC q) rfl ?_); intro g2 w2 hg2 hk2 hw2; have HK2 := kp hk2; have HK12 := kp (HK1.out.below hw2 hl1); have HW2 := kp (HW1.out.trans (hw2.mono hs1)); have hs2 := HW2.out.size; have hl12 := HK12.out.lt; have hl2 := hk2.lt; clear hk2 hw2)
    | ((with_reducible show Sl 16); go_must (refine j1 rfl 38 (.tmp 5) rfl g1 rfl _ (pgC p) _ HK12.out Try.underlying38 rfl jB ?_))
    | ((with_reducible show Sl 17); go_must (refine j1 rfl 59 (.tmp 6) rfl g2 rfl _ (rcC q) _ HK2.out Try.underlying59 rfl (by rw [HQ18.out]; exact j5) ?_))
    | (go_at_call 55; fail))
  refine (ra_at B p HF.out q w2 (HP.out.below (HW2.out.mono hB)) (HQ.out.below (HW2.out.mono hB)) HG.out (by omega) a HA.out x h1 HAa.out).mono ?_
  rintro e w3 ⟨rfl, hb3⟩
  have HW3 := kp (HW2.out.trans (hb3.mono hs2)); have HK13 := kp (HK12.out.below hb3 hl12); have HK23 := kp (HK2.out.below hb3 hl2); have hs3 := HW3.out.size
  clear hb3
  go_wp2_with (first
    | ((with_reducible show Sl 23); go_must (refine j1 rfl 38 (.tmp 5) rfl g1 rfl _ (pgC p) _ HK13.out Try.underlying38 rfl jB ?_))
    | ((with_reducible show Sl 24); go_must (refine j1 rfl 59 (.tmp 6) rfl g2 rfl _ (rcC q) _ HK23.out Try.underlying59 rfl (by rw [HQ18.out]; exact j5) ?_))
    | (go_at_call 55; fail))
  refine (ra_at B p HF.out q w3 (HP.out.below (HW3.out.mono hB)) (HQ.out.below (HW3.out.mono hB)) HG.out (by omega) b HB.out y h2 HAb.out).mono ?_
  rintro e w4 ⟨rfl, hb4⟩
  have HW4 := kp (HW3.out.trans (hb4.mono hs3))
  clear hb4
  by_cases hab : a = b
  · have b1 : (a != b) = false := by rw [bne_eq_false_iff_eq]; exact hab
    have HE : Kept (false = r) := kp (by rw [← HR2.out, decide_eq_false]; intro h; exact h.1 hab)
    clear hab
    go_wp2
    go_ret
    exact ⟨jH HE.out, HW4.out⟩
  have b1 : (a != b) = true := by rw [bne_iff_ne]; exact hab
  have HAB := kp hab
  clear hab
  by_cases hz : h1 = 0 ∨ h2 = 0
  · have HE : Kept (false = r) := kp (by rw [← HR2.out, decide_eq_false]; rintro ⟨_, i1, i2, _⟩; omega)
    by_cases z1 : h1 = 0
    · subst z1
      go_wp2
      go_ret
      exact ⟨jH HE.out, HW4.out⟩
    · have z2 : h2 = 0 := by omega
      subst z2
      have p1 : 0 < h1 := by have := HT1.out; omega
      clear hz z1
      go_wp2
      go_ret
      exact ⟨jH HE.out, HW4.out⟩
  have p1 : 0 < h1 := by have := HT1.out; omega
  have p2 : 0 < h2 := by have := HT2.out; omega
  have hh1 : h1 ≤ 2 := by have := HT1.out; omega
  have hh2 : h2 ≤ 2 := by have := HT2.out; omega
  clear hz
  by_cases hxy : x = y
  · have b2 : (x == y) = true := by rw [beq_iff_eq]; exact hxy
    by_cases hxg : x = g
    · have b3 : (x == g) = true := by rw [beq_iff_eq]; exact hxg
      have HE : Kept (decide (2 < h1 + h2) = r) := kp (by
        rw [← HR2.out]
        by_cases h : 2 < h1 + h2
        · rw [decide_eq_true h, decide_eq_true ⟨HAB.out, p1, p2, hxy, hxg, h⟩]
        · rw [decide_eq_false h, decide_eq_false (fun h2 => h h2.2.2.2.2.2)])
      clear hxy hxg
      go_wp2
      go_ret
      exact ⟨jH HE.out, HW4.out⟩
    · have b3 : (x == g) = false := by rw [beq_eq_false_iff_ne]; exact hxg
      have HE : Kept (false = r) := kp (by rw [← HR2.out, decide_eq_false]; rintro ⟨_, _, _, _, h, _⟩; exact hxg h)
      clear hxg hxy
      go_wp2
      go_ret
      exact ⟨jH HE.out, HW4.out⟩
  · have b2 : (x == y) = false := by rw [beq_eq_false_iff_ne]; exact hxy
    have HE : Kept (false = r) := kp (by rw [← HR2.out, decide_eq_false]; rintro ⟨_, _, _, h, _⟩; exact hxy h)
    clear hxy
    go_wp2
    go_ret
    exact ⟨jH HE.out, HW4.out⟩
theorem zH {fn : Func} {t u v z : Tmp} (h : fn.results = #[.tmp t, .tmp u, .tmp v, .tmp z]) (tmps : Array Value) (P : Program) (w : World) :
    (results fn tmps).run P w = .ok (.tuple #[tmps.getD t undef, tmps.getD u undef, tmps.getD v undef, tmps.getD z undef]) w := by
  simp [results, h]
theorem first_yes {p : Pg} {c : M.Cf} {n a b : Nat} (hn : c.ths.length = n) (hab : a < b) (hbn : b < n) (hp : M.pair p c (a : Int) (b : Int) (M.acc p c (a : Int)).1 = true) (h1 : ∀ a' b', a' < b' → b' < n → a' < a → M.NoPair p c a' b') (h2 : ∀ b', a < b' → b' < b → M.NoPair p c a b') :
    M.FirstIs p c (a : Int) (b : Int) (M.acc p c (a : Int)).1 1 := by
  refine .inl ⟨rfl, a, b, rfl, rfl, rfl, hab, by omega, fun h => ?_, fun a' b' hab' hbn' hl => ?_⟩
  · unfold M.NoPair at h
    rw [hp] at h
    exact absurd h (by decide)
  · rcases hl with hl | ⟨rfl, hl⟩
    · exact h1 a' b' hab' (by omega) hl
    · exact h2 b' hab' hl
theorem first_no {p : Pg} {c : M.Cf} {n : Nat} (hn : c.ths.length = n) (h1 : ∀ a' b', a' < b' → b' < n → a' < n → M.NoPair p c a' b') : M.FirstIs p c 0 0 0 0 :=
  .inr ⟨rfl, rfl, rfl, rfl, fun a' b' hab hbn => h1 a' b' hab (by omega) (by omega)⟩
def FirstR (p : Pg) (cf : M.Cf) (w : World) : Ending → World → Prop := fun e w' => ∃ (x y z h : Int), e = .returned (.tuple #[.int .i64 x, .int .i64 y, .int .i64 z, .int .i64 h]) ∧ M.FirstIs p cf x y z h ∧ Below w.heap.size w w'
set_option maxRecDepth 100000 in
set_option maxHeartbeats 3200000 in
theorem ra_first (B : Nat) (p : Pg) (hf : Fine p) (q : Rc) (w : World) (hp : p.Ok w B) (hq : q.Ok w B) (hg : M.Good p q.cf) (hB : B ≤ w.heap.size) :
    Calls Try.prog 37 #[pgA p, rcA q] w (FirstR p q.cf w) := by
  unfold FirstR
  have h8 : q.len ≤ 8 := by rw [← hq.len]; exact hg.most
  have HQ18 := kp (jW hg.owns)
  have HP := kp hp; have HQ := kp hq; have HG := kp hg; have HF := kp hf
  have HLen := kp hq.len
  obtain ⟨n, hn⟩ : ∃ n, q.len = n := ⟨_, rfl⟩
  rw [hn] at HLen h8
  have hqc := hq.lc.1; have hqm := hq.lc.2
  unfold maxLen at hqm
  rw [hn] at hqc
  obtain ⟨cp, hcp⟩ : ∃ cp, q.cap = cp := ⟨_, rfl⟩
  rw [hcp] at hqc hqm
  have HE0 : Kept (rcC q = .slice q.A n cp :: .slice q.A2 q.len q.cap2 :: q.ow.map natV) := kp (by rw [← hn, ← hcp]; rfl)
  clear hp hq hg hf hn hcp
  rw [l8, jO]
  go_enter Try.func37, Try.ntmps37
  go_wp2_with (first
    | ((with_reducible refine j2 rfl 38 (.tmp 0) rfl (pgC p) rfl ?_); intro g1 w1 hg1 hk1 hw1; have HK1 := kp hk1; have HW1 := kp hw1; have hs1 := hw1.size; have hl1 := hk1.lt; clear hk1 hw1)
    | ((with_reducible refine j2 rfl 59 (.tmp 1) rfl (rcC q) rfl ?_); intro g2 w2 hg2 hk2 hw2; have HK2 := kp hk2; have HK12 := kp (HK1.out.below hw2 hl1); have HW2 := kp (HW1.out.trans (hw2.mono hs1)); have hs2 := HW2.out.size; have hl12 := HK12.out.lt; have hl2 := hk2.lt; clear hk2 hw2))
  go_loopw [8] (fun v8 wr => ∃ a : Nat, a ≤ n ∧ v8 = .int .i64 a ∧ (∀ a' b', a' < b' → b' < n → a' < a → M.NoPair p q.cf a' b') ∧ Below w2.heap.size w2 wr) (fun v8 _ => n - (intOf v8).toNat)
  case atStart => exact ⟨0, by omega, rfl, (fun _ _ _ _ h => by omega), Below.refl _ _⟩
  case round =>
    obtain ⟨wA, rfl⟩ : ∃ x, x = wr := ⟨_, rfl⟩
    obtain ⟨a, ha, rfl, hbef, hbw⟩ := hrel
    have HBef := kp hbef; have HBw := kp hbw
    have hsz := hbw.size
    have HKa := kp (HK2.out.below hbw hl2)
    have hla := HKa.out.lt
    have hca := HKa.out.cell 0
    rw [HE0.out, List.getElem?_cons_zero] at hca
    clear hbef hbw
    by_cases hlt : a < n
    · have HIa : Kept (I64 (a : Int)) := kp (by unfold I64; omega)
      obtain ⟨gl, hgl⟩ : ∃ gl, (M.acc p q.cf (a : Int)).1 = gl := ⟨_, rfl⟩
      obtain ⟨how, hhow⟩ : ∃ how, (M.acc p q.cf (a : Int)).2 = how := ⟨_, rfl⟩
      have HAc : Kept (M.acc p q.cf (a : Int) = (gl, how)) := kp (by rw [← hgl, ← hhow])
      clear hgl hhow
      go_wp2
      clear hca
      go_loopw [9] (fun v9 W => ∃ b : Nat, a < b ∧ b ≤ n ∧ v9 = .int .i64 b ∧ (∀ b', a < b' → b' < b → M.NoPair p q.cf a b') ∧ Below w2.heap.size w2 W) (fun v9 _ => n - (intOf v9).toNat)
      case atStart => exact ⟨a + 1, by omega, by omega, by go_num, (fun _ _ h => by omega), HBw.out⟩
      case round =>
        obtain ⟨b, hab, hb, rfl, hbf, hbj⟩ := hrel
        have HBf := kp hbf
        have hsj := hbj.size
        have HBW := kp (HW2.out.trans (hbj.mono hs2))
        have HBj := kp hbj
        have hsw := HBW.out.size
        have HKr := kp (HK2.out.below hbj hl2); have HK1r := kp (HK12.out.below hbj hl12)
        have hlr := HKr.out.lt; have hl1r := HK1r.out.lt
        have hcr := HKr.out.cell 0
        rw [HE0.out, List.getElem?_cons_zero] at hcr
        have HPr := kp (HP.out.below (HBW.out.mono hB)); have HQr := kp (HQ.out.below (HBW.out.mono hB))
        have hBr : B ≤ wr.heap.size := by omega
        clear hbf hbj
        by_cases hbl : b < n
        · have HIb : Kept (I64 (b : Int)) := kp (by unfold I64; omega)
          obtain ⟨r, hr⟩ : ∃ r, M.pair p q.cf (a : Int) (b : Int) gl = r := ⟨_, rfl⟩
          have HR := kp hr
          clear hr
          go_wp2_with (first
            | ((with_reducible show Sl 29); go_must (refine j1 rfl 38 (.tmp 2) rfl g1 rfl _ (pgC p) _ HK1r.out Try.underlying38 rfl jB ?_))
            | ((with_reducible show Sl 30); go_must (refine j1 rfl 59 (.tmp 3) rfl g2 rfl _ (rcC q) _ HKr.out Try.underlying59 rfl (by rw [HQ18.out]; exact j5) ?_))
            | (go_at_call 55; fail))
          refine (ra_at B p HF.out q wr HPr.out HQr.out HG.out hBr (a : Int) HIa.out gl how HAc.out).mono ?_
          rintro e w4 ⟨rfl, hb4⟩
          have HB4 := kp (HBj.out.trans (hb4.mono hsj)); have HW4 := kp (HBW.out.trans (hb4.mono hsw)); have hs4 := HW4.out.size
          have HK14 := kp (HK1r.out.below hb4 hl1r); have HK24 := kp (HKr.out.below hb4 hlr)
          have hsz4 := hb4.size
          clear hb4 hcr
          go_wp2_with (first
            | ((with_reducible show Sl 35); go_must (refine j1 rfl 38 (.tmp 2) rfl g1 rfl _ (pgC p) _ HK14.out Try.underlying38 rfl jB ?_))
            | ((with_reducible show Sl 36); go_must (refine j1 rfl 59 (.tmp 3) rfl g2 rfl _ (rcC q) _ HK24.out Try.underlying59 rfl (by rw [HQ18.out]; exact j5) ?_))
            | (go_at_call 56; fail))
          refine (ra_pair B p HF.out q w4 (HP.out.below (HW4.out.mono hB)) (HQ.out.below (HW4.out.mono hB)) HG.out (by omega) (a : Int) (b : Int) gl HIa.out HIb.out r HR.out).mono ?_
          rintro e w5 ⟨rfl, hb5⟩
          have HB5 := kp (HB4.out.trans (hb5.mono (by omega))); have HW5 := kp (HW4.out.trans (hb5.mono hs4))
          clear hb5
          cases r
          · go_wp2
            go_roundw
            case rel =>
              refine ⟨b + 1, by omega, by omega, by go_num, fun b' h1 h2 => ?_, HB5.out⟩
              by_cases e : b' = b
              · subst e
                unfold M.NoPair
                rw [HAc.out]
                exact HR.out
              · exact HBf.out b' h1 (by omega)
            case measure => simp [intOf]; omega
          · have HFst : Kept (M.FirstIs p q.cf (a : Int) (b : Int) gl 1) := kp (by
              have h := first_yes HLen.out hab hbl (by rw [HAc.out]; exact HR.out) HBef.out HBf.out
              rw [HAc.out] at h
              exact h)
            go_wp2
            (try simp only [Exit.inBlock, Exit.then])
            refine bodyPost_ret (zH rfl _ _ _) rfl ?_
            exact ⟨_, _, _, _, rfl, HFst.out, HW5.out⟩
        · have hbe : n ≤ b := by omega
          go_wp2
          go_roundw
          case rel =>
            refine ⟨a + 1, by omega, by go_num, fun a' b' h1 h2 h3 => ?_, HBj.out⟩
            by_cases e : a' = a
            · subst e
              exact HBf.out b' h1 (by omega)
            · exact HBef.out a' b' h1 h2 (by omega)
          case measure => simp [intOf]; omega
    · have HFst : Kept (M.FirstIs p q.cf 0 0 0 0) := kp (first_no HLen.out (fun a' b' h1 h2 h3 => HBef.out a' b' h1 h2 (by omega)))
      have HBW := kp (HW2.out.trans (HBw.out.mono hs2))
      go_wp2
      (try simp only [Exit.inBlock, Exit.then])
      refine bodyPost_ret (zH rfl _ _ _) rfl ?_
      exact ⟨0, 0, 0, 0, rfl, HFst.out, HBW.out⟩
end Go.Proofs.Ytkhfolpffjihgaa
