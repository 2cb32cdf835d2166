/- SemStart2, RaceRuns, RaceLaw1, in one text. -/
import Derived.Test.YticifjmkocgipaaPk26
import Derived.Test.YticifjmkocgipaaPk27
import Derived.Test.YticifjmkocgipaaPk20
import Derived.Test.YticifjmkocgipaaPk28
import Derived.Test.YticifjmkocgipaaPk29
/- The program's interpreter, walked: Start, whose answer is new memory. -/
namespace Go.Proofs.Yticifjmkocgipaa
open Go.RowKit

/-- What Start hands back. -/
def StartPost2 (w : World) (c : Nat) : Ending → World → Prop := fun e w' => ∃ q, e = .returned (.tuple #[pcA q, .int .i64 (c : Int)]) ∧ Mine w' w.heap.size q ∧ (c = 0 → q.cf = M.start) ∧ (c ≠ 0 → q.len = 0) ∧ q.ow.length = 16 ∧ Below w.heap.size w w'

set_option maxRecDepth 100000 in
set_option maxHeartbeats 1600000 in
theorem sem_start2 (B : Nat) (p : Pg) (w : World) (hp : p.Ok w B) (hB : B ≤ w.heap.size) (a b : Int) (c : Nat) (hc : Q.check p = (a, b, c)) :
    Calls Try.prog 26 #[pgA p] w (StartPost2 w c) := by
  unfold StartPost2
  have HP := kp hp; have HC := kp hc
  clear hp hc
  rw [pgA_is]
  by_cases hz : c = 0
  · have HZ : Kept ((c : Int) = 0) := kp (by omega)
    have hb0 : ((c : Int) != 0) = false := by rw [HZ.out]; rfl
    have HCz := kp hz
    clear hz
    go_enter Try.func26, Try.ntmps26
    go_wp2_with (first
      | ((with_reducible refine wpList_box_agg rfl 24 (.tmp 0) rfl (pgC p) rfl ?_); intro g1 w1 hg1 hk1 hw1; have HK1 := kp hk1; have HW1 := kp hw1; have hs1 := hw1.size; have hl1 := hk1.lt; clear hk1 hw1)
      | ((with_reducible show wpList _ _ _ (⟨some 2, _, _, _, _, _⟩ :: _) _ _); go_must (refine wpList_alloc_zero rfl 31 rfl _ conf_zero ?_); intro g2 w2 hg2 hk2 hw2; have HK2 := kp hk2; have HK12 := kp (HK1.out.below hw2 hl1); have HW2 := kp (HW1.out.trans (hw2.mono hs1)); have hs2 := HW2.out.size; have hl2 := hk2.lt; clear hk2 hw2)
      | ((with_reducible show wpList _ _ _ (⟨some 8, _, _, _, _, _⟩ :: _) _ _); go_must (refine wpList_load_blk rfl 24 (.tmp 1) rfl g1 rfl _ (pgC p) _ HK12.out Try.underlying24 rfl pg_size ?_))
      | (go_at_call 46; go_must (refine (prog_check_any B p w2 (HP.out.below (HW2.out.mono hB)) (by omega) a b c HC.out).mono ?_); rintro e w3 ⟨rfl, hb3⟩; have HW3 := kp (HW2.out.trans (hb3.mono hs2)); have HK23 := kp (HK2.out.below hb3 hl2); have hs3 := HW3.out.size; have hl23 := HK23.out.lt; clear hb3)
      | (go_at_call 47; go_must (refine (sem_begun 0 w3).mono ?_); rintro e w4 ⟨g4, rfl, hown4, hg4, hb4⟩; have HOw4 := kp hown4; have HW4 := kp (HW3.out.trans (hb4.mono hs3)); have HK24 := kp (HK23.out.below hb4 hl23); have hs4 := HW4.out.size; have hs34 := hb4.size; have hl24 := HK24.out.lt; have hl44 := (hown4.block g4 rfl).2; have HNe : Kept (g4 ≠ g2 ∧ w.heap.size ≤ g2 ∧ g2 < w4.heap.size ∧ w.heap.size ≤ w3.heap.size) := kp (by omega); clear hown4 hb4)
      | ((with_reducible show wpList _ _ _ (⟨some 18, _, _, _, _, _⟩ :: _) _ _); go_must (refine wpList_buildSlice_one rfl 28 91 (.tmp 17) rfl 9 Try.underlying28 thread_one (by omega) (by omega) _ (Value.slice (some ⟨g4, 0, none⟩) 1 1 :: zeros 8) rfl rfl rfl ?_); intro g5 w5 hg5 hk5 hb5; have HK5 := kp hk5; have HW5 := kp (HW4.out.trans (hb5.mono hs4)); have HK25 := kp (HK24.out.below hb5 hl24); have HOw5 := kp (HOw4.out.below hb5 (Nat.le_refl _)); have hs5 := HW5.out.size; have HNe5 : Kept (g5 ≠ g2 ∧ w.heap.size ≤ g5 ∧ g5 ≠ g4) := kp (by have := HNe.out.2.2; omega); clear hk5 hb5)
      | ((with_reducible show wpList _ _ _ (⟨some 19, _, _, _, _, _⟩ :: _) _ _); go_must (refine wpList_build_1 rfl 31 0 (.tmp 18) rfl (.slice (some ⟨g5, 0, none⟩) 1 1) rfl (Value.slice (some ⟨g5, 0, none⟩) 1 1 :: zeros 16) (built_conf (some ⟨g5, 0, none⟩) 1 1) ?_))
      | ((with_reducible show wpList _ _ _ (⟨none, _, _, _, _, _⟩ :: _) _ _); go_must (refine wpList_store_blk rfl 31 (.tmp 2) (.tmp 19) rfl g2 (Value.slice (some ⟨g5, 0, none⟩) 1 1 :: zeros 16) rfl rfl _ _ HK25.out conf_size rfl (conf0_ones _ _ _) ?_); intro w6 hk6 hg6 hs6
         have HK6 := kp hk6; have HK56 := kp (HK5.out.grown hg6 (fun e => by cases e; exact HNe5.out.1 rfl)); have HOw6 := kp (HOw5.out.far hg6 (.inr (fun e => by cases e; exact HNe.out.1 rfl))); have HW6 := kp (HW5.out.grown hg6 HW5.out.size (fun k e => by cases e; exact HNe.out.2.1)); clear hk6 hg6 hs6))
    have HRow : Kept (OwnR 9 tvV w6 w.heap.size 91 (.slice (some ⟨g5, 0, none⟩) 1 1) [newT 0 g4]) := kp (OwnR.of_blk HK56.out HNe5.out.2.1 rfl (Nat.le_refl _) (by unfold maxLen; omega) rfl rfl)
    have HOk : Kept (Mine w6 w.heap.size ⟨some ⟨g5, 0, none⟩, 1, 1, [newT 0 g4], List.replicate 16 0⟩) := kp ⟨HRow.out, (Fam.nil _ _ _ _).add (HOw6.out.less HNe.out.2.2.2) (fun b hb h => by
      have e1 : g4 = b := by have h2 : some g4 = some b := hb; injection h2
      have e2 : g5 = b := by have h2 : some g5 = some b := h; injection h2
      exact HNe5.out.2.2 (e2.trans e1.symm)) (fun _ _ _ h => by simp at h)⟩
    have HKf : Kept (Blk w6 g2 31 (pcC ⟨some ⟨g5, 0, none⟩, 1, 1, [newT 0 g4], List.replicate 16 0⟩)) := kp (by unfold pcC; rw [← zeros_ow]; exact HK6.out)
    go_wp2_with ((with_reducible show bodyPost _ _ _ _ _ _); exact bodyPost_ret (results_cell1 (P := Try.prog) (fn := Try.f26) rfl _ _ g2 31 _ _ _ rfl rfl HKf.out Try.underlying31 rfl conf_size) rfl ⟨⟨some ⟨g5, 0, none⟩, 1, 1, [newT 0 g4], List.replicate 16 0⟩, by rw [HZ.out]; rfl, HOk.out, fun _ => rfl, fun h => absurd HCz.out h, rfl, HW6.out⟩)
  · have hb0 : ((c : Int) != 0) = true := by simpa using hz
    have HZ := kp hz
    clear hz
    go_enter Try.func26, Try.ntmps26
    go_wp2_with (first
      | ((with_reducible refine wpList_box_agg rfl 24 (.tmp 0) rfl (pgC p) rfl ?_); intro g1 w1 hg1 hk1 hw1; have HK1 := kp hk1; have HW1 := kp hw1; have hs1 := hw1.size; have hl1 := hk1.lt; clear hk1 hw1)
      | ((with_reducible show wpList _ _ _ (⟨some 2, _, _, _, _, _⟩ :: _) _ _); go_must (refine wpList_alloc_zero rfl 31 rfl _ conf_zero ?_); intro g2 w2 hg2 hk2 hw2; have HK2 := kp hk2; have HK12 := kp (HK1.out.below hw2 hl1); have HW2 := kp (HW1.out.trans (hw2.mono hs1)); have hs2 := HW2.out.size; have hl2 := hk2.lt; clear hk2 hw2)
      | ((with_reducible show wpList _ _ _ (⟨some 8, _, _, _, _, _⟩ :: _) _ _); go_must (refine wpList_load_blk rfl 24 (.tmp 1) rfl g1 rfl _ (pgC p) _ HK12.out Try.underlying24 rfl pg_size ?_))
      | (go_at_call 46; go_must (refine (prog_check_any B p w2 (HP.out.below (HW2.out.mono hB)) (by omega) a b c HC.out).mono ?_); rintro e w3 ⟨rfl, hb3⟩; have HW3 := kp (HW2.out.trans (hb3.mono hs2)); have HK23 := kp (HK2.out.below hb3 hl2); have hs3 := HW3.out.size; have hl23 := HK23.out.lt; clear hb3)
      | ((with_reducible show wpList _ _ _ (⟨some 15, _, _, _, _, _⟩ :: _) _ _); go_must (refine wpList_build_is rfl 31 #[] rfl [] (by simp) (Value.slice none 0 0 :: zeros 16) built_conf0 ?_))
      | ((with_reducible show wpList _ _ _ (⟨none, _, _, _, _, _⟩ :: _) _ _); go_must (refine wpList_store_blk rfl 31 (.tmp 2) (.tmp 15) rfl g2 (Value.slice none 0 0 :: zeros 16) rfl rfl _ _ HK23.out conf_size rfl (conf0_ones _ _ _) ?_); intro w6 hk6 hg6 hs6
         have HK6 := kp hk6; have HW6 := kp (HW3.out.grown hg6 hs3 (fun k e => by cases e; omega)); clear hk6 hg6 hs6))
    have HKf : Kept (Blk w6 g2 31 (pcC pcNone)) := kp (by rw [pcNone_cells]; exact HK6.out)
    have HOk : Kept (Mine w6 w.heap.size pcNone) := kp ⟨OwnR.nil _ _ _ _ _, Fam.nil _ _ _ _⟩
    go_wp2_with ((with_reducible show bodyPost _ _ _ _ _ _); exact bodyPost_ret (results_cell1 (P := Try.prog) (fn := Try.f26) rfl _ _ g2 31 _ _ _ rfl rfl HKf.out Try.underlying31 rfl conf_size) rfl ⟨pcNone, rfl, HOk.out, fun h => absurd h HZ.out, fun _ => rfl, rfl, HW6.out⟩)
end Go.Proofs.Yticifjmkocgipaa

/- The law's runs, walked: a program's config behind picks. -/
namespace Go.Proofs.Yticifjmkocgipaa
open Go.RowKit

/-- What runs hands back. -/
def RunsPost (p : Pg) (z : List (Int × Bool)) (n cc : Nat) (w : World) : Ending → World → Prop := fun e w' => ∃ (q : Pc) (ok : Nat), e = .returned (.tuple #[pcA q, .int .i64 (ok : Int)]) ∧ Mine w' w.heap.size q ∧ q.ow.length = 16 ∧ (cc ≠ 0 → ok = 0) ∧ (cc = 0 → ok = 1 ∧ q.cf = runTo p z n) ∧ Below w.heap.size w w'
theorem put_none_ru (a : Act) (v : Value) : a.put none v = a := rfl
theorem good_ow {p : Pg} {q : Pc} {c : M.Cf} (hg : M.Good p c) (h : q.cf = c) : q.ow.length = 16 := by subst h; exact hg.owns

set_option maxRecDepth 1000000 in
set_option maxHeartbeats 8000000 in
theorem law_runs (pg0 : Pg) (a1 : Option Addr) (len1 cap1 : Nat) (z1 : List (Int × Bool)) (w : World) (w0 : pg0.Ok w w.heap.size) (w1 : Picks w w.heap.size a1 len1 z1) (c1 : len1 ≤ cap1 ∧ cap1 ≤ maxLen) (hn : len1 ≤ 300) (ca cb : Int) (cc : Nat) (hc : Q.check pg0 = (ca, cb, cc)) :
    Calls Try.prog 10 #[pgA pg0, .slice a1 len1 cap1] w (RunsPost pg0 z1 len1 cc w) := by
  unfold RunsPost
  have HP := kp w0
  have HPi := kp w1
  have hc1 := c1.1; have hm1 := c1.2
  unfold maxLen at hm1
  clear w0 w1 c1
  have HC := kp hc
  clear hc
  rw [pgA_is]
  go_enter Try.func10, Try.ntmps10
  go_wp2_with (first
    | ((with_reducible refine wpList_box_agg rfl 24 (.tmp 0) rfl (pgC pg0) rfl ?_); intro g1 u1 hg1 hk1 hu1; have HK1 := kp hk1; have HG1 := kp hg1; have HU1 := kp hu1; have hz1 := hu1.size; have hl1 := hk1.lt; clear hg1 hk1 hu1)
    | ((with_reducible show wpList _ _ _ (⟨some 4, _, _, _, _, _⟩ :: _) _ _); go_must (refine wpList_alloc_zero rfl 31 rfl _ conf_zero ?_); intro gR u2 hgR hk2 hu2; have HKR2 := kp hk2; have HGR := kp hgR; have HU2 := kp (HU1.out.trans (hu2.mono hz1)); have HK12 := kp (HK1.out.below hu2 hl1); have hz2 := HU2.out.size; have hlR2 := hk2.lt; have hl12 := HK12.out.lt; clear hk2 hu2 hgR)
    | ((with_reducible show wpList _ _ _ (⟨some 10, _, _, _, _, _⟩ :: _) _ _); go_must (refine wpList_load_blk rfl 24 (.tmp 2) rfl g1 rfl _ (pgC pg0) _ HK12.out Try.underlying24 rfl pg_size ?_))
    | (go_at_call 26; fail))
  refine (sem_start2 _ pg0 u2 (HP.out.below HU2.out) hz2 ca cb cc HC.out).mono ?_
  unfold StartPost2
  rintro e u4 ⟨q0, rfl, hmi, hcf, hl0, h16, hb4⟩
  have HMi4 := kp hmi; have HCfz := kp hcf; have H016 := kp h16; have H17 := kp (conf_len h16)
  clear hcf hl0 h16
  have HU4 := kp (HU2.out.trans (hb4.mono hz2)); have HK4 := kp (HK12.out.below hb4 hl12); have HKR4 := kp (HKR2.out.below hb4 hlR2); have hs4 := HU4.out.size; have hs24 := hb4.size; have hlk4 := HK4.out.lt; have hlR4 := HKR4.out.lt
  clear hmi hb4
  by_cases hz : cc = 0
  case neg =>
    have HZ := kp hz
    have hb0 : ((cc : Int) != 0) = true := by simpa using hz
    clear hz
    go_wp2_with (first
      | ((with_reducible show wpList _ _ _ (⟨some 6, _, _, _, _, _⟩ :: _) _ _); go_must (refine wpList_alloc_zero rfl 31 rfl _ conf_zero ?_); intro gC u5 hgC hk5 hu5; have HKc := kp hk5; have HGC := kp hgC; have HU5 := kp (HU4.out.trans (hu5.mono hs4)); have HMi5 := kp (HMi4.out.below hu5 (Nat.le_refl _)); have HK5 := kp (HK4.out.below hu5 hlk4); have HKR5 := kp (HKR4.out.below hu5 hlR4); have hs5 := HU5.out.size; have hlC := hk5.lt; clear hk5 hu5 hgC)
      | ((with_reducible show wpList _ _ _ (⟨none, _, _, _, _, _⟩ :: _) _ _); (refine wpList_store_blk rfl 31 (.tmp 6) (.tmp 12) rfl gC (pcC q0) rfl rfl _ _ HKc.out (by rw [H17.out]; exact conf_size) (by rw [H17.out]; rfl) (conf_ones q0) ?_); intro u6 hk6 hg6 hs6'
         have HK26 := kp hk6; have HU6 := kp (HU5.out.grown hg6 hs5 (fun k e => by cases e; have := HGC.out; omega)); have hs6 := HU6.out.size
         have HK16 := kp (HK5.out.grown hg6 (fun e => by cases e; have := HGC.out; omega)); have HKR6 := kp (HKR5.out.grown hg6 (fun e => by cases e; have := HGC.out; omega)); have hlR6 := HKR6.out.lt
         have HMi6 := kp ((Mine.typed HMi5.out HKc.out hg6).less hz2)
         have HGw : Kept (w.heap.size ≤ g1 ∧ w.heap.size ≤ gC ∧ w.heap.size ≤ gR ∧ g1 ≠ gC ∧ gR ≠ gC) := kp ⟨by have := HG1.out; omega, by have := HGC.out; omega, by have := HGR.out; omega, by have := HGC.out; omega, by have := HGC.out; omega⟩
         have HZl : Kept ((Value.slice none 0 0 :: zeros 16 : List Value).length = 17) := kp rfl
         clear hk6 hg6 hs6')
      | ((with_reducible show wpList _ _ _ (⟨some 16, _, _, _, _, _⟩ :: _) _ _); go_must (refine wpList_load_blk rfl 31 (.tmp 6) rfl gC rfl _ (pcC q0) _ HK26.out Try.underlying31 rfl (by rw [H17.out]; exact conf_size) ?_))
      | ((with_reducible show wpList _ _ _ (⟨none, _, _, _, _, _⟩ :: _) _ _); (refine wpList_store_blk rfl 31 (.tmp 4) (.tmp 16) rfl gR (pcC q0) rfl rfl _ _ HKR6.out (by rw [H17.out]; exact conf_size) (by rw [H17.out]; rfl) (conf_ones q0) ?_); intro u7 hk7 hg7 hs7'
         have HKR7 := kp hk7; have HU7 := kp (HU6.out.grown hg7 hs6 (fun k e => by cases e; exact HGw.out.2.2.1))
         have HM7 := kp (Mine.typed HMi6.out HKR6.out hg7)
         clear hk7 hg7 hs7')
      | ((with_reducible show bodyPost _ _ _ _ _ _); exact bodyPost_ret (results_cell1 (P := Try.prog) (fn := Try.f10) rfl _ _ gR 31 _ _ _ rfl rfl HKR7.out Try.underlying31 rfl (by rw [H17.out]; exact conf_size)) rfl ⟨q0, 0, rfl, HM7.out, H016.out, (fun _ => rfl), fun h => absurd h HZ.out, HU7.out⟩))
  have HZ := kp hz
  have HZ0 : Kept ((cc : Int) = 0) := kp (by omega)
  have hb0 : ((cc : Int) != 0) = false := by rw [HZ0.out]; rfl
  have HCf0 := kp (HCfz.out HZ.out)
  clear hz
  have HF : Kept (Fine pg0) := kp (fine_of (by rw [HC.out, HZ.out]))
  have HGd : Kept (∀ i, M.Good pg0 (runTo pg0 z1 i)) := kp (runTo_good HF.out HP.out.row.len z1)
  go_wp2_with (first
    | ((with_reducible show wpList _ _ _ (⟨some 6, _, _, _, _, _⟩ :: _) _ _); go_must (refine wpList_alloc_zero rfl 31 rfl _ conf_zero ?_); intro gC u5 hgC hk5 hu5; have HKc := kp hk5; have HGC := kp hgC; have HU5 := kp (HU4.out.trans (hu5.mono hs4)); have HMi5 := kp (HMi4.out.below hu5 (Nat.le_refl _)); have HK5 := kp (HK4.out.below hu5 hlk4); have HKR5 := kp (HKR4.out.below hu5 hlR4); have hs5 := HU5.out.size; have hlC := hk5.lt; clear hk5 hu5 hgC)
    | ((with_reducible show wpList _ _ _ (⟨none, _, _, _, _, _⟩ :: _) _ _); (refine wpList_store_blk rfl 31 (.tmp 6) (.tmp 12) rfl gC (pcC q0) rfl rfl _ _ HKc.out (by rw [H17.out]; exact conf_size) (by rw [H17.out]; rfl) (conf_ones q0) ?_); intro u6 hk6 hg6 hs6'
       have HK26 := kp hk6; have HU6 := kp (HU5.out.grown hg6 hs5 (fun k e => by cases e; have := HGC.out; omega)); have hs6 := HU6.out.size
       have HK16 := kp (HK5.out.grown hg6 (fun e => by cases e; have := HGC.out; omega)); have HKR6 := kp (HKR5.out.grown hg6 (fun e => by cases e; have := HGC.out; omega)); have hlR6 := HKR6.out.lt
       have HMi6 := kp ((Mine.typed HMi5.out HKc.out hg6).less hz2)
       have HGw : Kept (w.heap.size ≤ g1 ∧ w.heap.size ≤ gC ∧ w.heap.size ≤ gR ∧ g1 ≠ gC ∧ gR ≠ gC) := kp ⟨by have := HG1.out; omega, by have := HGC.out; omega, by have := HGR.out; omega, by have := HGC.out; omega, by have := HGC.out; omega⟩
       have HZl : Kept ((Value.slice none 0 0 :: zeros 16 : List Value).length = 17) := kp rfl
       clear hk6 hg6 hs6'))
  go_loopw [8] (fun v wr => ∃ (i : Nat) (q : Pc), i ≤ len1 ∧ v = .int .i64 i ∧ Mine wr w.heap.size q ∧ q.cf = runTo pg0 z1 i ∧ Blk wr gC 31 (pcC q) ∧ Blk wr g1 24 (pgC pg0) ∧ (∃ cs, cs.length = 17 ∧ Blk wr gR 31 cs) ∧ Below w.heap.size w wr) (fun v _ => len1 - (intOf v).toNat)
  case atStart => exact ⟨0, q0, by omega, rfl, HMi6.out, by rw [runTo_zero]; exact HCf0.out, HK26.out, HK16.out, ⟨_, HZl.out, HKR6.out⟩, HU6.out⟩
  case round =>
    obtain ⟨i, q, hi, rfl, hmq, hcf, hkc, hkp, ⟨csR, hlR, hkR⟩, hbl⟩ := hrel
    have HMq := kp hmq; have HCf := kp hcf; have HKC := kp hkc; have HKP := kp hkp; have HKR := kp hkR; have HLR := kp hlR; have HB := kp hbl
    have HOq := kp hmq.ok
    have hBs := hbl.size; have hlC := hkc.lt; have hlP := hkp.lt; have hlRw := hkR.lt
    have HPr := kp (HP.out.below hbl)
    have H17 := kp (conf_len (q := q) (good_ow (HGd.out i) hcf))
    clear hmq hcf hkc hkp hkR hlR hbl
    by_cases hlt : i < len1
    · obtain ⟨ad, x, hA, hadB, hx, hx1, hcx0, hcx1⟩ := HPi.out.pick hlt
      have hadw : ad.block < wr.heap.size := by omega
      have HX := kp hx; have HX1 := kp hx1
      have HCx : Kept (wr.cell? (ad.add (i * 2)) = some (.int .i64 x.1) ∧ wr.cell? ⟨(ad.add (i * 2)).block, (ad.add (i * 2)).off + 1, none⟩ = some (.bool x.2)) := kp ⟨(HB.out.cell (by rw [add_block]; exact hadB)).trans hcx0, (HB.out.cell (by rw [add_block]; exact hadB)).trans hcx1⟩
      subst hA
      clear hx hx1 hcx0 hcx1
      go_wp2
      apply region_tail 7 (.is (pcA q) :: .is (pgA pg0) :: .is _ :: .is _ :: .is (.pointer (some (ad.add (i * 2)))) :: .is (.agg #[.int .i64 x.1, .bool x.2]) :: (.stepped wr.heap.size (M.step pg0 q.cf x.1 x.2)) :: [])
        [[], [], [], [], [(2, 25), (3, 26)], [(4, 27)], [(0, 23), (1, 24), (5, 28)], [(6, 29)]]
        [(0, 23), (1, 24), (2, 25), (3, 26), (4, 27), (5, 28), (6, 29)] (by kernel_rfl) (by kernel_rfl) (by kernel_rfl) (by kernel_rfl) (by kernel_rfl)
      case hob =>
        refine ⟨?o0, ?o1, ?o2, ?o3, ?o4, ?o5, ?o6, trivial⟩
        case o0 =>
          intro W hW; change wpList _ _ _ _ _ _
          go_must (refine wpList_load_blk rfl 31 (.tmp 6) rfl gC rfl _ (pcC q) _ (HKC.out.below hW hlC) Try.underlying31 rfl (by rw [H17.out]; exact conf_size) ?_)
          go_wp2; exact pure_post rfl rfl rfl
        case o1 =>
          intro W hW; change wpList _ _ _ _ _ _
          go_must (refine wpList_load_blk rfl 24 (.tmp 2) rfl g1 rfl _ (pgC pg0) _ (HKP.out.below hW hlP) Try.underlying24 rfl pg_size ?_)
          go_wp2; exact pure_post rfl rfl rfl
        case o2 => intro W hW; change wpList _ _ _ _ _ _; go_wp2; exact pure_post rfl rfl rfl
        case o3 => intro W hW; change wpList _ _ _ _ _ _; go_wp2; exact pure_post rfl rfl rfl
        case o4 => intro W hW; rintro _ rfl; rintro _ rfl; change wpList _ _ _ _ _ _; go_wp2; exact pure_post rfl rfl rfl
        case o5 =>
          intro W hW; rintro _ rfl; change wpList _ _ _ _ _ _
          have hd0 := (hW.cell (p := ad.add (i * 2)) (by rw [add_block]; exact hadw)).trans HCx.out.1
          have hd1 := (hW.cell (p := ⟨(ad.add (i * 2)).block, (ad.add (i * 2)).off + 1, none⟩) (by rw [add_block]; exact hadw)).trans HCx.out.2
          go_wp2; exact pure_post rfl rfl rfl
        case o6 =>
          intro W hW; rintro _ rfl; rintro _ rfl; rintro _ rfl; change wpList _ _ _ _ _ _
          have hsW := hW.size
          go_wp2_with fail
          refine (sem_step W.heap.size pg0 HF.out q W (pg_more9 (HPr.out.below (hW.mono hBs)) (show w.heap.size ≤ W.heap.size by omega)) ((HOq.out.below hW).more hsW) (by rw [HCf.out]; exact HGd.out i) (Nat.le_refl _) x.1 HX1.out x.2).mono ?_
          rintro e w2 ⟨q', rfl, hm2, hcf2, hb2⟩
          have HB2 := kp hb2; have HM2 := kp hm2; have HC2 := kp hcf2; clear hb2 hm2 hcf2
          go_wp2
          exact made_post rfl rfl rfl HB2.out ⟨q', rfl, HM2.out.less hsW, HC2.out⟩
      case hend =>
        intro W hW; rintro _ rfl; rintro _ rfl; rintro _ rfl; rintro _ rfl; rintro _ rfl; rintro _ rfl; rintro _ ⟨q1, rfl, hmi, hcf1⟩
        simp only [given, put_lit, List.set, List.drop]
        have HW := kp hW; have HMi := kp (hmi.less hBs); have HCf1 : Kept (q1.cf = runTo pg0 z1 (i + 1)) := kp (by rw [hcf1, HCf.out, runTo_succ pg0 z1 i x HX.out])
        have H171 := kp (conf_len (q := q1) (good_ow (HGd.out (i + 1)) HCf1.out))
        have HKC2 := kp (HKC.out.below hW hlC); have HKP2 := kp (HKP.out.below hW hlP); have HKR2 := kp (HKR.out.below hW hlRw)
        have hsW := hW.size
        have HsW : Kept (w.heap.size ≤ W.heap.size) := kp (by omega)
        clear hW hmi hcf1
        refine wpList_store_blk rfl 31 (.tmp 6) (.tmp 29) rfl gC (pcC q1) rfl rfl _ _ HKC2.out (by rw [H171.out]; exact conf_size) (by rw [H171.out, H17.out]) (conf_ones q1) ?_
        intro u7 hk7 hg7 hs7
        have HK27 := kp hk7; have HM7 := kp (Mine.typed HMi.out HKC2.out hg7); have HB7 := kp ((HB.out.trans (HW.out.mono hBs)).grown hg7 HsW.out (fun k e => by cases e; exact HGw.out.2.1))
        have HKP7 := kp (HKP2.out.grown hg7 (fun e => by cases e; exact HGw.out.2.2.2.1 rfl)); have HKR7 := kp (HKR2.out.grown hg7 (fun e => by cases e; exact HGw.out.2.2.2.2 rfl))
        clear hk7 hg7 hs7
        simp only [put_none_ru]
        go_wp2
        go_roundw
        case rel => exact ⟨i + 1, q1, by omega, by go_num, HM7.out, HCf1.out, HK27.out, HKP7.out, ⟨_, HLR.out, HKR7.out⟩, HB7.out⟩
        case measure => simp [intOf]; omega
    · have hge : len1 ≤ i := by omega
      have HEnd : Kept (q.cf = runTo pg0 z1 len1) := kp (by rw [HCf.out, show i = len1 by omega])
      go_wp2_with (first
        | ((with_reducible show wpList _ _ _ (⟨some 30, _, _, _, _, _⟩ :: _) _ _); go_must (refine wpList_load_blk rfl 31 (.tmp 6) rfl gC rfl _ (pcC q) _ HKC.out Try.underlying31 rfl (by rw [H17.out]; exact conf_size) ?_))
        | ((with_reducible show wpList _ _ _ (⟨none, _, _, _, _, _⟩ :: _) _ _); (refine wpList_store_blk rfl 31 (.tmp 4) (.tmp 30) rfl gR (pcC q) rfl rfl _ _ HKR.out (by rw [H17.out]; exact conf_size) (by rw [H17.out, HLR.out]) (conf_ones q) ?_); intro u7 hk7 hg7 hs7'
           have HKR7 := kp hk7; have HU7 := kp (HB.out.grown hg7 hBs (fun k e => by cases e; exact HGw.out.2.2.1))
           have HM7 := kp (Mine.typed HMq.out HKR.out hg7)
           clear hk7 hg7 hs7')
        | ((with_reducible show bodyPost _ _ _ _ _ _); exact bodyPost_ret (results_cell1 (P := Try.prog) (fn := Try.f10) rfl _ _ gR 31 _ _ _ rfl rfl HKR7.out Try.underlying31 rfl (by rw [H17.out]; exact conf_size)) rfl ⟨q, 1, rfl, HM7.out, good_ow (HGd.out i) HCf.out, (fun h => absurd HZ.out h), fun _ => ⟨rfl, HEnd.out⟩, HU7.out⟩))
end Go.Proofs.Yticifjmkocgipaa

/- What the statements of race begin with, walked: awake. -/
namespace Go.Proofs.Yticifjmkocgipaa
open Go.RowKit

theorem results_first {p : Pg} {c : M.Cf} {x y z h x' y' z' h' : Int} (h1 : M.FirstIs p c x y z h) (h2 : M.FirstIs p c x' y' z' h') : x = x' ∧ y = y' ∧ z = z' ∧ h = h' := M.first_one h1 h2
theorem bool_of_one {b : Bool} {h : Int} (e : (if b = true then (1 : Int) else 0) = h) : b = decide (h = 1) := by subst e; cases b <;> rfl

set_option maxRecDepth 100000 in
set_option maxHeartbeats 3200000 in
theorem race_awake (w : World) : Calls Try.prog 8 #[] w fun e w' => e = .returned (.bool true) ∧ Below w.heap.size w w' := by
  go_enter Try.func8, Try.ntmps8
  go_wp2_with fail
  refine (race_two w).mono ?_
  rintro e u1 ⟨f, rfl, hok, hb1⟩
  have HC := kp (check_two f); have HSt := kp (two_step f); have HF0 := kp (two_first f); have HF1 := kp (two_then f)
  obtain ⟨pg0, hp⟩ : ∃ p, pgTwo f = p := ⟨_, rfl⟩
  rw [hp] at hok HC HSt HF0 HF1 ⊢
  have HP1 := kp hok; have HU1 := kp hb1; have hz1 := hb1.size
  have HF := kp (fine_of HC.out)
  have HG0 := kp (M.good_start HF.out)
  have HG1 : Kept (M.Good pg0 cfTwo) := kp (by rw [← HSt.out]; exact M.good_step HF.out HP1.out.row.len HG0.out 0 false)
  clear hok hb1 hp
  rw [pgA_is]
  go_wp2_with (first
    | ((with_reducible show wpList _ _ _ (⟨some 1, _, _, _, _, _⟩ :: _) _ _); go_must (refine wpList_alloc_zero rfl 24 rfl [.int .i64 0, .int .i64 0, .int .i64 0, .slice none 0 0] (by kernel_rfl) ?_); intro g1 u2 hg1 hk2 hu2; have HK2 := kp hk2; have HG1b := kp hg1; have HU2 := kp (HU1.out.trans (hu2.mono hz1)); have HP2 := kp (HP1.out.below hu2); have hz2 := HU2.out.size; have hz12 := hu2.size; clear hk2 hu2 hg1)
    | ((with_reducible show wpList _ _ _ (⟨none, _, _, _, _, _⟩ :: _) _ _); go_must (refine wpList_store_blk rfl 24 (.tmp 1) (.tmp 12) rfl g1 (pgC pg0) rfl rfl _ _ HK2.out pg_size rfl (by simp [pgC, Value.oneCell']) ?_); intro u3 hk3 hg3 hs3'
       have HK3 := kp hk3; have HU3 := kp (HU2.out.grown hg3 hz2 (fun k e => by cases e; have := HG1b.out; omega)); have HB13 := kp ((Below.refl u1.heap.size u2).grown hg3 hz12 (fun k e => by cases e; exact HG1b.out)); have HP3 := kp (pg_more9 (HP2.out.below HB13.out) (show u1.heap.size ≤ u3.heap.size by have := HB13.out.size; omega)); have hz3 := HU3.out.size; have hl3 := hk3.lt; clear hk3 hg3 hs3')
    | ((with_reducible show wpList _ _ _ (⟨some 14, _, _, _, _, _⟩ :: _) _ _); go_must (refine wpList_load_blk rfl 24 (.tmp 1) rfl g1 rfl _ (pgC pg0) _ HK3.out Try.underlying24 rfl pg_size ?_))
    | (go_at_call 26; fail))
  refine (sem_start2 _ pg0 u3 HP3.out (Nat.le_refl _) 0 0 0 HC.out).mono ?_
  unfold StartPost2
  rintro e u4 ⟨q0, rfl, hmi, hcf, _, h16, hb4⟩
  have HMi4 := kp hmi; have HCf0 := kp (hcf rfl); have H17 := kp (conf_len h16); have HU4 := kp (HU3.out.trans (hb4.mono hz3)); have HK4 := kp (HK3.out.below hb4 hl3); have HP4 := kp (HP3.out.below hb4); have hz4 := HU4.out.size; have hz34 := hb4.size; have hl4 := HK4.out.lt
  clear hmi hcf h16 hb4
  go_wp2_with (first
    | ((with_reducible show wpList _ _ _ (⟨some 2, _, _, _, _, _⟩ :: _) _ _); go_must (refine wpList_alloc_zero rfl 31 rfl _ conf_zero ?_); intro gC u5 hgC hk5 hu5; have HKc := kp hk5; have HGC := kp hgC; have HU5 := kp (HU4.out.trans (hu5.mono hz4)); have HMi5 := kp (HMi4.out.below hu5 (Nat.le_refl _)); have HK5 := kp (HK4.out.below hu5 hl4); have HB45 := kp hu5; have hz5 := HU5.out.size; have hz45 := hu5.size; clear hk5 hu5 hgC)
    | ((with_reducible show wpList _ _ _ (⟨none, _, _, _, _, _⟩ :: _) _ _); go_must (refine wpList_store_blk rfl 31 (.tmp 2) (.tmp 16) rfl gC (pcC q0) rfl rfl _ _ HKc.out (by rw [H17.out]; exact conf_size) (by rw [H17.out]; rfl) (conf_ones q0) ?_); intro u6 hk6 hg6 hs6'
       have HKC6 := kp hk6; have HU6 := kp (HU5.out.grown hg6 hz5 (fun k e => by cases e; have := HGC.out; omega)); have hz6 := HU6.out.size; have hl6 := hk6.lt
       have HK6 := kp (HK5.out.grown hg6 (fun e => by cases e; have := HGC.out; omega)); have hlp6 := HK6.out.lt
       have HB46 := kp (HB45.out.grown hg6 hz45 (fun k e => by cases e; exact HGC.out)); have hz46 := HB46.out.size
       have HMi6 := kp (Mine.typed HMi5.out HKc.out hg6); have HP6 := kp (pg_more9 (HP4.out.below (HB46.out.mono hz34)) (show u3.heap.size ≤ u6.heap.size by omega)); have HOq6 := kp (HMi6.out.ok)
       clear hk6 hg6 hs6')
    | ((with_reducible show wpList _ _ _ (⟨some 19, _, _, _, _, _⟩ :: _) _ _); go_must (refine wpList_load_blk rfl 24 (.tmp 1) rfl g1 rfl _ (pgC pg0) _ HK6.out Try.underlying24 rfl pg_size ?_))
    | ((with_reducible show wpList _ _ _ (⟨some 20, _, _, _, _, _⟩ :: _) _ _); go_must (refine wpList_load_blk rfl 31 (.tmp 2) rfl gC rfl _ (pcC q0) _ HKC6.out Try.underlying31 rfl (by rw [H17.out]; exact conf_size) ?_))
    | (go_at_call 15; fail))
  refine (race_first _ pg0 HF.out q0 u6 HP6.out HOq6.out (by rw [HCf0.out]; exact HG0.out) (Nat.le_refl _)).mono ?_
  unfold FirstPost
  rintro e u7 ⟨x, y, z, b, rfl, hfi, hb7⟩
  rw [HCf0.out] at hfi
  obtain ⟨rfl, rfl, rfl, hbb⟩ := M.first_one hfi HF0.out
  obtain rfl : b = false := bool_of_one hbb
  have HU7 := kp (HU6.out.trans (hb7.mono hz6)); have HK7 := kp (HK6.out.below hb7 hlp6); have HKC7 := kp (HKC6.out.below hb7 hl6); have HP7 := kp (pg_more9 (HP6.out.below hb7) hb7.size); have HOq7 := kp ((HOq6.out.below hb7).more hb7.size); have hz7 := HU7.out.size; have hl7 := HK7.out.lt; have hlC7 := HKC7.out.lt
  clear hfi hb7 hbb
  go_wp2
  apply region_list (.is (pgA pg0) :: .is (pcA q0) :: .is (pgA pg0) :: .is (.agg #[.int .i64 0, .bool false]) :: (.stepped u7.heap.size cfTwo) :: .is (.tuple #[.int .i64 0, .int .i64 1, .int .i64 0, .bool true]) :: .is _ :: .is _ :: .is _ :: .is _ :: .is _ :: .is _ :: .is _ :: .is _ :: .is _ :: [])
    [[], [], [], [], [(1, 28), (2, 29), (3, 30)], [(0, 27), (4, 31)], [(5, 32)], [(6, 26)], [(6, 26)], [(6, 26)], [(6, 26)], [(7, 33)], [(8, 34)], [(9, 35)], [(10, 36)]]
    [(0, 27), (1, 28), (2, 29), (3, 30), (4, 31), (5, 32), (6, 26), (7, 33), (8, 34), (9, 35), (10, 36), (11, 8), (12, 9), (13, 10), (14, 11)] (by kernel_rfl) (by kernel_rfl)
  case hob =>
    refine ⟨?o0, ?o1, ?o2, ?o3, ?o4, ?o5, ?o6, ?o7, ?o8, ?o9, ?o10, ?o11, ?o12, ?o13, ?o14, trivial⟩
    case o0 =>
      intro W hW; change wpList _ _ _ _ _ _
      go_must (refine wpList_load_blk rfl 24 (.tmp 1) rfl g1 rfl _ (pgC pg0) _ (HK7.out.below hW hl7) Try.underlying24 rfl pg_size ?_)
      go_wp2; exact pure_post rfl rfl rfl
    case o1 =>
      intro W hW; change wpList _ _ _ _ _ _
      go_must (refine wpList_load_blk rfl 31 (.tmp 2) rfl gC rfl _ (pcC q0) _ (HKC7.out.below hW hlC7) Try.underlying31 rfl (by rw [H17.out]; exact conf_size) ?_)
      go_wp2; exact pure_post rfl rfl rfl
    case o2 =>
      intro W hW; change wpList _ _ _ _ _ _
      go_must (refine wpList_load_blk rfl 24 (.tmp 1) rfl g1 rfl _ (pgC pg0) _ (HK7.out.below hW hl7) Try.underlying24 rfl pg_size ?_)
      go_wp2; exact pure_post rfl rfl rfl
    case o3 => intro W hW; change wpList _ _ _ _ _ _; go_wp2; exact pure_post rfl rfl rfl
    case o4 =>
      intro W hW; rintro _ rfl; rintro _ rfl; rintro _ rfl; change wpList _ _ _ _ _ _
      have hsW := hW.size
      go_wp2_with fail
      refine (sem_step W.heap.size pg0 HF.out q0 W (pg_more9 (HP7.out.below hW) hsW) ((HOq7.out.below hW).more hsW) (by rw [HCf0.out]; exact HG0.out) (Nat.le_refl _) 0 (by unfold I64; omega) false).mono ?_
      rintro e w2 ⟨q', rfl, hm2, hcf2, hb2⟩
      have HB2 := kp hb2; have HM2 := kp hm2; have HC2 := kp hcf2; clear hb2 hm2 hcf2
      go_wp2
      exact made_post rfl rfl rfl HB2.out ⟨q', rfl, HM2.out.less hsW, by rw [HC2.out, HCf0.out, HSt.out]⟩
    case o5 =>
      intro W hW; rintro _ rfl; rintro _ ⟨q1, rfl, hmi, hcf1⟩; change wpList _ _ _ _ _ _
      have hsW := hW.size
      have HMi := kp hmi; have HCf1 := kp hcf1
      clear hmi hcf1
      go_wp2_with fail
      refine (race_first W.heap.size pg0 HF.out q1 W (pg_more9 (HP7.out.below hW) hsW) HMi.out.ok (by rw [HCf1.out]; exact HG1.out) (Nat.le_refl _)).mono ?_
      unfold FirstPost
      rintro e w2 ⟨x, y, z, b, rfl, hfi, hb2⟩
      rw [HCf1.out] at hfi
      obtain ⟨rfl, rfl, rfl, hbb⟩ := M.first_one hfi HF1.out
      obtain rfl : b = true := bool_of_one hbb
      have HB2 := kp hb2; clear hb2 hfi hbb
      go_wp2
      exact made_post rfl rfl rfl HB2.out rfl
    case o6 => intro W hW; rintro _ rfl; change wpList _ _ _ _ _ _; go_wp2; exact pure_post rfl rfl rfl
    case o7 => intro W hW; rintro _ rfl; change wpList _ _ _ _ _ _; go_wp2; exact pure_post rfl rfl rfl
    case o8 => intro W hW; rintro _ rfl; change wpList _ _ _ _ _ _; go_wp2; exact pure_post rfl rfl rfl
    case o9 => intro W hW; rintro _ rfl; change wpList _ _ _ _ _ _; go_wp2; exact pure_post rfl rfl rfl
    case o10 => intro W hW; rintro _ rfl; change wpList _ _ _ _ _ _; go_wp2; exact pure_post rfl rfl rfl
    case o11 => intro W hW; rintro _ rfl; change wpList _ _ _ _ _ _; go_wp2; exact pure_post rfl rfl rfl
    case o12 => intro W hW; rintro _ rfl; change wpList _ _ _ _ _ _; go_wp2; exact pure_post rfl rfl rfl
    case o13 => intro W hW; rintro _ rfl; change wpList _ _ _ _ _ _; go_wp2; exact pure_post rfl rfl rfl
    case o14 => intro W hW; rintro _ rfl; change wpList _ _ _ _ _ _; go_wp2; exact pure_post rfl rfl rfl
  case hend =>
    intro W hW; rintro _ rfl; rintro _ rfl; rintro _ rfl; rintro _ rfl; rintro _ ⟨q1, rfl, hmi, hcf1⟩; rintro _ rfl; rintro _ rfl; rintro _ rfl; rintro _ rfl; rintro _ rfl; rintro _ rfl; rintro _ rfl; rintro _ rfl; rintro _ rfl; rintro _ rfl
    simp only [given, put_lit, List.set]
    have HW := kp (HU7.out.trans (hW.mono hz7))
    clear hW hmi hcf1
    go_wp2
    go_ret
    exact ⟨rfl, HW.out⟩
end Go.Proofs.Yticifjmkocgipaa
