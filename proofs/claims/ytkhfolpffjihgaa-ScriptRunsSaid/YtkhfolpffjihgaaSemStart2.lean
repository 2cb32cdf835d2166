/- The program's interpreter, walked: Start, whose answer is new memory. -/
import Derived.Test.YtkhfolpffjihgaaPk26
namespace Go.Proofs.Ytkhfolpffjihgaa
open Go.RowKit
def StartPost2 (w : World) (c : Nat) : Ending → World → Prop := fun e w' => ∃ q, e = .returned (.tuple #[pcA q, .int .i64 (c : Int)]) ∧ Mine w' w.heap.size q ∧ (c = 0 → q.cf = M.start) ∧ (c ≠ 0 → q.len = 0) ∧ q.ow.length = 16 ∧ Below w.heap.size w w'
set_option maxRecDepth 100000 in
set_option maxHeartbeats 1600000 in
theorem y5 (B : Nat) (p : Pg) (w : World) (hp : p.Ok w B) (hB : B ≤ w.heap.size) (a b : Int) (c : Nat) (hc : Q.check p = (a, b, c)) :
    Calls Try.prog 26 #[pgA p] w (StartPost2 w c) := by
  unfold StartPost2
  have HP := kp hp; have HC := kp hc
  clear hp hc
  rw [jO]
  by_cases hz : c = 0
  · have HZ : Kept ((c : Int) = 0) := kp (by omega)
    have hb0 : ((c : Int) != 0) = false := by rw [HZ.out]; rfl
    have HCz := kp hz
    clear hz
    go_enter Try.func26, Try.ntmps26
    go_wp2_with (first
      | ((with_reducible refine j2 rfl 38 (.tmp 0) rfl (pgC p) rfl ?_); intro g1 w1 hg1 hk1 hw1; have HK1 := kp hk1; have HW1 := kp hw1; have hs1 := hw1.size; have hl1 := hk1.lt; clear hk1 hw1)
      | ((with_reducible show Sl 2); go_must (refine j3 rfl 43 rfl _ jP ?_); intro g2 w2 hg2 hk2 hw2; have HK2 := kp hk2; have HK12 := kp (HK1.out.below hw2 hl1); have HW2 := kp (HW1.out.trans (hw2.mono hs1)); have hs2 := HW2.out.size; have hl2 := hk2.lt; clear hk2 hw2)
      | ((with_reducible show Sl 8); go_must (refine j1 rfl 38 (.tmp 1) rfl g1 rfl _ (pgC p) _ HK12.out Try.underlying38 rfl jB ?_))
      | (go_at_call 42; go_must (refine (yO B p w2 (HP.out.below (HW2.out.mono hB)) (by omega) a b c HC.out).mono ?_); rintro e w3 ⟨rfl, hb3⟩; have HW3 := kp (HW2.out.trans (hb3.mono hs2)); have HK23 := kp (HK2.out.below hb3 hl2); have hs3 := HW3.out.size; have hl23 := HK23.out.lt; clear hb3)
      | (go_at_call 43; go_must (refine (vN 0 w3).mono ?_); rintro e w4 ⟨g4, rfl, hown4, hg4, hb4⟩; have HOw4 := kp hown4; have HW4 := kp (HW3.out.trans (hb4.mono hs3)); have HK24 := kp (HK23.out.below hb4 hl23); have hs4 := HW4.out.size; have hs34 := hb4.size; have hl24 := HK24.out.lt; have hl44 := (hown4.block g4 rfl).2; have HNe : Kept (g4 ≠ g2 ∧ w.heap.size ≤ g2 ∧ g2 < w4.heap.size ∧ w.heap.size ≤ w3.heap.size) := kp (by omega); clear hown4 hb4)
      | ((with_reducible show Sl 18); go_must (refine jF rfl 40 89 (.tmp 17) rfl 9 Try.underlying40 zK (by omega) (by omega) _ (Value.slice (some ⟨g4, 0, none⟩) 1 1 :: zeros 8) rfl rfl rfl ?_); intro g5 w5 hg5 hk5 hb5; have HK5 := kp hk5; have HW5 := kp (HW4.out.trans (hb5.mono hs4)); have HK25 := kp (HK24.out.below hb5 hl24); have HOw5 := kp (HOw4.out.below hb5 (Nat.le_refl _)); have hs5 := HW5.out.size; have HNe5 : Kept (g5 ≠ g2 ∧ w.heap.size ≤ g5 ∧ g5 ≠ g4) := kp (by have := HNe.out.2.2; omega); clear hk5 hb5)
      | ((with_reducible show Sl 19); go_must (refine qK rfl 43 0 (.tmp 18) rfl (.slice (some ⟨g5, 0, none⟩) 1 1) rfl (Value.slice (some ⟨g5, 0, none⟩) 1 1 :: zeros 16) (built_conf (some ⟨g5, 0, none⟩) 1 1) ?_))
      | ((with_reducible show Sn); go_must (refine j4 rfl 43 (.tmp 2) (.tmp 19) rfl g2 (Value.slice (some ⟨g5, 0, none⟩) 1 1 :: zeros 16) rfl rfl _ _ HK25.out j6 rfl (conf0_ones _ _ _) ?_); intro w6 hk6 hg6 hs6
         have HK6 := kp hk6; have HK56 := kp (HK5.out.grown hg6 (fun e => by cases e; exact HNe5.out.1 rfl)); have HOw6 := kp (HOw5.out.far hg6 (.inr (fun e => by cases e; exact HNe.out.1 rfl))); have HW6 := kp (HW5.out.grown hg6 HW5.out.size (fun k e => by cases e; exact HNe.out.2.1)); clear hk6 hg6 hs6))
    have HRow : Kept (OwnR 9 tvV w6 w.heap.size 89 (.slice (some ⟨g5, 0, none⟩) 1 1) [newT 0 g4]) := kp (OwnR.of_blk HK56.out HNe5.out.2.1 rfl (Nat.le_refl _) (by unfold maxLen; omega) rfl rfl)
    have HOk : Kept (Mine w6 w.heap.size ⟨some ⟨g5, 0, none⟩, 1, 1, [newT 0 g4], List.replicate 16 0⟩) := kp ⟨HRow.out, (Fam.nil _ _ _ _).add (HOw6.out.less HNe.out.2.2.2) (fun b hb h => by
      have e1 : g4 = b := by have h2 : some g4 = some b := hb; injection h2
      have e2 : g5 = b := by have h2 : some g5 = some b := h; injection h2
      exact HNe5.out.2.2 (e2.trans e1.symm)) (fun _ _ _ h => by simp at h)⟩
    have HKf : Kept (Blk w6 g2 43 (pcC ⟨some ⟨g5, 0, none⟩, 1, 1, [newT 0 g4], List.replicate 16 0⟩)) := kp (by unfold pcC; rw [← zeros_ow]; exact HK6.out)
    go_wp2_with ((with_reducible show bodyPost _ _ _ _ _ _); exact bodyPost_ret (lN (P := Try.prog) (fn := Try.f26) rfl _ _ g2 43 _ _ _ rfl rfl HKf.out Try.underlying43 rfl j6) rfl ⟨⟨some ⟨g5, 0, none⟩, 1, 1, [newT 0 g4], List.replicate 16 0⟩, by rw [HZ.out]; rfl, HOk.out, fun _ => rfl, fun h => absurd HCz.out h, rfl, HW6.out⟩)
  · have hb0 : ((c : Int) != 0) = true := by simpa using hz
    have HZ := kp hz
    clear hz
    go_enter Try.func26, Try.ntmps26
    go_wp2_with (first
      | ((with_reducible refine j2 rfl 38 (.tmp 0) rfl (pgC p) rfl ?_); intro g1 w1 hg1 hk1 hw1; have HK1 := kp hk1; have HW1 := kp hw1; have hs1 := hw1.size; have hl1 := hk1.lt; clear hk1 hw1)
      | ((with_reducible show Sl 2); go_must (refine j3 rfl 43 rfl _ jP ?_); intro g2 w2 hg2 hk2 hw2; have HK2 := kp hk2; have HK12 := kp (HK1.out.below hw2 hl1); have HW2 := kp (HW1.out.trans (hw2.mono hs1)); have hs2 := HW2.out.size; have hl2 := hk2.lt; clear hk2 hw2)
      | ((with_reducible show Sl 8); go_must (refine j1 rfl 38 (.tmp 1) rfl g1 rfl _ (pgC p) _ HK12.out Try.underlying38 rfl jB ?_))
      | (go_at_call 42; go_must (refine (yO B p w2 (HP.out.below (HW2.out.mono hB)) (by omega) a b c HC.out).mono ?_); rintro e w3 ⟨rfl, hb3⟩; have HW3 := kp (HW2.out.trans (hb3.mono hs2)); have HK23 := kp (HK2.out.below hb3 hl2); have hs3 := HW3.out.size; have hl23 := HK23.out.lt; clear hb3)
      | ((with_reducible show Sl 15); go_must (refine qD rfl 43 #[] rfl [] (by simp) (Value.slice none 0 0 :: zeros 16) built_conf0 ?_))
      | ((with_reducible show Sn); go_must (refine j4 rfl 43 (.tmp 2) (.tmp 15) rfl g2 (Value.slice none 0 0 :: zeros 16) rfl rfl _ _ HK23.out j6 rfl (conf0_ones _ _ _) ?_); intro w6 hk6 hg6 hs6
         have HK6 := kp hk6; have HW6 := kp (HW3.out.grown hg6 hs3 (fun k e => by cases e; omega)); clear hk6 hg6 hs6))
    have HKf : Kept (Blk w6 g2 43 (pcC pcNone)) := kp (by rw [pcNone_cells]; exact HK6.out)
    have HOk : Kept (Mine w6 w.heap.size pcNone) := kp ⟨OwnR.nil _ _ _ _ _, Fam.nil _ _ _ _⟩
    go_wp2_with ((with_reducible show bodyPost _ _ _ _ _ _); exact bodyPost_ret (lN (P := Try.prog) (fn := Try.f26) rfl _ _ g2 43 _ _ _ rfl rfl HKf.out Try.underlying43 rfl j6) rfl ⟨pcNone, rfl, HOk.out, fun h => absurd h HZ.out, fun _ => rfl, rfl, HW6.out⟩)
end Go.Proofs.Ytkhfolpffjihgaa
