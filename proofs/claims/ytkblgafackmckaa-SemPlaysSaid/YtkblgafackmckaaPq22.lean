/- SemStep, SemStart, Want, SemPickIn, in one text. -/
import Derived.Test.YtkblgafackmckaaSemPk0
import Derived.Test.YtkblgafackmckaaPq21
import Derived.Test.YtkblgafackmckaaSemPk3
import Derived.Test.YtkblgafackmckaaSemPk4
import Derived.Test.YtkblgafackmckaaSemPk5
import Derived.Test.YtkblgafackmckaaSemPk6
import Derived.Test.YtkblgafackmckaaSemPk7
import Derived.Test.YtkblgafackmckaaSemPk8
import Derived.Test.YtkblgafackmckaaSemPk9
import Derived.Test.YtkblgafackmckaaPq8
import Derived.Test.YtkblgafackmckaaPq20
import Derived.Test.YtkblgafackmckaaPq1
import Derived.BigFrame
import Derived.Test.YtkblgafackmckaaPq3
import Derived.Test.YtkblgafackmckaaPq2
/- The program's interpreter, walked: Step, whatever the pick; Start. -/
namespace Go.Proofs.Ytkblgafackmckaa
open Go.RowKit

theorem sem_step (B : Nat) (p : Pg) (hf : Fine p) (q : Pc) (w : World) (hp : p.Ok w B) (hq : q.Ok w B) (hg : M.Good p q.cf) (hB : B ≤ w.heap.size) (t : Int) (ht : I64 t) (way : Bool) :
    Calls Try.prog 24 #[pcA q, pgA p, .agg #[.int .i64 t, .bool way]] w fun e w' => ∃ q', e = .returned (pcA q') ∧ Mine w' w.heap.size q' ∧ q'.cf = M.step p q.cf t way ∧ Below w.heap.size w w' := by
  cases hen : M.enabled p q.cf t with
  | false => exact sem_step_no B p hf q w hp hq hg hB t ht way hen
  | true =>
    have h0 := (M.enabled_split hen).1
    obtain ⟨k, rfl⟩ : ∃ k : Nat, t = (k : Int) := ⟨t.toNat, by omega⟩
    have henN : M.enabledN p q.cf k = true := by have h := (M.enabled_split hen).2; rwa [Int.toNat_natCast] at h
    have hlN := M.enabled_lives henN
    obtain ⟨fn, hfn, _, _⟩ := M.node_is hg hlN
    have hfit := (M.node_fit hf hg hlN hfn).kind
    have hk : (M.node p q.cf k).kind = 0 ∨ (M.node p q.cf k).kind = 1 ∨ (M.node p q.cf k).kind = 2 ∨ (M.node p q.cf k).kind = 3 ∨ (M.node p q.cf k).kind = 4 ∨ (M.node p q.cf k).kind = 5 ∨ (M.node p q.cf k).kind = 6 ∨ (M.node p q.cf k).kind = 7 ∨ (M.node p q.cf k).kind = 8 ∨ (M.node p q.cf k).kind = 9 := by omega
    rcases hk with hk | hk | hk | hk | hk | hk | hk | hk | hk | hk
    · exact sem_step_0 B p hf q w hp hq hg hB k ht way hen hk
    · exact sem_step_1 B p hf q w hp hq hg hB k ht way hen hk
    · exact sem_step_2 B p hf q w hp hq hg hB k ht way hen hk
    · exact sem_step_3 B p hf q w hp hq hg hB k ht way hen hk
    · exact sem_step_4 B p hf q w hp hq hg hB k ht way hen hk
    · exact sem_step_5 B p hf q w hp hq hg hB k ht way hen hk
    · exact sem_step_6 B p hf q w hp hq hg hB k ht way hen hk
    · exact sem_step_7 B p hf q w hp hq hg hB k ht way hen hk
    · exact sem_step_8 B p hf q w hp hq hg hB k ht way hen hk
    · exact sem_step_9 B p hf q w hp hq hg hB k ht way hen hk
end Go.Proofs.Ytkblgafackmckaa

/- The program's interpreter, walked: Start. -/
namespace Go.Proofs.Ytkblgafackmckaa
open Go.RowKit

theorem built_conf0 : Try.prog.built 31 [] = some (Value.slice none 0 0 :: zeros 16).toArray := by kernel_rfl

theorem conf0_ones (A : Option Addr) (n c : Nat) : ∀ u ∈ Value.slice A n c :: zeros 16, u.oneCell' = true := by
  intro u hu
  rcases List.mem_cons.1 hu with rfl | hu
  · rfl
  · rw [List.eq_of_mem_replicate hu]; rfl
/-- No config. -/
def pcNone : Pc := ⟨none, 0, 0, [], List.replicate 16 0⟩
theorem pcNone_cells : pcC pcNone = Value.slice none 0 0 :: zeros 16 := by unfold pcC pcNone; rw [zeros_ow]
/-- What Start hands back. -/
def StartPost (w : World) (c : Nat) : Ending → World → Prop := fun e w' => ∃ q, e = .returned (.tuple #[pcA q, .int .i64 (c : Int)]) ∧ q.Ok w' w'.heap.size ∧ (c = 0 → q.cf = M.start) ∧ (c ≠ 0 → q.len = 0) ∧ q.ow.length = 16 ∧ Below w.heap.size w w'

set_option maxRecDepth 100000 in
set_option maxHeartbeats 1600000 in
theorem sem_start (B : Nat) (p : Pg) (w : World) (hp : p.Ok w B) (hB : B ≤ w.heap.size) (a b : Int) (c : Nat) (hc : Q.check p = (a, b, c)) :
    Calls Try.prog 11 #[pgA p] w (StartPost w c) := by
  unfold StartPost
  have HP := kp hp; have HC := kp hc
  clear hp hc
  rw [pgA_is]
  by_cases hz : c = 0
  · have HZ : Kept ((c : Int) = 0) := kp (by omega)
    have hb0 : ((c : Int) != 0) = false := by rw [HZ.out]; rfl
    have HCz := kp hz
    clear hz
    go_enter Try.func11, Try.ntmps11
    go_wp2_with (first
      | ((with_reducible refine wpList_box_agg rfl 24 (.tmp 0) rfl (pgC p) rfl ?_); intro g1 w1 hg1 hk1 hw1; have HK1 := kp hk1; have HW1 := kp hw1; have hs1 := hw1.size; have hl1 := hk1.lt; clear hk1 hw1)
      | ((with_reducible show wpList _ _ _ (⟨some 2, _, _, _, _, _⟩ :: _) _ _); go_must (refine wpList_alloc_zero rfl 31 rfl _ conf_zero ?_); intro g2 w2 hg2 hk2 hw2; have HK2 := kp hk2; have HK12 := kp (HK1.out.below hw2 hl1); have HW2 := kp (HW1.out.trans (hw2.mono hs1)); have hs2 := HW2.out.size; have hl2 := hk2.lt; clear hk2 hw2)
      | ((with_reducible show wpList _ _ _ (⟨some 8, _, _, _, _, _⟩ :: _) _ _); go_must (refine wpList_load_blk rfl 24 (.tmp 1) rfl g1 rfl _ (pgC p) _ HK12.out Try.underlying24 rfl pg_size ?_))
      | (go_at_call 27; go_must (refine (prog_check_any B p w2 (HP.out.below (HW2.out.mono hB)) (by omega) a b c HC.out).mono ?_); rintro e w3 ⟨rfl, hb3⟩; have HW3 := kp (HW2.out.trans (hb3.mono hs2)); have HK23 := kp (HK2.out.below hb3 hl2); have hs3 := HW3.out.size; have hl23 := HK23.out.lt; clear hb3)
      | (go_at_call 28; go_must (refine (sem_begun 0 w3).mono ?_); rintro e w4 ⟨g4, rfl, hown4, hg4, hb4⟩; have HOw4 := kp hown4; have HW4 := kp (HW3.out.trans (hb4.mono hs3)); have HK24 := kp (HK23.out.below hb4 hl23); have hs4 := HW4.out.size; have hs34 := hb4.size; have hl24 := HK24.out.lt; have hl44 := (hown4.block g4 rfl).2; have HNe : Kept (g4 ≠ g2 ∧ w.heap.size ≤ g2 ∧ g2 < w4.heap.size) := kp (by omega); clear hown4 hb4)
      | ((with_reducible show wpList _ _ _ (⟨some 18, _, _, _, _, _⟩ :: _) _ _); go_must (refine wpList_buildSlice_one rfl 28 63 (.tmp 17) rfl 9 Try.underlying28 thread_one (by omega) (by omega) _ (Value.slice (some ⟨g4, 0, none⟩) 1 1 :: zeros 8) rfl rfl rfl ?_); intro g5 w5 hg5 hk5 hb5; have HK5 := kp hk5; have HW5 := kp (HW4.out.trans (hb5.mono hs4)); have HK25 := kp (HK24.out.below hb5 hl24); have HOw5 := kp (HOw4.out.below hb5 (Nat.le_refl _)); have hs5 := HW5.out.size; have HNe5 : Kept (g5 ≠ g2) := kp (by have := HNe.out.2.2; omega); clear hk5 hb5)
      | ((with_reducible show wpList _ _ _ (⟨some 19, _, _, _, _, _⟩ :: _) _ _); go_must (refine wpList_build_1 rfl 31 0 (.tmp 18) rfl (.slice (some ⟨g5, 0, none⟩) 1 1) rfl (Value.slice (some ⟨g5, 0, none⟩) 1 1 :: zeros 16) (built_conf (some ⟨g5, 0, none⟩) 1 1) ?_))
      | ((with_reducible show wpList _ _ _ (⟨none, _, _, _, _, _⟩ :: _) _ _); go_must (refine wpList_store_blk rfl 31 (.tmp 2) (.tmp 19) rfl g2 (Value.slice (some ⟨g5, 0, none⟩) 1 1 :: zeros 16) rfl rfl _ _ HK25.out conf_size rfl (conf0_ones _ _ _) ?_); intro w6 hk6 hg6 hs6
         have HK6 := kp hk6; have HK56 := kp (HK5.out.grown hg6 (fun e => by cases e; exact HNe5.out rfl)); have HOw6 := kp (HOw5.out.far hg6 (.inr (fun e => by cases e; exact HNe.out.1 rfl))); have HW6 := kp (HW5.out.grown hg6 HW5.out.size (fun k e => by cases e; exact HNe.out.2.1)); clear hk6 hg6 hs6))
    have HRow : Kept (OwnR 9 tvV w6 0 63 (.slice (some ⟨g5, 0, none⟩) 1 1) [newT 0 g4]) := kp (OwnR.of_blk HK56.out (Nat.zero_le _) rfl (Nat.le_refl _) (by unfold maxLen; omega) rfl rfl)
    have HOk : Kept (Pc.Ok ⟨some ⟨g5, 0, none⟩, 1, 1, [newT 0 g4], List.replicate 16 0⟩ w6 w6.heap.size) := kp ⟨HRow.out.recs, Nat.le_refl _, by show 1 ≤ maxLen; unfold maxLen; omega, fun x hx => by
      have e := List.mem_singleton.1 hx
      subst e
      exact ⟨HOw6.out.recs, Nat.le_refl _, by show 1 ≤ maxLen; unfold maxLen; omega⟩⟩
    have HKf : Kept (Blk w6 g2 31 (pcC ⟨some ⟨g5, 0, none⟩, 1, 1, [newT 0 g4], List.replicate 16 0⟩)) := kp (by unfold pcC; rw [← zeros_ow]; exact HK6.out)
    go_wp2_with ((with_reducible show bodyPost _ _ _ _ _ _); exact bodyPost_ret (results_cell1 (P := Try.prog) (fn := Try.f11) rfl _ _ g2 31 _ _ _ rfl rfl HKf.out Try.underlying31 rfl conf_size) rfl ⟨⟨some ⟨g5, 0, none⟩, 1, 1, [newT 0 g4], List.replicate 16 0⟩, by rw [HZ.out]; rfl, HOk.out, fun _ => rfl, fun h => absurd HCz.out h, rfl, HW6.out⟩)
  · have hb0 : ((c : Int) != 0) = true := by simpa using hz
    have HZ := kp hz
    clear hz
    go_enter Try.func11, Try.ntmps11
    go_wp2_with (first
      | ((with_reducible refine wpList_box_agg rfl 24 (.tmp 0) rfl (pgC p) rfl ?_); intro g1 w1 hg1 hk1 hw1; have HK1 := kp hk1; have HW1 := kp hw1; have hs1 := hw1.size; have hl1 := hk1.lt; clear hk1 hw1)
      | ((with_reducible show wpList _ _ _ (⟨some 2, _, _, _, _, _⟩ :: _) _ _); go_must (refine wpList_alloc_zero rfl 31 rfl _ conf_zero ?_); intro g2 w2 hg2 hk2 hw2; have HK2 := kp hk2; have HK12 := kp (HK1.out.below hw2 hl1); have HW2 := kp (HW1.out.trans (hw2.mono hs1)); have hs2 := HW2.out.size; have hl2 := hk2.lt; clear hk2 hw2)
      | ((with_reducible show wpList _ _ _ (⟨some 8, _, _, _, _, _⟩ :: _) _ _); go_must (refine wpList_load_blk rfl 24 (.tmp 1) rfl g1 rfl _ (pgC p) _ HK12.out Try.underlying24 rfl pg_size ?_))
      | (go_at_call 27; go_must (refine (prog_check_any B p w2 (HP.out.below (HW2.out.mono hB)) (by omega) a b c HC.out).mono ?_); rintro e w3 ⟨rfl, hb3⟩; have HW3 := kp (HW2.out.trans (hb3.mono hs2)); have HK23 := kp (HK2.out.below hb3 hl2); have hs3 := HW3.out.size; have hl23 := HK23.out.lt; clear hb3)
      | ((with_reducible show wpList _ _ _ (⟨some 15, _, _, _, _, _⟩ :: _) _ _); go_must (refine wpList_build_is rfl 31 #[] rfl [] (by simp) (Value.slice none 0 0 :: zeros 16) built_conf0 ?_))
      | ((with_reducible show wpList _ _ _ (⟨none, _, _, _, _, _⟩ :: _) _ _); go_must (refine wpList_store_blk rfl 31 (.tmp 2) (.tmp 15) rfl g2 (Value.slice none 0 0 :: zeros 16) rfl rfl _ _ HK23.out conf_size rfl (conf0_ones _ _ _) ?_); intro w6 hk6 hg6 hs6
         have HK6 := kp hk6; have HW6 := kp (HW3.out.grown hg6 hs3 (fun k e => by cases e; omega)); clear hk6 hg6 hs6))
    have HKf : Kept (Blk w6 g2 31 (pcC pcNone)) := kp (by rw [pcNone_cells]; exact HK6.out)
    have HOk : Kept (pcNone.Ok w6 w6.heap.size) := kp ⟨⟨rfl, fun h => absurd h (by simp [pcNone])⟩, Nat.le_refl _, by simp [pcNone, maxLen], by simp [pcNone]⟩
    go_wp2_with ((with_reducible show bodyPost _ _ _ _ _ _); exact bodyPost_ret (results_cell1 (P := Try.prog) (fn := Try.f11) rfl _ _ g2 31 _ _ _ rfl rfl HKf.out Try.underlying31 rfl conf_size) rfl ⟨pcNone, rfl, HOk.out, fun h => absurd h HZ.out, fun _ => rfl, rfl, HW6.out⟩)
end Go.Proofs.Ytkblgafackmckaa

/- Blocks read whole, under a guard. -/
namespace Go.Proofs.Ytkblgafackmckaa
open Go.RowKit

theorem wpList_load_blk_w {P : Program} {ops : Array Oper} {rest : List Oper} {o : Oper} {a : Act} {w : World} {Q : Exit → Act → World → Prop} (hgd : Region.wanted o (yielded ops a.tmps) = true) (ty : TypeId) (x : Operand) (ho : o.op = .load ty x)
    (g : Nat) (hx : a.eval x = .pointer (some ⟨g, 0, none⟩)) (t : TypeId) (cs : List Value) (d : TypeDesc) (hg : Blk w g t cs)
    (hu : P.underlying ty = some d) (hd : (match d with | .struct _ | .array _ _ => true | _ => false) = true) (hi : (P.info? ty).map (·.size) = some cs.length)
    (h : wpList P ops Q rest (a.put o.dst (.agg cs.toArray)) w) : wpList P ops Q (o :: rest) a w := by
  exact BigFrame.wpList_want hgd fun _ hK => wp_load_row ty x ho g hx t cs.toArray (0, 0) d hg hu hd (by simpa using hi) (hK _ _ h)
theorem wpList_load_mid_w {P : Program} {ops : Array Oper} {rest : List Oper} {o : Oper} {a : Act} {w : World} {Q : Exit → Act → World → Prop} (hgd : Region.wanted o (yielded ops a.tmps) = true) (ty : TypeId) (x : Operand) (ho : o.op = .load ty x)
    (b c : Nat) (hx : a.eval x = .pointer (some ⟨b, c, none⟩)) (cs : List Value) (d : TypeDesc) (hc : w.rangeAt b c cs)
    (hu : P.underlying ty = some d) (hd : d.isRow = true) (hi : (P.info? ty).map (·.size) = some cs.length)
    (h : wpList P ops Q rest (a.put o.dst (.agg cs.toArray)) w) : wpList P ops Q (o :: rest) a w :=
  BigFrame.wpList_want hgd fun _ hK => wp_load_mid ty x ho b c hx cs d hc hu hd hi (hK _ _ h)
theorem wpList_load_at_w {P : Program} {ops : Array Oper} {rest : List Oper} {o : Oper} {a : Act} {w : World} {Q : Exit → Act → World → Prop} (hgd : Region.wanted o (yielded ops a.tmps) = true) (ty : TypeId) (x : Operand) (ho : o.op = .load ty x)
    (ad : Addr) (hx : a.eval x = .pointer (some ad)) (cs : List Value) (d : TypeDesc) (hc : ∀ j v, cs[j]? = some v → w.cell? (ad.add j) = some v)
    (hu : P.underlying ty = some d) (hd : d.isRow = true) (hi : (P.info? ty).map (·.size) = some cs.length)
    (h : wpList P ops Q rest (a.put o.dst (.agg cs.toArray)) w) : wpList P ops Q (o :: rest) a w := by
  refine BigFrame.wpList_want hgd fun K hK => ?_
  have hl : (loadCells ad cs.length).run P w = .ok cs.toArray w := run_loadCells_list (P := P) w ad cs hc
  have hrun : (loadVar ty ad).run P w = .ok (.agg cs.toArray) w := by
    cases hq : P.info? ty with
    | none => simp [hq] at hi
    | some i =>
      have hs : i.size = cs.length := by simpa [hq] using hi
      have hagg : (isAgg ty).run P w = .ok true w := by
        unfold isAgg
        rw [Sem.run_bind, run_underlying hu w]
        cases d <;> simp_all
      simp [loadVar, Sem.run_bind, hagg, sizeOf, typeInfo, hq, hs, hl]
  unfold Oper.wp execOp
  simp only [ho, hx, Instr.loadAt, Instr.sureAddr, Sem.run_bind, Sem.run_pure, Result.andThen_ok, hrun]
  exact hK _ _ h
end Go.Proofs.Ytkblgafackmckaa

/- Picks in memory. -/
namespace Go.Proofs.Ytkblgafackmckaa
open Go.RowKit

/-- A pick, as cells hold it. -/
def pkV (x : Int × Bool) : Nat → Value
  | 0 => .int .i64 x.1
  | _ => .bool x.2
/-- The slice reads as these picks. -/
def Picks (w : World) (B : Nat) (A : Option Addr) (n : Nat) (l : List (Int × Bool)) : Prop := Recs 2 pkV w B A n l ∧ ∀ x ∈ l, I64 x.1
theorem Picks.keep {w w' : World} {B : Nat} {A : Option Addr} {n : Nat} {l : List (Int × Bool)} (h : Picks w B A n l) (hk : ∀ p : Addr, p.block < B → w'.cell? p = w.cell? p) : Picks w' B A n l := ⟨h.1.keep hk, h.2⟩
end Go.Proofs.Ytkblgafackmckaa
