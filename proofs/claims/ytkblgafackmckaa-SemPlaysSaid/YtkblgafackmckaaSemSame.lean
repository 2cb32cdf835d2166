/- The program's interpreter, walked: Same. -/
import Derived.Test.YtkblgafackmckaaPq17
import Derived.Test.YtkblgafackmckaaPq18
import Derived.Test.YtkblgafackmckaaPq19
import Derived.Test.YtkblgafackmckaaPq23
import Derived.Test.YtkblgafackmckaaPq6
namespace Go.Proofs.Ytkblgafackmckaa
open Go.RowKit

theorem frame_eq (a b : Nat × Nat) : ((decide ((a.1 : Int) = (b.1 : Int)) && decide ((a.2 : Int) = (b.2 : Int)))) = decide (a = b) := by
  rw [Bool.eq_iff_iff]
  simp only [Bool.and_eq_true, decide_eq_true_eq]
  constructor
  · rintro ⟨h1, h2⟩
    exact Prod.ext (by omega) (by omega)
  · rintro rfl
    exact ⟨rfl, rfl⟩
theorem take_snoc_eq {α : Type} {l l' : List α} {i : Nat} {x y : α} (h : l.take i = l'.take i) (hx : l[i]? = some x) (hy : l'[i]? = some y) : (l.take (i + 1) = l'.take (i + 1)) ↔ x = y := by
  rw [List.take_add_one, List.take_add_one, hx, hy, h]
  simp

set_option maxRecDepth 100000 in
set_option maxHeartbeats 1600000 in
/-- Two stacks alike? -/
theorem sem_equalF (B : Nat) (x y : Sv) (w : World) (hx : x.Ok w B) (hy : y.Ok w B) (b : Bool) (hb : decide (x.stack = y.stack) = b) :
    Calls Try.prog 57 #[.slice x.A x.len x.cap, .slice y.A y.len y.cap] w fun e w' => e = .returned (.bool b) ∧ Below w.heap.size w w' := by
  have hxl := hx.row.len; have hyl := hy.row.len
  have HXl := kp hxl; have HYl := kp hyl; have HX := kp hx; have HY := kp hy; have HB := kp hb
  have hxm := hx.cm; have hxc := hx.lc; have hym := hy.cm; have hyc := hy.lc
  unfold maxLen at hxm hym
  obtain ⟨n, hn⟩ : ∃ n, x.len = n := ⟨_, rfl⟩
  obtain ⟨m, hm⟩ : ∃ m, y.len = m := ⟨_, rfl⟩
  rw [hn] at HXl hxc ⊢
  rw [hm] at HYl hyc ⊢
  have HRx : Kept (Recs 2 frV w B x.A n x.stack) := kp (by rw [← hn]; exact hx.row)
  have HRy : Kept (Recs 2 frV w B y.A m y.stack) := kp (by rw [← hm]; exact hy.row)
  clear hx hy hb hxl hyl hn hm
  by_cases hnm : n = m
  · subst hnm
    go_enter Try.func57, Try.ntmps57
    go_wp2
    go_loopw [13] (fun v13 wr => ∃ i : Nat, i ≤ n ∧ v13 = .int .i64 i ∧ x.stack.take i = y.stack.take i ∧ Below w.heap.size w wr) (fun v13 _ => n - (intOf v13).toNat)
    case atStart => exact ⟨0, by omega, rfl, rfl, Below.refl _ _⟩
    case round =>
      obtain ⟨i, hi, rfl, htk, hbl⟩ := hrel
      have HTk := kp htk; have HBl := kp hbl
      clear htk hbl
      by_cases hlt : i < n
      · obtain ⟨ad, f, e1, _, hfx, hc0, hc1⟩ := HRx.out.field hlt
        obtain ⟨ad2, f2, e2, _, hfy, hd0, hd1⟩ := HRy.out.field hlt
        have hk : ∀ (A : Addr) (v : Value), w.cell? A = some v → wr.cell? A = some v := fun A v h => (HBl.out.cell (cell_block h)).trans h
        have hc0' := hk _ _ (hc0 (by omega)); have hc1' := hk _ _ (hc1 1 (by omega) (by omega))
        have hd0' := hk _ _ (hd0 (by omega)); have hd1' := hk _ _ (hd1 1 (by omega) (by omega))
        have hE1 : x.A = some ad := e1
        have hE2 : y.A = some ad2 := e2
        have HSn := kp (take_snoc_eq HTk.out hfx hfy)
        have HNo : Kept (f ≠ f2 → false = b) := kp (fun h => by
          rw [← HB.out, decide_eq_false]
          intro e
          rw [e, hfy] at hfx
          exact h (Option.some.inj hfx).symm)
        obtain ⟨a1, a2⟩ := f
        obtain ⟨b1, b2⟩ := f2
        have hc0'' : wr.cell? (ad.add (i * 2)) = some (.int .i64 (a1 : Int)) := hc0'
        have hc1'' : wr.cell? ⟨(ad.add (i * 2)).block, (ad.add (i * 2)).off + 1, none⟩ = some (.int .i64 (a2 : Int)) := hc1'
        have hd0'' : wr.cell? (ad2.add (i * 2)) = some (.int .i64 (b1 : Int)) := hd0'
        have hd1'' : wr.cell? ⟨(ad2.add (i * 2)).block, (ad2.add (i * 2)).off + 1, none⟩ = some (.int .i64 (b2 : Int)) := hd1'
        rw [hE1, hE2]
        clear hk hc0 hc1 hd0 hd1 hc0' hc1' hd0' hd1' hfx hfy e1 e2 hE1 hE2
        by_cases h1 : a1 = b1
        · by_cases h2 : a2 = b2
          · subst h1 h2
            have HN := kp (HSn.out.2 rfl)
            go_wp2
            go_quiet (fail)
            go_wp2
            go_roundw
            case rel => exact ⟨i + 1, by omega, by go_num, HN.out, below_drewN HBl.out _⟩
            case measure => simp [intOf]; omega
          · have hbe2 : ((a2 : Int) == (b2 : Int)) = false := by rw [beq_eq_false_iff_ne]; omega
            have HE := kp (HNo.out (fun e => h2 (congrArg Prod.snd e)))
            subst h1
            go_wp2
            go_quiet (fail)
            go_wp2
            go_ret
            exact ⟨ret_bool HE.out, below_drewN HBl.out _⟩
        · have hbe1 : ((a1 : Int) == (b1 : Int)) = false := by rw [beq_eq_false_iff_ne]; omega
          have HE := kp (HNo.out (fun e => h1 (congrArg Prod.fst e)))
          go_wp2
          go_quiet (fail)
          go_wp2
          go_ret
          exact ⟨ret_bool HE.out, below_drewN HBl.out _⟩
      · have hge : n ≤ i := by omega
        have HE : Kept (true = b) := kp (by
          rw [← HB.out, decide_eq_true]
          have h := HTk.out
          rw [List.take_of_length_le (by rw [HXl.out]; exact hge), List.take_of_length_le (by rw [HYl.out]; exact hge)] at h
          exact h)
        clear hlt
        go_wp2
        go_ret
        exact ⟨ret_bool HE.out, HBl.out⟩
  · have hne : ((n : Int) != (m : Int)) = true := by rw [bne_iff_ne]; omega
    have HE : Kept (false = b) := kp (by
      rw [← HB.out, decide_eq_false]
      intro e
      have h := congrArg List.length e
      rw [HXl.out, HYl.out] at h
      exact hnm h)
    clear hnm
    go_enter Try.func57, Try.ntmps57
    go_wp2
    go_ret
    exact ⟨ret_bool HE.out, Below.refl _ _⟩

theorem th_ext (a b : M.Th) : a = b ↔ a.slots = b.slots ∧ a.stack = b.stack := by
  cases a; cases b; simp [and_comm]
theorem ints_eq (a b : List Nat) : decide (a.map (fun x : Nat => (x : Int)) = b.map (fun x : Nat => (x : Int))) = decide (a = b) := by
  rw [Bool.eq_iff_iff, decide_eq_true_eq, decide_eq_true_eq]
  constructor
  · intro h
    apply List.ext_getElem?
    intro i
    have h2 := congrArg (·[i]?) h
    simp only [List.getElem?_map] at h2
    cases ha : a[i]? <;> cases hb : b[i]? <;> simp [ha, hb] at h2 ⊢
    omega
  · rintro rfl; rfl
theorem map_ints (a : List Nat) : a.map natV = (a.map (fun x : Nat => (x : Int))).map (Value.int .i64) := by rw [List.map_map]; rfl
/-- A thread's cells. -/
def tvC (x : Tv) : List Value := .slice x.sv.A x.sv.len x.sv.cap :: x.slots.map natV
theorem tvC_len {x : Tv} (h : x.slots.length = 8) : (tvC x).length = 9 := by simp [tvC, h]
theorem slots_eqguard : Try.prog.eqGuardType Try.prog.depth 61 = false := by kernel_rfl

theorem owners_eqguard : Try.prog.eqGuardType Try.prog.depth 29 = false := by kernel_rfl

set_option maxRecDepth 100000 in
set_option maxHeartbeats 1600000 in
/-- Two threads alike? -/
theorem sem_sameThread (B : Nat) (x y : Tv) (w : World) (hx : x.sv.Ok w B) (hy : y.sv.Ok w B) (hx8 : x.slots.length = 8) (hy8 : y.slots.length = 8) (hB : B ≤ w.heap.size) (b : Bool) (hb : b = true ↔ tvT x = tvT y) :
    Calls Try.prog 41 #[.agg (tvC x).toArray, .agg (tvC y).toArray] w fun e w' => e = .returned (.bool b) ∧ Below w.heap.size w w' := by
  have HX := kp hx; have HY := kp hy
  have HX8 := kp hx8; have HY8 := kp hy8
  have HCx := kp (tvC_len hx8); have HCy := kp (tvC_len hy8)
  obtain ⟨b1, hb1⟩ : ∃ b1, decide (x.slots = y.slots) = b1 := ⟨_, rfl⟩
  obtain ⟨b2, hb2⟩ : ∃ b2, decide (x.sv.stack = y.sv.stack) = b2 := ⟨_, rfl⟩
  have HE : Kept ((b1 && b2) = b) := kp (by
    rw [← hb1, ← hb2, Bool.eq_iff_iff, Bool.and_eq_true, decide_eq_true_eq, decide_eq_true_eq, hb, th_ext]
    exact Iff.rfl)
  have HB1 : Kept (decide (x.slots.map (fun n : Nat => (n : Int)) = y.slots.map (fun n : Nat => (n : Int))) = b1) := kp (by rw [ints_eq, hb1])
  have HB2 := kp hb2
  have HLx : Kept ((x.slots.map (fun n : Nat => (n : Int))).length = 8) := kp (by rw [List.length_map]; exact hx8)
  have HLy : Kept ((y.slots.map (fun n : Nat => (n : Int))).length = 8) := kp (by rw [List.length_map]; exact hy8)
  clear hx hy hx8 hy8 hb1 hb2 hb
  cases b1
  all_goals
    go_enter Try.func41, Try.ntmps41
    go_wp2_with (first
      | ((with_reducible refine wpList_box_agg rfl 63 (.tmp 0) rfl (tvC x) rfl ?_); intro g1 w1 hg1 hk1 hw1; have HK1 := kp hk1; have HW1 := kp hw1; have hs1 := hw1.size; have hl1 := hk1.lt; clear hk1 hw1)
      | ((with_reducible refine wpList_box_agg rfl 63 (.tmp 1) rfl (tvC y) rfl ?_); intro g2 w2 hg2 hk2 hw2; have HK2 := kp hk2; have HK12 := kp (HK1.out.below hw2 hl1); have HW2 := kp (HW1.out.trans (hw2.mono hs1)); have hs2 := HW2.out.size
         have hc1 := HK12.out.cell 0; have hc2 := HK2.out.cell 0
         simp only [tvC, List.getElem?_cons_zero] at hc1 hc2
         have HR1 : Kept (w2.rangeAt g1 1 (x.slots.map natV)) := kp (by have h := HK12.out.range 1 8; unfold tvC at h; rw [List.drop_succ_cons, List.drop_zero, List.take_of_length_le (by rw [List.length_map, HX8.out]; exact Nat.le_refl _)] at h; exact h)
         have HR2 : Kept (w2.rangeAt g2 1 (y.slots.map natV)) := kp (by have h := HK2.out.range 1 8; unfold tvC at h; rw [List.drop_succ_cons, List.drop_zero, List.take_of_length_le (by rw [List.length_map, HY8.out]; exact Nat.le_refl _)] at h; exact h)
         clear hk2 hw2)
      | ((with_reducible show wpList _ _ _ (⟨some 6, _, _, _, _, _⟩ :: _) _ _); go_must (refine wpList_load_mid rfl 61 (.tmp 5) rfl g1 1 rfl _ _ HR1.out Try.underlying61 rfl (by rw [List.length_map, HX8.out]; exact slots_size) ?_))
      | ((with_reducible show wpList _ _ _ (⟨some 8, _, _, _, _, _⟩ :: _) _ _); go_must (refine wpList_load_mid rfl 61 (.tmp 7) rfl g2 1 rfl _ _ HR2.out Try.underlying61 rfl (by rw [List.length_map, HY8.out]; exact slots_size) ?_))
      | ((with_reducible show wpList _ _ _ (⟨some 9, _, _, _, _, _⟩ :: _) _ _); go_must (refine wpList_eql_arr2 rfl 61 _ (.tmp 6) (.tmp 8) rfl 8 3 .i64 .i64 Try.underlying61 Try.underlying3 size1i slots_eqguard _ _ HLx.out HLy.out (by rw [← map_ints]; rfl) (by rw [← map_ints]; rfl) _ HB1.out ?_))
      | (go_at_call 57; go_must (refine (sem_equalF B x.sv y.sv w2 (HX.out.keep fun _ hp => HW2.out.cell (Nat.lt_of_lt_of_le hp hB)) (HY.out.keep fun _ hp => HW2.out.cell (Nat.lt_of_lt_of_le hp hB)) b2 HB2.out).mono ?_); rintro e w3 ⟨rfl, hb3⟩; have HW3 := kp (HW2.out.trans (hb3.mono hs2)); clear hb3))
    go_ret
    first
      | exact ⟨ret_bool HE.out, HW3.out⟩
      | exact ⟨ret_bool HE.out, HW2.out⟩
end Go.Proofs.Ytkblgafackmckaa
