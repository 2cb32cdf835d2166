/- The program's interpreter, walked: Same, of whole configs. -/
import Derived.Test.YtkblgafackmckaaSemSame
import Derived.Test.YtkblgafackmckaaPq14
namespace Go.Proofs.Ytkblgafackmckaa
open Go.RowKit

/-- A whole struct (or array) out of cells that are told one by one. -/
theorem wpList_load_at {P : Program} {ops : Array Oper} {rest : List Oper} {o : Oper} {a : Act} {w : World} {Q : Exit → Act → World → Prop} (hgd : o.guard = none) (ty : TypeId) (x : Operand) (ho : o.op = .load ty x)
    (ad : Addr) (hx : a.eval x = .pointer (some ad)) (cs : List Value) (d : TypeDesc) (hc : ∀ j v, cs[j]? = some v → w.cell? (ad.add j) = some v)
    (hu : P.underlying ty = some d) (hd : d.isRow = true) (hi : (P.info? ty).map (·.size) = some cs.length)
    (h : wpList P ops Q rest (a.put o.dst (.agg cs.toArray)) w) : wpList P ops Q (o :: rest) a w := by
  refine wpList_plain hgd fun K hK => ?_
  have hl : (loadCells ad cs.length).run P w = .ok cs.toArray w := run_loadCells_list (P := P) w ad cs hc
  have hrun : (loadVar ty ad).run P w = .ok (.agg cs.toArray) w := by
    cases hq : P.info? ty with
    | none => simp [hq] at hi
    | some i =>
      have hs : i.size = cs.length := by simpa [hq] using hi
      have hagg : (isAgg ty).run P w = .ok true w := by
        unfold isAgg
        rw [Sem.run_bind, run_underlying hu w]
        cases d <;> simp_all
      simp [loadVar, Sem.run_bind, hagg, sizeOf, typeInfo, hq, hs, hl]
  unfold Oper.wp execOp
  simp only [ho, hx, Instr.loadAt, Instr.sureAddr, Sem.run_bind, Sem.run_pure, Result.andThen_ok, hrun]
  exact hK _ _ h
theorem tvC_at {x : Tv} (h8 : x.slots.length = 8) {j : Nat} {v : Value} (h : (tvC x)[j]? = some v) : j < 9 ∧ tvV x j = v := by
  have hj : j < 9 := by have := (List.getElem?_eq_some_iff.1 h).1; rw [tvC_len h8] at this; exact this
  refine ⟨hj, ?_⟩
  cases j with
  | zero =>
    simp only [tvC, List.getElem?_cons_zero, Option.some.injEq] at h
    exact h
  | succ j =>
    have hk : j < x.slots.length := by omega
    rw [tvC, List.getElem?_cons_succ, List.getElem?_map, List.getElem?_eq_getElem hk] at h
    show Value.int .i64 ((x.slots.getD j 0 : Nat) : Int) = v
    rw [List.getD_eq_getElem?_getD, List.getElem?_eq_getElem hk]
    exact Option.some.inj h
theorem tvC_ones (x : Tv) : ∀ u ∈ tvC x, u.oneCell' = true := by
  intro u hu
  rcases List.mem_cons.1 hu with rfl | hu
  · rfl
  · obtain ⟨y, _, rfl⟩ := List.mem_map.1 hu
    rfl

set_option maxRecDepth 100000 in
set_option maxHeartbeats 3200000 in
theorem sem_equalT (B : Nat) (q r : Pc) (w : World) (hq : q.Ok w B) (hr : r.Ok w B) (hB : B ≤ w.heap.size) (hq8 : ∀ x ∈ q.tvs, x.slots.length = 8) (hr8 : ∀ x ∈ r.tvs, x.slots.length = 8) (b : Bool) (hb : b = true ↔ q.tvs.map tvT = r.tvs.map tvT) :
    Calls Try.prog 40 #[.slice q.A q.len q.cap, .slice r.A r.len r.cap, .func (.func 41) #[] #[]] w fun e w' => e = .returned (.bool b) ∧ Below w.heap.size w w' := by
  have HQ8 := kp hq8; have HR8 := kp hr8; have HQ := kp hq; have HR := kp hr; have HB := kp hb
  have hqm := hq.cm; have hqc := hq.lc; have hrm := hr.cm; have hrc := hr.lc
  unfold maxLen at hqm hrm
  obtain ⟨n, hn⟩ : ∃ n, q.len = n := ⟨_, rfl⟩
  obtain ⟨m, hm⟩ : ∃ m, r.len = m := ⟨_, rfl⟩
  have HQl : Kept (q.tvs.length = n) := kp (by rw [← hn]; exact hq.row.len)
  have HRl : Kept (r.tvs.length = m) := kp (by rw [← hm]; exact hr.row.len)
  have HQr : Kept (Recs 9 tvV w B q.A n q.tvs) := kp (by rw [← hn]; exact hq.row)
  have HRr : Kept (Recs 9 tvV w B r.A m r.tvs) := kp (by rw [← hm]; exact hr.row)
  rw [hn] at hqc ⊢
  rw [hm] at hrc ⊢
  clear hq hr hb hq8 hr8 hn hm
  by_cases hnm : n = m
  · subst hnm
    go_enter Try.func40, Try.ntmps40
    go_wp2
    go_loopw [17] (fun v17 wr => ∃ i : Nat, i ≤ n ∧ v17 = .int .i64 i ∧ (q.tvs.map tvT).take i = (r.tvs.map tvT).take i ∧ Below w.heap.size w wr) (fun v17 _ => n - (intOf v17).toNat)
    case atStart => exact ⟨0, by omega, rfl, rfl, Below.refl _ _⟩
    case round =>
      obtain ⟨i, hi, rfl, htk, hbl⟩ := hrel
      have HTk := kp htk; have HBl := kp hbl
      have hsw := hbl.size
      clear htk hbl
      by_cases hlt : i < n
      · obtain ⟨ad, x, e1, had, hx, hc⟩ := HQr.out.get hlt
        obtain ⟨ad2, y, e2, had2, hy, hd⟩ := HRr.out.get hlt
        have hxm := List.mem_of_getElem? hx; have hym := List.mem_of_getElem? hy
        have HX8 := kp (HQ8.out x hxm); have HY8 := kp (HR8.out y hym)
        have HXo := kp (HQ.out.svs x hxm); have HYo := kp (HR.out.svs y hym)
        have hE1 : q.A = some ad := e1
        have hE2 : r.A = some ad2 := e2
        have HSn := kp (take_snoc_eq HTk.out (show (q.tvs.map tvT)[i]? = some (tvT x) by rw [List.getElem?_map, hx]; rfl) (show (r.tvs.map tvT)[i]? = some (tvT y) by rw [List.getElem?_map, hy]; rfl))
        have HNo : Kept (tvT x ≠ tvT y → false = b) := kp (fun h => by
          have h1 : ¬ (q.tvs.map tvT = r.tvs.map tvT) := fun e => by
            have h2 := congrArg (·[i]?) e
            simp only [List.getElem?_map, hx, hy, Option.map_some, Option.some.injEq] at h2
            exact h h2
          cases b
          · rfl
          · exact absurd (HB.out.1 rfl) h1)
        have HCx : Kept (∀ j v, (tvC x)[j]? = some v → wr.cell? ((ad.add (i * 9)).add j) = some v) := kp (fun j v h => by
          obtain ⟨hj, hv⟩ := tvC_at HX8.out h
          rw [add_add, ← hv]
          exact (HBl.out.cell (by rw [add_block]; omega)).trans (hc j hj))
        have HCy : Kept (∀ (W : World), Below wr.heap.size wr W → ∀ j v, (tvC y)[j]? = some v → W.cell? ((ad2.add (i * 9)).add j) = some v) := kp (fun W hW j v h => by
          obtain ⟨hj, hv⟩ := tvC_at HY8.out h
          rw [add_add, ← hv]
          exact ((hW.cell (by rw [add_block]; omega)).trans (HBl.out.cell (by rw [add_block]; omega))).trans (hd j hj))
        rw [hE1, hE2]
        obtain ⟨b1, hb1⟩ : ∃ b1 : Bool, b1 = true ↔ tvT x = tvT y := by
          by_cases h : tvT x = tvT y
          · exact ⟨true, by simp [h]⟩
          · exact ⟨false, by simp [h]⟩
        have HB1 := kp hb1
        clear hx hy hc hd e1 e2 hE1 hE2 hxm hym hb1
        cases b1
        all_goals
          go_wp2_with (first
            | ((with_reducible show wpList _ _ _ (⟨some 21, _, _, _, _, _⟩ :: _) _ _); go_must (refine wpList_load_at rfl 63 (.tmp 20) rfl (ad.add (i * 9)) rfl (tvC x) _ HCx.out Try.underlying63 rfl (by rw [tvC_len HX8.out]; exact thread_size) ?_))
            | ((with_reducible show wpList _ _ _ (⟨some 8, _, _, _, _, _⟩ :: _) _ _); go_must (refine wpList_alloc_zero rfl 63 rfl _ thread_zero ?_); intro g1 w1 hg1 hk1 hw1; have HK1 := kp hk1; have HL1 := kp hw1; have hs1 := hw1.size; clear hk1 hw1)
            | ((with_reducible show wpList _ _ _ (⟨none, _, _, _, _, _⟩ :: _) _ _); (refine wpList_store_blk rfl 63 (.tmp 8) (.tmp 21) rfl g1 (tvC x) rfl rfl _ _ HK1.out (by rw [tvC_len HX8.out]; exact thread_size) (by rw [tvC_len HX8.out]; rfl) (tvC_ones x) ?_); intro w2 hk2 hg2 hz2; have HK2 := kp hk2; have HL2 := kp (HL1.out.grown hg2 hs1 (fun k e => by cases e; exact hg1)); have hs2 := HL2.out.size; have hl2 := hk2.lt; have HCy2 := kp (HCy.out w2 HL2.out); clear hk2 hg2 hz2)
            | ((with_reducible show wpList _ _ _ (⟨some 25, _, _, _, _, _⟩ :: _) _ _); go_must (refine wpList_load_at rfl 63 (.tmp 24) rfl (ad2.add (i * 9)) rfl (tvC y) _ HCy2.out Try.underlying63 rfl (by rw [tvC_len HY8.out]; exact thread_size) ?_))
            | ((with_reducible show wpList _ _ _ (⟨some 9, _, _, _, _, _⟩ :: _) _ _); go_must (refine wpList_alloc_zero rfl 63 rfl _ thread_zero ?_); intro g3 w3 hg3 hk3 hw3; have HK3 := kp hk3; have HK23 := kp (HK2.out.below hw3 hl2); have HL3 := kp (HL2.out.trans (hw3.mono hs2)); have hs3 := HL3.out.size; have hl23 := HK23.out.lt; clear hk3 hw3)
            | ((with_reducible show wpList _ _ _ (⟨none, _, _, _, _, _⟩ :: _) _ _); (refine wpList_store_blk rfl 63 (.tmp 9) (.tmp 25) rfl g3 (tvC y) rfl rfl _ _ HK3.out (by rw [tvC_len HY8.out]; exact thread_size) (by rw [tvC_len HY8.out]; rfl) (tvC_ones y) ?_); intro w4 hk4 hg4 hz4; have HK4 := kp hk4; have HK24 := kp (HK23.out.grown hg4 (fun e => by cases e; omega)); have HL4 := kp (HL3.out.grown hg4 hs3 (fun k e => by cases e; omega)); have hs4 := HL4.out.size; clear hk4 hg4 hz4)
            | ((with_reducible show wpList _ _ _ (⟨some 27, _, _, _, _, _⟩ :: _) _ _); go_must (refine wpList_load_blk rfl 63 (.tmp 8) rfl g1 rfl _ (tvC x) _ HK24.out Try.underlying63 rfl (by rw [tvC_len HX8.out]; exact thread_size) ?_))
            | ((with_reducible show wpList _ _ _ (⟨some 28, _, _, _, _, _⟩ :: _) _ _); go_must (refine wpList_load_blk rfl 63 (.tmp 9) rfl g3 rfl _ (tvC y) _ HK4.out Try.underlying63 rfl (by rw [tvC_len HY8.out]; exact thread_size) ?_))
            | (go_at_call 41; go_must (refine (sem_sameThread B x y w4 (HXo.out.keep fun _ hp => ((HBl.out.trans (HL4.out.mono hsw)).cell (Nat.lt_of_lt_of_le hp hB))) (HYo.out.keep fun _ hp => ((HBl.out.trans (HL4.out.mono hsw)).cell (Nat.lt_of_lt_of_le hp hB))) HX8.out HY8.out (by omega) _ HB1.out).mono ?_); rintro e w5 ⟨rfl, hb5⟩; have HW5 := kp ((HBl.out.trans (HL4.out.mono hsw)).trans (hb5.mono (by have := (HBl.out.trans (HL4.out.mono hsw)).size; omega))); clear hb5))
        · have HE := kp (HNo.out (fun e => absurd (HB1.out.2 e) (by decide)))
          go_ret
          exact ⟨ret_bool HE.out, HW5.out⟩
        · have HN := kp (HSn.out.2 (by first | exact HB1.out.1 rfl | exact HB1.out.1 trivial))
          go_roundw
          case rel => exact ⟨i + 1, by omega, by go_num, HN.out, HW5.out⟩
          case measure => simp [intOf]; omega
      · have hge : n ≤ i := by omega
        have HE : Kept (true = b) := kp (by
          have h := HTk.out
          rw [List.take_of_length_le (by rw [List.length_map, HQl.out]; exact hge), List.take_of_length_le (by rw [List.length_map, HRl.out]; exact hge)] at h
          exact (HB.out.2 h).symm)
        clear hlt
        go_wp2
        go_ret
        exact ⟨ret_bool HE.out, HBl.out⟩
  · have hne : ((n : Int) != (m : Int)) = true := by rw [bne_iff_ne]; omega
    have HE : Kept (false = b) := kp (by
      cases b
      · rfl
      · have h := congrArg List.length (HB.out.1 rfl)
        rw [List.length_map, List.length_map, HQl.out, HRl.out] at h
        exact absurd h hnm)
    clear hnm
    go_enter Try.func40, Try.ntmps40
    go_wp2
    go_ret
    exact ⟨ret_bool HE.out, Below.refl _ _⟩

set_option maxRecDepth 100000 in
set_option maxHeartbeats 1600000 in
/-- Two configs alike? -/
theorem sem_same (B : Nat) (q r : Pc) (w : World) (hq : q.Ok w B) (hr : r.Ok w B) (hB : B ≤ w.heap.size) (hq8 : ∀ x ∈ q.tvs, x.slots.length = 8) (hr8 : ∀ x ∈ r.tvs, x.slots.length = 8) (hq16 : q.ow.length = 16) (hr16 : r.ow.length = 16) (b : Bool) (hb : b = true ↔ q.cf = r.cf) :
    Calls Try.prog 26 #[pcA q, pcA r] w fun e w' => e = .returned (.bool b) ∧ Below w.heap.size w w' := by
  have HQ := kp hq; have HR := kp hr; have HQ8 := kp hq8; have HR8 := kp hr8
  have HQ16 := kp hq16; have HR16 := kp hr16
  obtain ⟨b1, hb1⟩ : ∃ b1, decide (q.ow = r.ow) = b1 := ⟨_, rfl⟩
  obtain ⟨b2, hb2⟩ : ∃ b2 : Bool, b2 = true ↔ q.tvs.map tvT = r.tvs.map tvT := by
    by_cases h : q.tvs.map tvT = r.tvs.map tvT
    · exact ⟨true, by simp [h]⟩
    · exact ⟨false, by simp [h]⟩
  have HE : Kept ((b1 && b2) = b) := kp (by
    rw [← hb1, Bool.eq_iff_iff, Bool.and_eq_true, decide_eq_true_eq, hb2, hb]
    unfold Pc.cf
    constructor
    · rintro ⟨h1, h2⟩; rw [h1, h2]
    · intro h
      injection h with h1 h2
      exact ⟨h2, h1⟩)
  have HB1 : Kept (decide (q.ow.map (fun n : Nat => (n : Int)) = r.ow.map (fun n : Nat => (n : Int))) = b1) := kp (by rw [ints_eq, hb1])
  have HB2 := kp hb2
  have HLx : Kept ((q.ow.map (fun n : Nat => (n : Int))).length = 16) := kp (by rw [List.length_map]; exact hq16)
  have HLy : Kept ((r.ow.map (fun n : Nat => (n : Int))).length = 16) := kp (by rw [List.length_map]; exact hr16)
  clear hq hr hq8 hr8 hq16 hr16 hb1 hb2 hb
  rw [pcA_is, pcA_is]
  cases b1
  all_goals
    go_enter Try.func26, Try.ntmps26
    go_wp2_with (first
      | ((with_reducible refine wpList_box_agg rfl 31 (.tmp 0) rfl (pcC q) rfl ?_); intro g1 w1 hg1 hk1 hw1; have HK1 := kp hk1; have HW1 := kp hw1; have hs1 := hw1.size; have hl1 := hk1.lt; clear hk1 hw1)
      | ((with_reducible refine wpList_box_agg rfl 31 (.tmp 1) rfl (pcC r) rfl ?_); intro g2 w2 hg2 hk2 hw2; have HK2 := kp hk2; have HK12 := kp (HK1.out.below hw2 hl1); have HW2 := kp (HW1.out.trans (hw2.mono hs1)); have hs2 := HW2.out.size
         have hc1 := HK12.out.cell 0; have hc2 := HK2.out.cell 0
         simp only [pcC, List.getElem?_cons_zero] at hc1 hc2
         have HR1 : Kept (w2.rangeAt g1 1 (q.ow.map natV)) := kp (by have h := HK12.out.range 1 16; unfold pcC at h; rw [List.drop_succ_cons, List.drop_zero, List.take_of_length_le (by rw [List.length_map, HQ16.out]; exact Nat.le_refl _)] at h; exact h)
         have HR2 : Kept (w2.rangeAt g2 1 (r.ow.map natV)) := kp (by have h := HK2.out.range 1 16; unfold pcC at h; rw [List.drop_succ_cons, List.drop_zero, List.take_of_length_le (by rw [List.length_map, HR16.out]; exact Nat.le_refl _)] at h; exact h)
         clear hk2 hw2)
      | ((with_reducible show wpList _ _ _ (⟨some 6, _, _, _, _, _⟩ :: _) _ _); go_must (refine wpList_load_mid rfl 29 (.tmp 5) rfl g1 1 rfl _ _ HR1.out Try.underlying29 rfl (by rw [List.length_map, HQ16.out]; exact owners_size) ?_))
      | ((with_reducible show wpList _ _ _ (⟨some 8, _, _, _, _, _⟩ :: _) _ _); go_must (refine wpList_load_mid rfl 29 (.tmp 7) rfl g2 1 rfl _ _ HR2.out Try.underlying29 rfl (by rw [List.length_map, HR16.out]; exact owners_size) ?_))
      | ((with_reducible show wpList _ _ _ (⟨some 9, _, _, _, _, _⟩ :: _) _ _); go_must (refine wpList_eql_arr2 rfl 29 _ (.tmp 6) (.tmp 8) rfl 16 3 .i64 .i64 Try.underlying29 Try.underlying3 size1i owners_eqguard _ _ HLx.out HLy.out (by rw [← map_ints]; rfl) (by rw [← map_ints]; rfl) _ HB1.out ?_))
      | (go_at_call 40; go_must (refine (sem_equalT B q r w2 (HQ.out.keep fun _ hp => HW2.out.cell (Nat.lt_of_lt_of_le hp hB)) (HR.out.keep fun _ hp => HW2.out.cell (Nat.lt_of_lt_of_le hp hB)) (by omega) HQ8.out HR8.out b2 HB2.out).mono ?_); rintro e w3 ⟨rfl, hb3⟩; have HW3 := kp (HW2.out.trans (hb3.mono hs2)); clear hb3))
    go_ret
    first
      | exact ⟨ret_bool HE.out, HW3.out⟩
      | exact ⟨ret_bool HE.out, HW2.out⟩
end Go.Proofs.Ytkblgafackmckaa
