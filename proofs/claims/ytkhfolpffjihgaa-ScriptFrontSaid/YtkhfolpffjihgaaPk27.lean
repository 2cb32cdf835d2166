/- Equal2, SemSame, SemSame2, SemLaw2, RaceMath, in one text. -/
import Derived.Test.YtkhfolpffjihgaaPk26
import Derived.BigFrame
import Derived.Test.YtkhfolpffjihgaaPk18
import Derived.Test.YtkhfolpffjihgaaPk20
import Derived.Test.YtkhfolpffjihgaaPk21
import Derived.Test.YtkhfolpffjihgaaPk7
import Derived.Test.YtkhfolpffjihgaaPk16
import Derived.Test.YtkhfolpffjihgaaPk12
namespace Go.Proofs.Ytkhfolpffjihgaa
open Go.RowKit
theorem forIn_all {P : Program} {w : World} {β : Type} (body : Nat → β → Sem (ForInStep β)) (s t : β) (f : Nat → Bool) : ∀ (l : List Nat) (b : Bool), l.all f = b → (∀ i ∈ l, (body i s).run P w = .ok (if f i then .yield s else .done t) w) → (forIn l s body).run P w = .ok (if b then s else t) w
  | [], b, hb, _ => by
    have : b = true := by rw [← hb]; rfl
    subst this
    simp
  | i :: r, b, hb, h => by
    rw [List.forIn_cons, Sem.run_bind, h i (by simp)]
    simp only [Result.andThen_ok]
    have hb2 : (f i && r.all f) = b := by rw [← hb]; rfl
    by_cases hf : f i = true
    · rw [if_pos hf]
      exact forIn_all body s t f r b (by rw [← hb2, hf]; rfl) fun j hj => h j (by simp [hj])
    · rw [if_neg hf]
      have : b = false := by rw [← hb2, Bool.eq_false_iff.2 hf]; rfl
      subst this
      simp
theorem all_range_eq (vs us : List Int) (n : Nat) (hv : vs.length = n) (hu : us.length = n) : ((List.range' 0 n).all fun i => vs.getD i 0 == us.getD i 0) = decide (vs = us) := by
  rw [Bool.eq_iff_iff, List.all_eq_true, decide_eq_true_eq]
  constructor
  · intro h
    apply List.ext_getElem (by omega)
    intro i h1 h2
    have := h i (by simp; omega)
    rw [beq_iff_eq, List.getD_eq_getElem?_getD, List.getElem?_eq_getElem h1, List.getD_eq_getElem?_getD, List.getElem?_eq_getElem h2] at this
    exact this
  · rintro rfl i _
    simp
theorem yM {P : Program} (w : World) (d : Nat) (t e : TypeId) (n : Nat) (k k2 : IntKind) (ht : P.underlying t = some (.array n e)) (he : P.underlying e = some (.int k2)) (hsz : (P.info? e).map (·.size) = some 1) (vs us : List Int) (hl : vs.length = n) (hl2 : us.length = n) :
    (Op.equalIn (d + 2) t (.agg (vs.map (Value.int k)).toArray) (.agg (us.map (Value.int k)).toArray)).run P w = .ok (decide (vs = us)) w := by
  have hagg : (isAgg e).run P w = .ok false w := by
    unfold isAgg
    rw [Sem.run_bind, run_underlying he w]; rfl
  cases hq : P.info? e with
  | none => simp [hq] at hsz
  | some ie =>
    have hs : ie.size = 1 := by simpa [hq] using hsz
    have hso : (sizeOf e).run P w = .ok 1 w := by simp [sizeOf, typeInfo, hq, hs]
    unfold Op.equalIn
    simp only [Sem.run_bind, run_underlying ht w, Result.andThen_ok, hso, Std.Legacy.Range.forIn_eq_forIn_range']
    rw [forIn_all _ _ (some false, PUnit.unit) (fun i => vs.getD i 0 == us.getD i 0) _ (decide (vs = us)) (by rw [← all_range_eq vs us n hl hl2]; simp [Std.Legacy.Range.size])]
    · by_cases hvu : vs = us
      · rw [decide_eq_true hvu]; rfl
      · rw [decide_eq_false hvu]; rfl
    · intro i hi
      have hin : i < n := by
        simp [Std.Legacy.Range.size] at hi
        omega
      have h1 : i < vs.length := by omega
      have h2 : i < us.length := by omega
      simp [part, hagg, h1, h2, run_equalIn_int w d e k k2 _ _ he]
      split <;> rfl
theorem yD {P : Program} {ops : Array Oper} {rest : List Oper} {o : Oper} {a : Act} {w : World} {Q : Exit → Act → World → Prop} (hgd : Region.wanted o (yielded ops a.tmps) = true) (t u : TypeId) (x y : Operand) (ho : o.op = .binOp .eql t x y u)
    (n : Nat) (e : TypeId) (k k2 : IntKind) (ht : P.underlying t = some (.array n e)) (he : P.underlying e = some (.int k2)) (hsz : (P.info? e).map (·.size) = some 1) (hm : P.eqGuardType P.depth t = false)
    (vs us : List Int) (hl : vs.length = n) (hl2 : us.length = n) (hx : a.eval x = .agg (vs.map (Value.int k)).toArray) (hy : a.eval y = .agg (us.map (Value.int k)).toArray) (b : Bool) (hb : decide (vs = us) = b) (h : wpList P ops Q rest (a.put o.dst (.bool b)) w) : wpList P ops Q (o :: rest) a w := by
  refine BigFrame.wpList_want hgd fun K hK => ?_
  subst hb
  unfold Oper.wp execOp
  simp only [ho, hx, hy, Sem.run_bind, run_eqGuard_agg w .eql t x y _ _ hm, run_eql_struct w t _ _, yM w 9998 t e n k k2 ht he hsz vs us hl hl2, Result.andThen_ok, Sem.run_pure]
  exact hK _ _ h
theorem lX {P : Program} {ops : Array Oper} {rest : List Oper} {o : Oper} {a : Act} {w : World} {Q : Exit → Act → World → Prop} (hgd : Region.wanted o (yielded ops a.tmps) = true) (t u : TypeId) (x y : Operand) (ho : o.op = .binOp .neq t x y u)
    (n : Nat) (e : TypeId) (k k2 : IntKind) (ht : P.underlying t = some (.array n e)) (he : P.underlying e = some (.int k2)) (hsz : (P.info? e).map (·.size) = some 1) (hm : P.eqGuardType P.depth t = false)
    (vs us : List Int) (hl : vs.length = n) (hl2 : us.length = n) (hx : a.eval x = .agg (vs.map (Value.int k)).toArray) (hy : a.eval y = .agg (us.map (Value.int k)).toArray) (b : Bool) (hb : (!decide (vs = us)) = b) (h : wpList P ops Q rest (a.put o.dst (.bool b)) w) : wpList P ops Q (o :: rest) a w := by
  refine BigFrame.wpList_want hgd fun K hK => ?_
  subst hb
  unfold Oper.wp execOp
  simp only [ho, hx, hy, Sem.run_bind, run_eqGuard_agg w .neq t x y _ _ hm, run_neq_struct w t _ _, yM w 9998 t e n k k2 ht he hsz vs us hl hl2, Result.andThen_ok, Sem.run_pure]
  exact hK _ _ h
theorem x7 {α : Type} {l l' : List α} {i : Nat} {x y : α} (h : l.take i = l'.take i) (hx : l[i]? = some x) (hy : l'[i]? = some y) : (l.take (i + 1) = l'.take (i + 1)) ↔ x = y := by
  rw [List.take_add_one, List.take_add_one, hx, hy, h]
  simp
set_option maxRecDepth 100000 in
set_option maxHeartbeats 1600000 in
theorem sem_equalF (B : Nat) (x y : Sv) (w : World) (hx : x.Ok w B) (hy : y.Ok w B) (b : Bool) (hb : decide (x.stack = y.stack) = b) :
    Calls Try.prog 60 #[.slice x.A x.len x.cap, .slice y.A y.len y.cap] w fun e w' => e = .returned (.bool b) ∧ Below w.heap.size w w' := by
  have hxl := hx.row.len; have hyl := hy.row.len
  have HXl := kp hxl; have HYl := kp hyl; have HX := kp hx; have HY := kp hy; have HB := kp hb
  have hxm := hx.cm; have hxc := hx.lc; have hym := hy.cm; have hyc := hy.lc
  unfold maxLen at hxm hym
  obtain ⟨n, hn⟩ : ∃ n, x.len = n := ⟨_, rfl⟩
  obtain ⟨m, hm⟩ : ∃ m, y.len = m := ⟨_, rfl⟩
  rw [hn] at HXl hxc ⊢
  rw [hm] at HYl hyc ⊢
  have HRx : Kept (Recs 2 frV w B x.A n x.stack) := kp (by rw [← hn]; exact hx.row)
  have HRy : Kept (Recs 2 frV w B y.A m y.stack) := kp (by rw [← hm]; exact hy.row)
  clear hx hy hb hxl hyl hn hm
  by_cases hnm : n = m
  · subst hnm
    go_enter Try.func60, Try.ntmps60
    go_wp2
    go_loopw [13] (fun v13 wr => ∃ i : Nat, i ≤ n ∧ v13 = .int .i64 i ∧ x.stack.take i = y.stack.take i ∧ Below w.heap.size w wr) (fun v13 _ => n - (intOf v13).toNat)
    case atStart => exact ⟨0, by omega, rfl, rfl, Below.refl _ _⟩
    case round =>
      obtain ⟨i, hi, rfl, htk, hbl⟩ := hrel
      have HTk := kp htk; have HBl := kp hbl
      clear htk hbl
      by_cases hlt : i < n
      · obtain ⟨ad, f, e1, _, hfx, hc0, hc1⟩ := HRx.out.field hlt
        obtain ⟨ad2, f2, e2, _, hfy, hd0, hd1⟩ := HRy.out.field hlt
        have hk : ∀ (A : Addr) (v : Value), w.cell? A = some v → wr.cell? A = some v := fun A v h => (HBl.out.cell (xK h)).trans h
        have hc0' := hk _ _ (hc0 (by omega)); have hc1' := hk _ _ (hc1 1 (by omega) (by omega))
        have hd0' := hk _ _ (hd0 (by omega)); have hd1' := hk _ _ (hd1 1 (by omega) (by omega))
        have hE1 : x.A = some ad := e1
        have hE2 : y.A = some ad2 := e2
        have HSn := kp (x7 HTk.out hfx hfy)
        have HNo : Kept (f ≠ f2 → false = b) := kp (fun h => by
          rw [← HB.out, decide_eq_false]
          intro e
          rw [e, hfy] at hfx
          exact h (Option.some.inj hfx).symm)
        obtain ⟨a1, a2⟩ := f
        obtain ⟨b1, b2⟩ := f2
        have hc0'' : wr.cell? (ad.add (i * 2)) = some (.int .i64 (a1 : Int)) := hc0'
        have hc1'' : wr.cell? ⟨(ad.add (i * 2)).block, (ad.add (i * 2)).off + 1, none⟩ = some (.int .i64 (a2 : Int)) := hc1'
        have hd0'' : wr.cell? (ad2.add (i * 2)) = some (.int .i64 (b1 : Int)) := hd0'
        have hd1'' : wr.cell? ⟨(ad2.add (i * 2)).block, (ad2.add (i * 2)).off + 1, none⟩ = some (.int .i64 (b2 : Int)) := hd1'
        rw [hE1, hE2]
        clear hk hc0 hc1 hd0 hd1 hc0' hc1' hd0' hd1' hfx hfy e1 e2 hE1 hE2
        by_cases h1 : a1 = b1
        · by_cases h2 : a2 = b2
          · subst h1 h2
            have HN := kp (HSn.out.2 rfl)
            go_wp2
            go_quiet (fail)
            go_wp2
            go_roundw
            case rel => exact ⟨i + 1, by omega, by go_num, HN.out, jE HBl.out _⟩
            case measure => simp [intOf]; omega
          · have hbe2 : ((a2 : Int) == (b2 : Int)) = false := by rw [beq_eq_false_iff_ne]; omega
            have HE := kp (HNo.out (fun e => h2 (congrArg Prod.snd e)))
            subst h1
            go_wp2
            go_quiet (fail)
            go_wp2
            go_ret
            exact ⟨jH HE.out, jE HBl.out _⟩
        · have hbe1 : ((a1 : Int) == (b1 : Int)) = false := by rw [beq_eq_false_iff_ne]; omega
          have HE := kp (HNo.out (fun e => h1 (congrArg Prod.fst e)))
          go_wp2
          go_quiet (fail)
          go_wp2
          go_ret
          exact ⟨jH HE.out, jE HBl.out _⟩
      · have hge : n ≤ i := by omega
        have HE : Kept (true = b) := kp (by
          rw [← HB.out, decide_eq_true]
          have h := HTk.out
          rw [List.take_of_length_le (by rw [HXl.out]; exact hge), List.take_of_length_le (by rw [HYl.out]; exact hge)] at h
          exact h)
        clear hlt
        go_wp2
        go_ret
        exact ⟨jH HE.out, HBl.out⟩
  · have hne : ((n : Int) != (m : Int)) = true := by rw [bne_iff_ne]; omega
    have HE : Kept (false = b) := kp (by
      rw [← HB.out, decide_eq_false]
      intro e
      have h := congrArg List.length e
      rw [HXl.out, HYl.out] at h
      exact hnm h)
    clear hnm
    go_enter Try.func60, Try.ntmps60
    go_wp2
    go_ret
    exact ⟨jH HE.out, Below.refl _ _⟩
theorem th_ext (a b : M.Th) : a = b ↔ a.slots = b.slots ∧ a.stack = b.stack := by
  cases a; cases b; simp [and_comm]
theorem ints_eq (a b : List Nat) : decide (a.map (fun x : Nat => (x : Int)) = b.map (fun x : Nat => (x : Int))) = decide (a = b) := by
  rw [Bool.eq_iff_iff, decide_eq_true_eq, decide_eq_true_eq]
  constructor
  · intro h
    apply List.ext_getElem?
    intro i
    have h2 := congrArg (·[i]?) h
    simp only [List.getElem?_map] at h2
    cases ha : a[i]? <;> cases hb : b[i]? <;> simp [ha, hb] at h2 ⊢
    omega
  · rintro rfl; rfl
theorem lK (a : List Nat) : a.map natV = (a.map (fun x : Nat => (x : Int))).map (Value.int .i64) := by rw [List.map_map]; rfl
def tvC (x : Tv) : List Value := .slice x.sv.A x.sv.len x.sv.cap :: x.slots.map natV
theorem qM {x : Tv} (h : x.slots.length = 8) : (tvC x).length = 9 := by simp [tvC, h]
theorem slots_eqguard : Try.prog.eqGuardType Try.prog.depth 83 = false := by kernel_rfl
theorem xE : Try.prog.eqGuardType Try.prog.depth 41 = false := by kernel_rfl
set_option maxRecDepth 100000 in
set_option maxHeartbeats 1600000 in
theorem sem_sameThread (B : Nat) (x y : Tv) (w : World) (hx : x.sv.Ok w B) (hy : y.sv.Ok w B) (hx8 : x.slots.length = 8) (hy8 : y.slots.length = 8) (hB : B ≤ w.heap.size) (b : Bool) (hb : b = true ↔ tvT x = tvT y) :
    Calls Try.prog 41 #[.agg (tvC x).toArray, .agg (tvC y).toArray] w fun e w' => e = .returned (.bool b) ∧ Below w.heap.size w w' := by
  have HX := kp hx; have HY := kp hy
  have HX8 := kp hx8; have HY8 := kp hy8
  have HCx := kp (qM hx8); have HCy := kp (qM hy8)
  obtain ⟨b1, hb1⟩ : ∃ b1, decide (x.slots = y.slots) = b1 := ⟨_, rfl⟩
  obtain ⟨b2, hb2⟩ : ∃ b2, decide (x.sv.stack = y.sv.stack) = b2 := ⟨_, rfl⟩
  have HE : Kept ((b1 && b2) = b) := kp (by
    rw [← hb1, ← hb2, Bool.eq_iff_iff, Bool.and_eq_true, decide_eq_true_eq, decide_eq_true_eq, hb, th_ext]
    exact Iff.rfl)
  have HB1 : Kept (decide (x.slots.map (fun n : Nat => (n : Int)) = y.slots.map (fun n : Nat => (n : Int))) = b1) := kp (by rw [ints_eq, hb1])
  have HB2 := kp hb2
  have HLx : Kept ((x.slots.map (fun n : Nat => (n : Int))).length = 8) := kp (by rw [List.length_map]; exact hx8)
  have HLy : Kept ((y.slots.map (fun n : Nat => (n : Int))).length = 8) := kp (by rw [List.length_map]; exact hy8)
  clear hx hy hx8 hy8 hb1 hb2 hb
  cases b1
  all_goals
    go_enter Try.func41, Try.ntmps41
    go_wp2_with (first
      | ((with_reducible refine j2 rfl 89 (.tmp 0) rfl (tvC x) rfl ?_); intro g1 w1 hg1 hk1 hw1; have HK1 := kp hk1; have HW1 := kp hw1; have hs1 := hw1.size; have hl1 := hk1.lt; clear hk1 hw1)
      | ((with_reducible refine j2 rfl 89 (.tmp 1) rfl (tvC y) rfl ?_); intro g2 w2 hg2 hk2 hw2; have HK2 := kp hk2; have HK12 := kp (HK1.out.below hw2 hl1); have HW2 := kp (HW1.out.trans (hw2.mono hs1)); have hs2 := HW2.out.size
         have hc1 := HK12.out.cell 0; have hc2 := HK2.out.cell 0
         simp only [tvC, List.getElem?_cons_zero] at hc1 hc2
         have HR1 : Kept (w2.rangeAt g1 1 (x.slots.map natV)) := kp (by have h := HK12.out.range 1 8; unfold tvC at h; rw [List.drop_succ_cons, List.drop_zero, List.take_of_length_le (by rw [List.length_map, HX8.out]; exact Nat.le_refl _)] at h; exact h)
         have HR2 : Kept (w2.rangeAt g2 1 (y.slots.map natV)) := kp (by have h := HK2.out.range 1 8; unfold tvC at h; rw [List.drop_succ_cons, List.drop_zero, List.take_of_length_le (by rw [List.length_map, HY8.out]; exact Nat.le_refl _)] at h; exact h)
         clear hk2 hw2)
      | ((with_reducible show Sl 6); go_must (refine wpList_load_mid rfl 83 (.tmp 5) rfl g1 1 rfl _ _ HR1.out Try.underlying83 rfl (by rw [List.length_map, HX8.out]; exact l4) ?_))
      | ((with_reducible show Sl 8); go_must (refine wpList_load_mid rfl 83 (.tmp 7) rfl g2 1 rfl _ _ HR2.out Try.underlying83 rfl (by rw [List.length_map, HY8.out]; exact l4) ?_))
      | ((with_reducible show Sl 9); go_must (refine yD rfl 83 _ (.tmp 6) (.tmp 8) rfl 8 3 .i64 .i64 Try.underlying83 Try.underlying3 l5 slots_eqguard _ _ HLx.out HLy.out (by rw [← lK]; rfl) (by rw [← lK]; rfl) _ HB1.out ?_))
      | (go_at_call 60; go_must (refine (sem_equalF B x.sv y.sv w2 (HX.out.keep fun _ hp => HW2.out.cell (Nat.lt_of_lt_of_le hp hB)) (HY.out.keep fun _ hp => HW2.out.cell (Nat.lt_of_lt_of_le hp hB)) b2 HB2.out).mono ?_); rintro e w3 ⟨rfl, hb3⟩; have HW3 := kp (HW2.out.trans (hb3.mono hs2)); clear hb3))
    go_ret
    first
      | exact ⟨jH HE.out, HW3.out⟩
      | exact ⟨jH HE.out, HW2.out⟩
theorem yG {P : Program} {ops : Array Oper} {rest : List Oper} {o : Oper} {a : Act} {w : World} {Q : Exit → Act → World → Prop} (hgd : o.guard = none) (ty : TypeId) (x : Operand) (ho : o.op = .load ty x)
    (ad : Addr) (hx : a.eval x = .pointer (some ad)) (cs : List Value) (d : TypeDesc) (hc : ∀ j v, cs[j]? = some v → w.cell? (ad.add j) = some v)
    (hu : P.underlying ty = some d) (hd : d.isRow = true) (hi : (P.info? ty).map (·.size) = some cs.length)
    (h : wpList P ops Q rest (a.put o.dst (.agg cs.toArray)) w) : wpList P ops Q (o :: rest) a w := by
  refine wpList_plain hgd fun K hK => ?_
  have hl : (loadCells ad cs.length).run P w = .ok cs.toArray w := run_loadCells_list (P := P) w ad cs hc
  have hrun : (loadVar ty ad).run P w = .ok (.agg cs.toArray) w := by
    cases hq : P.info? ty with
    | none => simp [hq] at hi
    | some i =>
      have hs : i.size = cs.length := by simpa [hq] using hi
      have hagg : (isAgg ty).run P w = .ok true w := by
        unfold isAgg
        rw [Sem.run_bind, run_underlying hu w]
        cases d <;> simp_all
      simp [loadVar, Sem.run_bind, hagg, sizeOf, typeInfo, hq, hs, hl]
  unfold Oper.wp execOp
  simp only [ho, hx, Instr.loadAt, Instr.sureAddr, Sem.run_bind, Sem.run_pure, Result.andThen_ok, hrun]
  exact hK _ _ h
theorem tvC_at {x : Tv} (h8 : x.slots.length = 8) {j : Nat} {v : Value} (h : (tvC x)[j]? = some v) : j < 9 ∧ tvV x j = v := by
  have hj : j < 9 := by have := (List.getElem?_eq_some_iff.1 h).1; rw [qM h8] at this; exact this
  refine ⟨hj, ?_⟩
  cases j with
  | zero =>
    simp only [tvC, List.getElem?_cons_zero, Option.some.injEq] at h
    exact h
  | succ j =>
    have hk : j < x.slots.length := by omega
    rw [tvC, List.getElem?_cons_succ, List.getElem?_map, List.getElem?_eq_getElem hk] at h
    show Value.int .i64 ((x.slots.getD j 0 : Nat) : Int) = v
    rw [List.getD_eq_getElem?_getD, List.getElem?_eq_getElem hk]
    exact Option.some.inj h
theorem tvC_ones (x : Tv) : ∀ u ∈ tvC x, u.oneCell' = true := by
  intro u hu
  rcases List.mem_cons.1 hu with rfl | hu
  · rfl
  · obtain ⟨y, _, rfl⟩ := List.mem_map.1 hu
    rfl
set_option maxRecDepth 100000 in
set_option maxHeartbeats 3200000 in
theorem sem_equalT (B : Nat) (q r : Pc) (w : World) (hq : q.Ok w B) (hr : r.Ok w B) (hB : B ≤ w.heap.size) (hq8 : ∀ x ∈ q.tvs, x.slots.length = 8) (hr8 : ∀ x ∈ r.tvs, x.slots.length = 8) (b : Bool) (hb : b = true ↔ q.tvs.map tvT = r.tvs.map tvT) :
    Calls Try.prog 40 #[.slice q.A q.len q.cap, .slice r.A r.len r.cap, .func (.func 41) #[] #[]] w fun e w' => e = .returned (.bool b) ∧ Below w.heap.size w w' := by
  have HQ8 := kp hq8; have HR8 := kp hr8; have HQ := kp hq; have HR := kp hr; have HB := kp hb
  have hqm := hq.cm; have hqc := hq.lc; have hrm := hr.cm; have hrc := hr.lc
  unfold maxLen at hqm hrm
  obtain ⟨n, hn⟩ : ∃ n, q.len = n := ⟨_, rfl⟩
  obtain ⟨m, hm⟩ : ∃ m, r.len = m := ⟨_, rfl⟩
  have HQl : Kept (q.tvs.length = n) := kp (by rw [← hn]; exact hq.row.len)
  have HRl : Kept (r.tvs.length = m) := kp (by rw [← hm]; exact hr.row.len)
  have HQr : Kept (Recs 9 tvV w B q.A n q.tvs) := kp (by rw [← hn]; exact hq.row)
  have HRr : Kept (Recs 9 tvV w B r.A m r.tvs) := kp (by rw [← hm]; exact hr.row)
  rw [hn] at hqc ⊢
  rw [hm] at hrc ⊢
  clear hq hr hb hq8 hr8 hn hm
  by_cases hnm : n = m
  · subst hnm
    go_enter Try.func40, Try.ntmps40
    go_wp2
    go_loopw [17] (fun v17 wr => ∃ i : Nat, i ≤ n ∧ v17 = .int .i64 i ∧ (q.tvs.map tvT).take i = (r.tvs.map tvT).take i ∧ Below w.heap.size w wr) (fun v17 _ => n - (intOf v17).toNat)
    case atStart => exact ⟨0, by omega, rfl, rfl, Below.refl _ _⟩
    case round =>
      obtain ⟨i, hi, rfl, htk, hbl⟩ := hrel
      have HTk := kp htk; have HBl := kp hbl
      have hsw := hbl.size
      clear htk hbl
      by_cases hlt : i < n
      · obtain ⟨ad, x, e1, had, hx, hc⟩ := HQr.out.get hlt
        obtain ⟨ad2, y, e2, had2, hy, hd⟩ := HRr.out.get hlt
        have hxm := List.mem_of_getElem? hx; have hym := List.mem_of_getElem? hy
        have HX8 := kp (HQ8.out x hxm); have HY8 := kp (HR8.out y hym)
        have HXo := kp (HQ.out.svs x hxm); have HYo := kp (HR.out.svs y hym)
        have hE1 : q.A = some ad := e1
        have hE2 : r.A = some ad2 := e2
        have HSn := kp (x7 HTk.out (show (q.tvs.map tvT)[i]? = some (tvT x) by rw [List.getElem?_map, hx]; rfl) (show (r.tvs.map tvT)[i]? = some (tvT y) by rw [List.getElem?_map, hy]; rfl))
        have HNo : Kept (tvT x ≠ tvT y → false = b) := kp (fun h => by
          have h1 : ¬ (q.tvs.map tvT = r.tvs.map tvT) := fun e => by
            have h2 := congrArg (·[i]?) e
            simp only [List.getElem?_map, hx, hy, Option.map_some, Option.some.injEq] at h2
            exact h h2
          cases b
          · rfl
          · exact absurd (HB.out.1 rfl) h1)
        have HCx : Kept (∀ j v, (tvC x)[j]? = some v → wr.cell? ((ad.add (i * 9)).add j) = some v) := kp (fun j v h => by
          obtain ⟨hj, hv⟩ := tvC_at HX8.out h
          rw [qQ, ← hv]
          exact (HBl.out.cell (by rw [j8]; omega)).trans (hc j hj))
        have HCy : Kept (∀ (W : World), Below wr.heap.size wr W → ∀ j v, (tvC y)[j]? = some v → W.cell? ((ad2.add (i * 9)).add j) = some v) := kp (fun W hW j v h => by
          obtain ⟨hj, hv⟩ := tvC_at HY8.out h
          rw [qQ, ← hv]
          exact ((hW.cell (by rw [j8]; omega)).trans (HBl.out.cell (by rw [j8]; omega))).trans (hd j hj))
        rw [hE1, hE2]
        obtain ⟨b1, hb1⟩ : ∃ b1 : Bool, b1 = true ↔ tvT x = tvT y := by
          by_cases h : tvT x = tvT y
          · exact ⟨true, by simp [h]⟩
          · exact ⟨false, by simp [h]⟩
        have HB1 := kp hb1
        clear hx hy hc hd e1 e2 hE1 hE2 hxm hym hb1
        cases b1
        all_goals
          go_wp2_with (first
            | ((with_reducible show Sl 21); go_must (refine yG rfl 89 (.tmp 20) rfl (ad.add (i * 9)) rfl (tvC x) _ HCx.out Try.underlying89 rfl (by rw [qM HX8.out]; exact lQ) ?_))
            | ((with_reducible show Sl 8); go_must (refine j3 rfl 89 rfl _ yI ?_); intro g1 w1 hg1 hk1 hw1; have HK1 := kp hk1; have HL1 := kp hw1; have hs1 := hw1.size; clear hk1 hw1)
            | ((with_reducible show Sn); (refine j4 rfl 89 (.tmp 8) (.tmp 21) rfl g1 (tvC x) rfl rfl _ _ HK1.out (by rw [qM HX8.out]; exact lQ) (by rw [qM HX8.out]; rfl) (tvC_ones x) ?_); intro w2 hk2 hg2 hz2; have HK2 := kp hk2; have HL2 := kp (HL1.out.grown hg2 hs1 (fun k e => by cases e; exact hg1)); have hs2 := HL2.out.size; have hl2 := hk2.lt; have HCy2 := kp (HCy.out w2 HL2.out); clear hk2 hg2 hz2)
            | ((with_reducible show Sl 25); go_must (refine yG rfl 89 (.tmp 24) rfl (ad2.add (i * 9)) rfl (tvC y) _ HCy2.out Try.underlying89 rfl (by rw [qM HY8.out]; exact lQ) ?_))
            | ((with_reducible show Sl 9); go_must (refine j3 rfl 89 rfl _ yI ?_); intro g3 w3 hg3 hk3 hw3; have HK3 := kp hk3; have HK23 := kp (HK2.out.below hw3 hl2); have HL3 := kp (HL2.out.trans (hw3.mono hs2)); have hs3 := HL3.out.size; have hl23 := HK23.out.lt; clear hk3 hw3)
            | ((with_reducible show Sn); (refine j4 rfl 89 (.tmp 9) (.tmp 25) rfl g3 (tvC y) rfl rfl _ _ HK3.out (by rw [qM HY8.out]; exact lQ) (by rw [qM HY8.out]; rfl) (tvC_ones y) ?_); intro w4 hk4 hg4 hz4; have HK4 := kp hk4; have HK24 := kp (HK23.out.grown hg4 (fun e => by cases e; omega)); have HL4 := kp (HL3.out.grown hg4 hs3 (fun k e => by cases e; omega)); have hs4 := HL4.out.size; clear hk4 hg4 hz4)
            | ((with_reducible show Sl 27); go_must (refine j1 rfl 89 (.tmp 8) rfl g1 rfl _ (tvC x) _ HK24.out Try.underlying89 rfl (by rw [qM HX8.out]; exact lQ) ?_))
            | ((with_reducible show Sl 28); go_must (refine j1 rfl 89 (.tmp 9) rfl g3 rfl _ (tvC y) _ HK4.out Try.underlying89 rfl (by rw [qM HY8.out]; exact lQ) ?_))
            | (go_at_call 41; go_must (refine (sem_sameThread B x y w4 (HXo.out.keep fun _ hp => ((HBl.out.trans (HL4.out.mono hsw)).cell (Nat.lt_of_lt_of_le hp hB))) (HYo.out.keep fun _ hp => ((HBl.out.trans (HL4.out.mono hsw)).cell (Nat.lt_of_lt_of_le hp hB))) HX8.out HY8.out (by omega) _ HB1.out).mono ?_); rintro e w5 ⟨rfl, hb5⟩; have HW5 := kp ((HBl.out.trans (HL4.out.mono hsw)).trans (hb5.mono (by have := (HBl.out.trans (HL4.out.mono hsw)).size; omega))); clear hb5))
        · have HE := kp (HNo.out (fun e => absurd (HB1.out.2 e) (by decide)))
          go_ret
          exact ⟨jH HE.out, HW5.out⟩
        · have HN := kp (HSn.out.2 (by first | exact HB1.out.1 rfl | exact HB1.out.1 trivial))
          go_roundw
          case rel => exact ⟨i + 1, by omega, by go_num, HN.out, HW5.out⟩
          case measure => simp [intOf]; omega
      · have hge : n ≤ i := by omega
        have HE : Kept (true = b) := kp (by
          have h := HTk.out
          rw [List.take_of_length_le (by rw [List.length_map, HQl.out]; exact hge), List.take_of_length_le (by rw [List.length_map, HRl.out]; exact hge)] at h
          exact (HB.out.2 h).symm)
        clear hlt
        go_wp2
        go_ret
        exact ⟨jH HE.out, HBl.out⟩
  · have hne : ((n : Int) != (m : Int)) = true := by rw [bne_iff_ne]; omega
    have HE : Kept (false = b) := kp (by
      cases b
      · rfl
      · have h := congrArg List.length (HB.out.1 rfl)
        rw [List.length_map, List.length_map, HQl.out, HRl.out] at h
        exact absurd h hnm)
    clear hnm
    go_enter Try.func40, Try.ntmps40
    go_wp2
    go_ret
    exact ⟨jH HE.out, Below.refl _ _⟩
set_option maxRecDepth 100000 in
set_option maxHeartbeats 1600000 in
theorem sem_same (B : Nat) (q r : Pc) (w : World) (hq : q.Ok w B) (hr : r.Ok w B) (hB : B ≤ w.heap.size) (hq8 : ∀ x ∈ q.tvs, x.slots.length = 8) (hr8 : ∀ x ∈ r.tvs, x.slots.length = 8) (hq16 : q.ow.length = 16) (hr16 : r.ow.length = 16) (b : Bool) (hb : b = true ↔ q.cf = r.cf) :
    Calls Try.prog 24 #[pcA q, pcA r] w fun e w' => e = .returned (.bool b) ∧ Below w.heap.size w w' := by
  have HQ := kp hq; have HR := kp hr; have HQ8 := kp hq8; have HR8 := kp hr8
  have HQ16 := kp hq16; have HR16 := kp hr16
  obtain ⟨b1, hb1⟩ : ∃ b1, decide (q.ow = r.ow) = b1 := ⟨_, rfl⟩
  obtain ⟨b2, hb2⟩ : ∃ b2 : Bool, b2 = true ↔ q.tvs.map tvT = r.tvs.map tvT := by
    by_cases h : q.tvs.map tvT = r.tvs.map tvT
    · exact ⟨true, by simp [h]⟩
    · exact ⟨false, by simp [h]⟩
  have HE : Kept ((b1 && b2) = b) := kp (by
    rw [← hb1, Bool.eq_iff_iff, Bool.and_eq_true, decide_eq_true_eq, hb2, hb]
    unfold Pc.cf
    constructor
    · rintro ⟨h1, h2⟩; rw [h1, h2]
    · intro h
      injection h with h1 h2
      exact ⟨h2, h1⟩)
  have HB1 : Kept (decide (q.ow.map (fun n : Nat => (n : Int)) = r.ow.map (fun n : Nat => (n : Int))) = b1) := kp (by rw [ints_eq, hb1])
  have HB2 := kp hb2
  have HLx : Kept ((q.ow.map (fun n : Nat => (n : Int))).length = 16) := kp (by rw [List.length_map]; exact hq16)
  have HLy : Kept ((r.ow.map (fun n : Nat => (n : Int))).length = 16) := kp (by rw [List.length_map]; exact hr16)
  clear hq hr hq8 hr8 hq16 hr16 hb1 hb2 hb
  rw [lC, lC]
  cases b1
  all_goals
    go_enter Try.func24, Try.ntmps24
    go_wp2_with (first
      | ((with_reducible refine j2 rfl 43 (.tmp 0) rfl (pcC q) rfl ?_); intro g1 w1 hg1 hk1 hw1; have HK1 := kp hk1; have HW1 := kp hw1; have hs1 := hw1.size; have hl1 := hk1.lt; clear hk1 hw1)
      | ((with_reducible refine j2 rfl 43 (.tmp 1) rfl (pcC r) rfl ?_); intro g2 w2 hg2 hk2 hw2; have HK2 := kp hk2; have HK12 := kp (HK1.out.below hw2 hl1); have HW2 := kp (HW1.out.trans (hw2.mono hs1)); have hs2 := HW2.out.size
         have hc1 := HK12.out.cell 0; have hc2 := HK2.out.cell 0
         simp only [pcC, List.getElem?_cons_zero] at hc1 hc2
         have HR1 : Kept (w2.rangeAt g1 1 (q.ow.map natV)) := kp (by have h := HK12.out.range 1 16; unfold pcC at h; rw [List.drop_succ_cons, List.drop_zero, List.take_of_length_le (by rw [List.length_map, HQ16.out]; exact Nat.le_refl _)] at h; exact h)
         have HR2 : Kept (w2.rangeAt g2 1 (r.ow.map natV)) := kp (by have h := HK2.out.range 1 16; unfold pcC at h; rw [List.drop_succ_cons, List.drop_zero, List.take_of_length_le (by rw [List.length_map, HR16.out]; exact Nat.le_refl _)] at h; exact h)
         clear hk2 hw2)
      | ((with_reducible show Sl 6); go_must (refine wpList_load_mid rfl 41 (.tmp 5) rfl g1 1 rfl _ _ HR1.out Try.underlying41 rfl (by rw [List.length_map, HQ16.out]; exact lR) ?_))
      | ((with_reducible show Sl 8); go_must (refine wpList_load_mid rfl 41 (.tmp 7) rfl g2 1 rfl _ _ HR2.out Try.underlying41 rfl (by rw [List.length_map, HR16.out]; exact lR) ?_))
      | ((with_reducible show Sl 9); go_must (refine yD rfl 41 _ (.tmp 6) (.tmp 8) rfl 16 3 .i64 .i64 Try.underlying41 Try.underlying3 l5 xE _ _ HLx.out HLy.out (by rw [← lK]; rfl) (by rw [← lK]; rfl) _ HB1.out ?_))
      | (go_at_call 40; go_must (refine (sem_equalT B q r w2 (HQ.out.keep fun _ hp => HW2.out.cell (Nat.lt_of_lt_of_le hp hB)) (HR.out.keep fun _ hp => HW2.out.cell (Nat.lt_of_lt_of_le hp hB)) (by omega) HQ8.out HR8.out b2 HB2.out).mono ?_); rintro e w3 ⟨rfl, hb3⟩; have HW3 := kp (HW2.out.trans (hb3.mono hs2)); clear hb3))
    go_ret
    first
      | exact ⟨jH HE.out, HW3.out⟩
      | exact ⟨jH HE.out, HW2.out⟩
def Fact.stepped (K : Nat) (c : M.Cf) : Fact :=
  ⟨fun v W => ∃ q', v = pcA q' ∧ Mine W K q' ∧ q'.cf = c, fun _ _ _ hb ⟨q', h1, h2, h3⟩ => ⟨q', h1, h2.below hb (Nat.le_refl _), h3⟩⟩
theorem conf_cell {w : World} {g : Nat} {q : Pc} (h : Blk w g 43 (pcC q)) : w.cell? ⟨g, 0, none⟩ = some (.slice q.A q.len q.cap) := h.cell 0
theorem OwnR.typed {α : Type} {sz : Nat} {f : α → Nat → Value} {w : World} {B b : Nat} {e t : TypeId} {v : Value} {l : List α} {cs : List Value} (h : OwnR sz f w B e v l) (hb : Blk w b t cs) (hne : e ≠ t) : v.ownBlock ≠ some b := by
  intro hv
  rcases h.2 with ⟨rfl, _⟩ | ⟨g, cap, cur, rfl, _, hg, _⟩
  · cases hv
  · injection hv with hv
    have hv : g = b := hv
    subst hv
    unfold Blk at hb
    rw [hg] at hb
    injection hb with hb
    injection hb with _ h2
    exact hne h2
theorem Mine.typed {w w' : World} {B g : Nat} {q : Pc} {cs : List Value} (h : Mine w B q) (hb : Blk w g 43 cs) (hg : w.grownBy w' (some g)) : Mine w' B q :=
  h.far hg (fun b hv e => h.row.typed hb (by decide) (by rw [hv, e])) (fun k y b hy hv e => (h.fam.own k y hy).typed hb (by decide) (by rw [hv, e]))
theorem Picks.pick {w : World} {B : Nat} {A : Option Addr} {n : Nat} {l : List (Int × Bool)} (h : Picks w B A n l) {i : Nat} (hi : i < n) :
    ∃ ad x, A = some ad ∧ ad.block < B ∧ l[i]? = some x ∧ I64 x.1 ∧ w.cell? (ad.add (i * 2)) = some (.int .i64 x.1) ∧ w.cell? ⟨(ad.add (i * 2)).block, (ad.add (i * 2)).off + 1, none⟩ = some (.bool x.2) := by
  obtain ⟨ad, x, hA, hb, hx, hc0, hc1⟩ := h.1.field hi
  exact ⟨ad, x, hA, hb, hx, h.2 x (List.mem_of_getElem? hx), hc0 (by omega), hc1 1 (by omega) (by omega)⟩
end Go.Proofs.Ytkhfolpffjihgaa
namespace Go.Proofs.Ytkhfolpffjihgaa.M
def acc (p : Pg) (c : Cf) (t : Int) : Int × Int :=
  if lives c t = true ∧ ((node p c t.toNat).kind = 1 ∨ (node p c t.toNat).kind = 2) then ((node p c t.toNat).arg, (node p c t.toNat).kind) else (0, 0)
def pair (p : Pg) (c : Cf) (a b g : Int) : Bool := decide (a ≠ b ∧ 0 < (acc p c a).2 ∧ 0 < (acc p c b).2 ∧ (acc p c a).1 = (acc p c b).1 ∧ (acc p c a).1 = g ∧ 2 < (acc p c a).2 + (acc p c b).2)
theorem acc_two (p : Pg) (c : Cf) (t : Int) : (acc p c t).2 = 0 ∨ (acc p c t).2 = 1 ∨ (acc p c t).2 = 2 := by
  unfold acc
  split
  · rename_i h
    exact .inr h.2
  · exact .inl rfl
theorem pair_is {p : Pg} {c : Cf} {a b g : Int} : pair p c a b g = true ↔ (a ≠ b ∧ 0 < (acc p c a).2 ∧ 0 < (acc p c b).2 ∧ (acc p c a).1 = (acc p c b).1 ∧ (acc p c a).1 = g ∧ 2 < (acc p c a).2 + (acc p c b).2) := by unfold pair; rw [decide_eq_true_eq]
def NoPair (p : Pg) (c : Cf) (a b : Nat) : Prop := pair p c (a : Int) (b : Int) (acc p c (a : Int)).1 = false
def FirstIs (p : Pg) (c : Cf) (x y z h : Int) : Prop :=
  (h = 1 ∧ ∃ a b : Nat, x = a ∧ y = b ∧ z = (acc p c (a : Int)).1 ∧ a < b ∧ b < c.ths.length ∧ ¬ NoPair p c a b ∧ ∀ a' b', a' < b' → b' < c.ths.length → (a' < a ∨ a' = a ∧ b' < b) → NoPair p c a' b') ∨
  (h = 0 ∧ x = 0 ∧ y = 0 ∧ z = 0 ∧ ∀ a' b', a' < b' → b' < c.ths.length → NoPair p c a' b')
theorem first_one {p : Pg} {c : Cf} {x y z h x' y' z' h' : Int} (h1 : FirstIs p c x y z h) (h2 : FirstIs p c x' y' z' h') : x = x' ∧ y = y' ∧ z = z' ∧ h = h' := by
  rcases h1 with ⟨e1, a, b, ea, eb, ez, hab, hbn, hp, hm⟩ | ⟨e1, ex, ey, ez, hn⟩
  · rcases h2 with ⟨e2, a', b', ea', eb', ez', hab', hbn', hp', hm'⟩ | ⟨e2, _, _, _, hn'⟩
    · have h3 : a = a' ∧ b = b' := by
        rcases Nat.lt_trichotomy a a' with h | h | h
        · exact absurd (hm' a b hab hbn (.inl h)) hp
        · rcases Nat.lt_trichotomy b b' with g | g | g
          · exact absurd (hm' a b hab hbn (.inr ⟨h, g⟩)) hp
          · exact ⟨h, g⟩
          · exact absurd (hm a' b' hab' hbn' (.inr ⟨h.symm, g⟩)) hp'
        · exact absurd (hm a' b' hab' hbn' (.inl h)) hp'
      obtain ⟨rfl, rfl⟩ := h3
      exact ⟨by rw [ea, ea'], by rw [eb, eb'], by rw [ez, ez'], by rw [e1, e2]⟩
    · exact absurd (hn' a b hab hbn) hp
  · rcases h2 with ⟨_, a', b', _, _, _, hab', hbn', hp', _⟩ | ⟨e2, ex', ey', ez', _⟩
    · exact absurd (hn a' b' hab' hbn') hp'
    · exact ⟨by rw [ex, ex'], by rw [ey, ey'], by rw [ez, ez'], by rw [e1, e2]⟩
end Go.Proofs.Ytkhfolpffjihgaa.M
