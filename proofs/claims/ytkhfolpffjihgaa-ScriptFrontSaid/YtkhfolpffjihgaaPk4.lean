/- ProgRef1, ProgRef3, Parts, in one text. -/
import Derived.Test.YtkhfolpffjihgaaPk3
import Derived.Laws.StructEq
import Derived.Test.YtkhfolpffjihgaaPk1
import Derived.Orders
namespace Go.Proofs.Ytkhfolpffjihgaa
open Go.RowKit
theorem jO (p : Pg) : pgA p = .agg (pgC p).toArray := rfl
def ndC (x : Nd) : List Value := [.int .i64 x.kind, .int .i64 x.arg, .int .i64 x.next, .int .i64 x.alt]
theorem jL {w : World} {g : Nat} {t : TypeId} {p : Pg} (h : Blk w g t (pgC p)) :
    w.cell? ⟨g, 0, none⟩ = some (.int .i64 p.g) ∧ w.cell? ⟨g, 1, none⟩ = some (.int .i64 p.l) ∧ w.cell? ⟨g, 2, none⟩ = some (.int .i64 p.s) ∧ w.cell? ⟨g, 3, none⟩ = some (.slice p.A p.len p.cap) :=
  ⟨Blk.cell h 0, Blk.cell h 1, Blk.cell h 2, Blk.cell h 3⟩
theorem jQ {w : World} {g : Nat} {t : TypeId} {x : Nd} (h : Blk w g t (ndC x)) :
    w.cell? ⟨g, 0, none⟩ = some (.int .i64 x.kind) ∧ w.cell? ⟨g, 1, none⟩ = some (.int .i64 x.arg) ∧ w.cell? ⟨g, 2, none⟩ = some (.int .i64 x.next) ∧ w.cell? ⟨g, 3, none⟩ = some (.int .i64 x.alt) :=
  ⟨Blk.cell h 0, Blk.cell h 1, Blk.cell h 2, Blk.cell h 3⟩
set_option maxRecDepth 100000 in
set_option maxHeartbeats 800000 in
theorem vO (B : Nat) (p : Pg) (w : World) (hp : p.Ok w B) (hB : B ≤ w.heap.size) (r : Bool) (hr : Q.small p = r) :
    Calls Try.prog 12 #[pgA p] w fun e w' => e = .returned (.bool r) ∧ Below w.heap.size w w' := by
  have HP := kp hp; have HR := kp hr
  have hlen := hp.row.len
  have HLen := kp hlen
  have hlc := hp.lc; have hcm := hp.cm
  unfold maxLen at hcm
  have hcm2 : p.cap ≤ 9223372036854775807 := by omega
  clear hp hr hlen hcm
  rw [jO]
  go_enter Try.func12, Try.ntmps12
  by_cases h40 : 40 < p.len
  · have HE : Kept (false = r) := kp <| by rw [← HR.out]; unfold Q.small; rw [HLen.out, decide_eq_false (by omega)]; rfl
    go_wp2_with ((with_reducible refine j2 rfl 38 (.tmp 0) rfl (pgC p) rfl ?_); intro g1 w1 hg1 hk1 hw1; obtain ⟨hc0, hc1, hc2, hc3⟩ := jL hk1; have HW1 := kp hw1; clear hg1 hk1 hw1)
    go_ret
    exact ⟨jH HE.out, HW1.out⟩
  · have h40' : p.len ≤ 40 := by omega
    clear h40
    go_wp2_with ((with_reducible refine j2 rfl 38 (.tmp 0) rfl (pgC p) rfl ?_); intro g1 w1 hg1 hk1 hw1; obtain ⟨hc0, hc1, hc2, hc3⟩ := jL hk1; have HW1 := kp hw1; have HP1 := kp (HP.out.below (hw1.mono hB)); clear hg1 hk1 hw1)
    go_loop [3] (fun v3 => ∃ i : Nat, i ≤ p.len ∧ v3 = .int .i64 i ∧ ((p.fns.take i).all fun f => decide (f.nodes.length ≤ 100)) = true) (fun v3 => p.len - (intOf v3).toNat)
    case atStart => exact ⟨0, by omega, rfl, rfl⟩
    case round =>
      obtain ⟨i, hi, rfl, hall⟩ := hrel
      have HAll := kp hall
      clear hall
      by_cases hlt : i < p.len
      · obtain ⟨ad, f, e1, hab, hx, hok, hcf⟩ := HP1.out.fn hlt
        rw [e1] at hc3 ⊢
        have hfl := hok.nodes.1.len
        have hfc := hok.lc; have hfm := hok.cm
        unfold maxLen at hfm
        have hfm2 : f.len ≤ 9223372036854775807 := by omega
        have HN : Kept (((p.fns.take (i + 1)).all fun f => decide (f.nodes.length ≤ 100)) = decide (f.len ≤ 100)) := kp <| by rw [List.take_add_one, hx, List.all_append, HAll.out]; simp [hfl]
        have HNo : Kept (100 < f.len → false = r) := kp fun h => by
          rw [← HR.out]
          unfold Q.small
          have : (p.fns.all fun f => decide (f.nodes.length ≤ 100)) = false := by
            rw [List.all_eq_false]
            exact ⟨f, List.mem_of_getElem? hx, by simp [hfl]; omega⟩
          rw [this, Bool.and_false]
        clear hx hok hfm
        by_cases h100 : 100 < f.len
        · have HE := kp (HNo.out h100)
          go_wp2
          go_ret
          exact ⟨jH HE.out, HW1.out⟩
        · have h100' : f.len ≤ 100 := by omega
          clear h100
          go_wp2
          go_round
          case rel => exact ⟨i + 1, by omega, by go_num, by rw [HN.out]; simpa using h100'⟩
          case measure => simp [intOf]; omega
      · have HE : Kept (true = r) := kp <| by
          have h1 := HAll.out
          rw [List.take_of_length_le (by rw [HLen.out]; omega)] at h1
          rw [← HR.out]; unfold Q.small; rw [HLen.out, decide_eq_true h40', h1]; rfl
        have hge : p.len ≤ i := by omega
        clear hlt
        go_wp2
        go_ret
        exact ⟨jH HE.out, HW1.out⟩
structure Fact where
  holds : Value → World → Prop
  stays : ∀ v w w', Below w.heap.size w w' → holds v w → holds v w'
def Fact.any : Fact := ⟨fun _ _ => True, fun _ _ _ _ h => h⟩
def Fact.is (c : Value) : Fact := ⟨fun v _ => v = c, fun _ _ _ _ h => h⟩
def slotOf (o : Oper) (a : Act) : Value := match o.dst with
  | some d => a.tmps.getD d undef
  | none => undef
def PartPost (D : List Deferred) (W : World) (o : Oper) (R : Fact) : Exit → Act → World → Prop
  | .normal, a, w => a.defers = D ∧ Below W.heap.size W w ∧ R.holds (slotOf o a) w
  | _, _, _ => False
def factAt (R : List Fact) (i : Nat) : Fact := R.getD i .any
def given (R : List Fact) (W : World) (G : Act → Prop) : List (Nat × Nat) → Act → Prop
  | [], a => G a
  | p :: ps, a => ∀ v, (factAt R p.1).holds v W → given R W G ps (a.put (some p.2) v)
def fill (a : Act) : List (Nat × Nat) → Act → Act
  | [], b => b
  | p :: ps, b => fill a ps (b.put (some p.2) (a.tmps.getD p.2 undef))
theorem yA {R : List Fact} {W : World} {G : Act → Prop} {a : Act} : ∀ (ps : List (Nat × Nat)) (b : Act), given R W G ps b → (∀ p ∈ ps, (factAt R p.1).holds (a.tmps.getD p.2 undef) W) → G (fill a ps b)
  | [], _, h, _ => h
  | p :: ps, _, h, hp => yA ps _ (h _ (hp p (List.mem_cons_self))) fun q hq => hp q (List.mem_cons_of_mem _ hq)
theorem zZ (b : Act) (d : Option Tmp) (v : Value) : (b.put d v).tmps.size = b.tmps.size := by cases d <;> simp [Act.put]
theorem yZ (b : Act) (d : Option Tmp) (v : Value) : (b.put d v).defers = b.defers := by cases d <;> rfl
theorem vT (a : Act) : ∀ (ps : List (Nat × Nat)) (b : Act), (fill a ps b).tmps.size = b.tmps.size
  | [], _ => rfl
  | _ :: ps, b => (vT a ps _).trans (zZ b _ _)
theorem xY (a : Act) : ∀ (ps : List (Nat × Nat)) (b : Act), (fill a ps b).defers = b.defers
  | [], _ => rfl
  | _ :: ps, b => (xY a ps _).trans (yZ b _ _)
theorem xR (b : Act) (d t : Nat) (v : Value) : (b.put (some d) v).tmps[t]? = if d = t ∧ t < b.tmps.size then some v else b.tmps[t]? := by
  simp only [Act.put, Array.getElem?_setIfInBounds]
  by_cases h : d = t
  · subst h
    by_cases h1 : d < b.tmps.size
    · simp [h1]
    · simp [h1]
  · simp [h]
theorem zE (a : Act) : ∀ (ps : List (Nat × Nat)) (b : Act) (t : Nat), (fill a ps b).tmps[t]? = if t ∈ ps.map (·.2) ∧ t < b.tmps.size then some (a.tmps.getD t undef) else b.tmps[t]?
  | [], b, t => by simp [fill]
  | p :: ps, b, t => by
    rw [fill, zE a ps _ t, zZ, xR]
    by_cases h1 : t ∈ ps.map (·.2) <;> by_cases h2 : t < b.tmps.size <;> by_cases h3 : p.2 = t
    all_goals first
      | (subst h3; simp [h1, h2]; done)
      | (have h4 : ¬ t = p.2 := fun e => h3 e.symm
         simp [h1, h2, h3, h4])
def isSelect : Op → Bool
  | .select _ _ => true
  | _ => false
theorem isSelect_of {op : Op} (h : isSelect op = false) : ∀ cs b, op ≠ .select cs b := by
  rintro cs b rfl; cases h
def waits (o : Oper) : List Nat := (o.after.toList.filter fun e => Region.binds .any e).map (·.on)
def opOk (ops : Array Oper) (D : List (List (Nat × Nat))) (every : List (Nat × Nat)) (N i : Nat) (o : Oper) : Bool :=
  !isSelect o.op && (waits o).all (fun j => decide (j < i)) &&
  (match o.dst with
   | some d => decide (d < N) && every.contains (i, d) && (List.range ops.size).all (fun j => decide (j = i) || ((ops[j]?).bind (·.dst)) != some d)
   | none => true) &&
  (D.getD i []).all (fun p => ((ops[p.1]?).bind (·.dst)) == some p.2 && (waits o).contains p.1) &&
  (o.looksAt ops).all (fun t => (List.range ops.size).all fun j => ((ops[j]?).bind (·.dst)) != some t || (D.getD i []).contains (j, t) || ((ops[j]?).map fun oj => (waits oj).contains i).getD false)
def partsOk (ops : Array Oper) (D : List (List (Nat × Nat))) (every : List (Nat × Nat)) (N : Nat) : Bool :=
  (List.range ops.size).all (fun i => ((ops[i]?).map (opOk ops D every N i)).getD false) && every.all (fun p => ((ops[p.1]?).bind (·.dst)) == some p.2)
structure OpOk (ops : Array Oper) (D : List (List (Nat × Nat))) (every : List (Nat × Nat)) (N i : Nat) (o : Oper) : Prop where
  sel : ∀ cs b, o.op ≠ .select cs b
  back : ∀ e ∈ o.after, Region.binds .any e = true → e.on < i
  dst : ∀ d, o.dst = some d → d < N ∧ (i, d) ∈ every ∧ ∀ j oj, ops[j]? = some oj → j ≠ i → oj.dst ≠ some d
  deps : ∀ p ∈ D.getD i [], (∃ oj, ops[p.1]? = some oj ∧ oj.dst = some p.2) ∧ ∃ e ∈ o.after, Region.binds .any e = true ∧ e.on = p.1
  looks : ∀ t ∈ o.looksAt ops, ∀ j oj, ops[j]? = some oj → oj.dst = some t → (j, t) ∈ D.getD i [] ∨ ∃ e ∈ oj.after, Region.binds .any e = true ∧ e.on = i
theorem zC {o : Oper} {j : Nat} : j ∈ waits o ↔ ∃ e ∈ o.after, Region.binds .any e = true ∧ e.on = j := by
  simp only [waits, List.mem_map, List.mem_filter, Array.mem_toList_iff]
  constructor
  · rintro ⟨e, ⟨h1, h2⟩, h3⟩; exact ⟨e, h1, h2, h3⟩
  · rintro ⟨e, h1, h2, h3⟩; exact ⟨e, ⟨h1, h2⟩, h3⟩
theorem OpOk.of {ops : Array Oper} {D : List (List (Nat × Nat))} {every : List (Nat × Nat)} {N i : Nat} {o : Oper} (h : opOk ops D every N i o = true) : OpOk ops D every N i o := by
  unfold opOk at h
  simp only [Bool.and_eq_true] at h
  obtain ⟨⟨⟨⟨h1, h2⟩, h3⟩, h4⟩, h5⟩ := h
  refine ⟨isSelect_of (by simpa using h1), fun e he hb => ?_, fun d hd => ?_, fun p hp => ?_, fun t ht j oj hj hd => ?_⟩
  · have := List.all_eq_true.1 h2 e.on (zC.2 ⟨e, he, hb, rfl⟩)
    simpa using this
  · rw [hd] at h3
    simp only [Bool.and_eq_true, decide_eq_true_eq, List.contains_iff_mem] at h3
    refine ⟨h3.1.1, h3.1.2, fun j oj hj hne => ?_⟩
    have hlt : j < ops.size := (Array.getElem?_eq_some_iff.1 hj).1
    have := List.all_eq_true.1 h3.2 j (List.mem_range.2 hlt)
    rw [hj] at this
    simpa [hne] using this
  · have := List.all_eq_true.1 h4 p hp
    simp only [Bool.and_eq_true, beq_iff_eq, List.contains_iff_mem] at this
    refine ⟨?_, zC.1 this.2⟩
    obtain ⟨oj, h6, h7⟩ := Option.bind_eq_some_iff.1 this.1
    exact ⟨oj, h6, h7⟩
  · have hlt : j < ops.size := (Array.getElem?_eq_some_iff.1 hj).1
    have := List.all_eq_true.1 (List.all_eq_true.1 h5 t ht) j (List.mem_range.2 hlt)
    rw [hj] at this
    simp only [Option.bind_some, hd, bne_self_eq_false, Bool.false_or, Option.map_some, Option.getD_some, Bool.or_eq_true, List.contains_iff_mem] at this
    rcases this with h | h
    · exact .inl h
    · exact .inr (zC.1 h)
section
variable {P : Program} {ops : Array Oper} {Q : Exit → Act → World → Prop} {a0 : Act} {w : World} {R : List Fact} {D : List (List (Nat × Nat))} {every : List (Nat × Nat)}
structure PInv (ops : Array Oper) (R : List Fact) (a0 : Act) (w : World) (listed : Array Bool) (a : Act) (W : World) : Prop where
  size : listed.size = ops.size
  ext : Below w.heap.size w W
  defs : a.defers = a0.defers
  tsz : a.tmps.size = a0.tmps.size
  got : ∀ j oj d, ops[j]? = some oj → oj.dst = some d → listed.getD j false = true → (factAt R j).holds (a.tmps.getD d undef) W
  old : ∀ t, (∀ j oj, ops[j]? = some oj → oj.dst = some t → listed.getD j false = false) → a.tmps[t]? = a0.tmps[t]?
  shut : ∀ j oj, ops[j]? = some oj → listed.getD j false = true → ∀ e ∈ oj.after, Region.binds .any e = true → listed.getD e.on false = true
theorem vE (a : Act) (t : Nat) (h : t < a.tmps.size) : a.tmps[t]? = some (a.tmps.getD t undef) := by
  simp [h]
theorem zF : ∀ (l : List Bool) (i : Nat), l[i]? = some false → (l.set i true).count false + 1 = l.count false
  | [], i, h => by simp at h
  | b :: l, 0, h => by
    simp at h; subst h
    simp
  | b :: l, i + 1, h => by
    have := zF l i (by simpa using h)
    cases b <;> simp <;> omega
theorem zP (hok : ∀ i o, ops[i]? = some o → OpOk ops D every a0.tmps.size i o) {listed : Array Bool} (hs : listed.size = ops.size) (hr : Region.ready .any ops listed = []) :
    ∀ j, j < ops.size → listed.getD j false = true := by
  intro j
  induction j using Nat.strongRecOn with
  | _ j ih =>
    intro hj
    cases hl : listed.getD j false
    · exfalso
      have hl2 : listed.getD j true = false := by
        have : j < listed.size := by omega
        simp [this] at hl ⊢; exact hl
      have hm : j ∈ Region.ready .any ops listed := mem_ready.2 ⟨hl2, ops[j], Array.getElem?_eq_getElem hj, fun e he hb =>
        have hlt := (hok j _ (Array.getElem?_eq_getElem hj)).back e he hb
        ih e.on hlt (by omega)⟩
      rw [hr] at hm
      cases hm
    · rfl
theorem PInv.step {listed : Array Bool} {a : Act} {W W' : World} {i : Nat} {o : Oper} {v : Value} (h : PInv ops R a0 w listed a W) (hi : ops[i]? = some o) (hok : OpOk ops D every a0.tmps.size i o)
    (hr : i ∈ Region.ready .any ops listed) (hb : Below W.heap.size W W') (hv : ∀ d, o.dst = some d → (factAt R i).holds v W') : PInv ops R a0 w (listed.setIfInBounds i true) (a.put o.dst v) W' := by
  obtain ⟨hl, o', ho', hall⟩ := mem_ready.1 hr
  have hoo : o' = o := by rw [hi] at ho'; cases ho'; rfl
  subst hoo
  have hilt : i < ops.size := (Array.getElem?_eq_some_iff.1 hi).1
  have hii : (listed.setIfInBounds i true).getD i false = true := by
    have : i < listed.size := by rw [h.size]; exact hilt
    simp [this]
  refine ⟨by simp [h.size], h.ext.trans (hb.mono h.ext.size), (yZ _ _ _).trans h.defs, (zZ _ _ _).trans h.tsz, fun j oj d hj hd hlj => ?_, fun t ht => ?_, fun j oj hj hlj e he hbe => ?_⟩
  · by_cases hji : j = i
    · subst hji
      have : oj = o' := by rw [hi] at hj; cases hj; rfl
      subst this
      have hlt := (hok.dst d hd).1
      rw [hd]
      have e1 : (a.put (some d) v).tmps.getD d undef = v := by
        have := xR a d d v
        rw [if_pos ⟨rfl, by rw [h.tsz]; exact hlt⟩] at this
        simp [Array.getD_eq_getD_getElem?, this]
      rw [e1]
      exact hv d hd
    · have h1 := h.got j oj d hj hd (by rw [getD_set_ne false (Ne.symm hji)] at hlj; exact hlj)
      have e1 : (a.put o'.dst v).tmps.getD d undef = a.tmps.getD d undef := by
        cases hod : o'.dst with
        | none => rfl
        | some d' =>
          have hne : d' ≠ d := fun e => (hok.dst d' hod).2.2 j oj hj hji (by rw [e]; exact hd)
          have := xR a d' d v
          rw [if_neg (fun hh => hne hh.1)] at this
          simp [Array.getD_eq_getD_getElem?, this]
      rw [e1]
      exact (factAt R j).stays _ _ _ hb h1
  · have h1 := h.old t fun j oj hj hd => by
      have := ht j oj hj hd
      by_cases hji : j = i
      · subst hji; rw [hii] at this; cases this
      · rwa [getD_set_ne false (Ne.symm hji)] at this
    cases hod : o'.dst with
    | none => exact h1
    | some d' =>
      have hne : d' ≠ t := fun e => by
        have := ht i o' hi (by rw [hod, e])
        rw [hii] at this; cases this
      rw [xR, if_neg (fun hh => hne hh.1)]
      exact h1
  · by_cases hji : j = i
    · subst hji
      have : oj = o' := by rw [hi] at hj; cases hj; rfl
      subst this
      exact getD_set_true (hall e he hbe)
    · rw [getD_set_ne false (Ne.symm hji)] at hlj
      exact getD_set_true (h.shut j oj hj hlj e he hbe)
theorem part_one {listed : Array Bool} {a : Act} {W : World} {K : Act → World → Prop} {i : Nat} {o : Oper} (hi : ops[i]? = some o) (ok : OpOk ops D every a0.tmps.size i o)
    (hob : ∀ W, Below w.heap.size w W → given R W (fun a1 => wpList P ops (PartPost a0.defers W o (factAt R i)) [o] a1 W) (D.getD i []) a0)
    (h : PInv ops R a0 w listed a W) (hr : i ∈ Region.ready .any ops listed) (hK : ∀ a' W', PInv ops R a0 w (listed.setIfInBounds i true) a' W' → K a' W') : wpOp P ops Q i K a W := by
  obtain ⟨hl, o', hi', hall'⟩ := mem_ready.1 hr
  have hall : ∀ e ∈ o.after, Region.binds .any e = true → listed.getD e.on false = true := by
    rw [hi] at hi'; cases hi'; exact hall'
  have hlf : listed.getD i false = false := by
    have : i < listed.size := by rw [h.size]; exact (Array.getElem?_eq_some_iff.1 hi).1
    simp [this] at hl ⊢; exact hl
  have hg := yA (a := a) (D.getD i []) a0 (hob W h.ext) fun p hp => by
    obtain ⟨⟨oj, hj, hd⟩, e, he, hb, hon⟩ := ok.deps p hp
    exact h.got p.1 oj p.2 hj hd (by rw [← hon]; exact hall e he hb)
  generalize ha1 : fill a (D.getD i []) a0 = a1 at hg
  have agree : ∀ t ∈ o.looksAt ops, a.tmps[t]? = a1.tmps[t]? := by
    intro t ht
    rw [← ha1, zE]
    by_cases hc : t ∈ (D.getD i []).map (·.2) ∧ t < a0.tmps.size
    · rw [if_pos hc, vE a t (by rw [h.tsz]; exact hc.2)]
    · rw [if_neg hc]
      by_cases htl : t < a0.tmps.size
      · refine h.old t fun j oj hj hd => ?_
        rcases ok.looks t ht j oj hj hd with hin | ⟨e, he, hb, hon⟩
        · exact absurd ⟨List.mem_map.2 ⟨(j, t), hin, rfl⟩, htl⟩ hc
        · cases hlj : listed.getD j false
          · rfl
          · have := h.shut j oj hj hlj e he hb
            rw [hon, hlf] at this; cases this
      · have n1 : a.tmps[t]? = none := Array.getElem?_eq_none (by rw [h.tsz]; exact Nat.le_of_not_lt htl)
        have n2 : a0.tmps[t]? = none := Array.getElem?_eq_none (Nat.le_of_not_lt htl)
        rw [n1, n2]
  have hex : execOp a1.eval o = execOp a.eval o := execOp_congr o ok.sel fun x hx => by
    cases x with
    | tmp t =>
      have := agree t (List.mem_append_left _ (List.mem_filterMap.2 ⟨.tmp t, by simpa using hx, rfl⟩))
      simp [Act.eval, Array.getD_eq_getD_getElem?, this]
    | _ => rfl
  have hwt : Region.wanted o (yielded ops a1.tmps) = Region.wanted o (yielded ops a.tmps) := by
    unfold Region.wanted
    cases hgd : o.guard with
    | none => rfl
    | some gw =>
      obtain ⟨g, want⟩ := gw
      have hy : yielded ops a1.tmps g = yielded ops a.tmps g := by
        unfold yielded
        cases ht : (ops[g]?).bind (·.dst) with
        | none => rfl
        | some t =>
          have := agree t (by simp [Oper.looksAt, hgd, ht])
          simp [this]
      simp only [hy]
  have hsl : ∀ v d, o.dst = some d → slotOf o (a1.put o.dst v) = v := by
    intro v d hd
    have hlt := (ok.dst d hd).1
    have := xR a1 d d v
    rw [if_pos ⟨rfl, by rw [← ha1, vT]; exact hlt⟩] at this
    simp [slotOf, hd, Array.getD_eq_getD_getElem?, this]
  have done : ∀ v W', PartPost a0.defers W o (factAt R i) .normal (a1.put o.dst v) W' → K (a.put o.dst v) W' := by
    rintro v W' ⟨_, hb, hv⟩
    refine hK _ _ (h.step hi ok hr hb fun d hd => ?_)
    rw [hsl v d hd] at hv
    exact hv
  unfold wpOp
  simp only [hi]
  rw [← hwt]
  unfold wpList at hg
  by_cases hw : Region.wanted o (yielded ops a1.tmps) = true
  · rw [if_pos hw] at hg ⊢
    rcases hg with hg | ⟨_, _, _, hf⟩
    case inr => exact hf.elim
    refine .inl ?_
    unfold Oper.wp at hg ⊢
    rw [hex] at hg
    generalize (execOp a.eval o).run P W = r at *
    cases r with
    | ok n w' =>
      cases n <;> simp only [Oper.upon] at hg ⊢
      case value v => exact done v w' hg
      case skip => exact done undef w' hg
      case defer d =>
        obtain ⟨hd, _⟩ := hg
        rw [yZ] at hd
        have e1 : a1.defers = a0.defers := by rw [← ha1]; exact xY _ _ _
        simp only [e1] at hd
        exact absurd hd (by simp)
      case enter f args =>
        refine Calls.mono hg fun e w'' he => ?_
        cases e with
        | returned v => exact done v w'' he
        | panicked c => exact he.elim
        | outgrown => obtain ⟨_, _, hf⟩ := he; exact hf.elim
      case row row args => exact Rows.mono hg fun v w'' he => done v w'' he
    | halt x w' =>
      cases x <;> simp only [Oper.upon] at hg ⊢
      case panic v => exact hg.elim
  · rw [if_neg hw] at hg ⊢
    exact done undef W hg
theorem parts_any (hok : ∀ i o, ops[i]? = some o → OpOk ops D every a0.tmps.size i o) (hev : ∀ p ∈ every, ∃ oj, ops[p.1]? = some oj ∧ oj.dst = some p.2)
    (hob : ∀ i o, ops[i]? = some o → ∀ W, Below w.heap.size w W → given R W (fun a1 => wpList P ops (PartPost a0.defers W o (factAt R i)) [o] a1 W) (D.getD i []) a0)
    (hend : ∀ W, Below w.heap.size w W → given R W (fun a => Q .normal a W) every a0) :
    ∀ (fuel : Nat) (listed : Array Bool) (a : Act) (W : World), PInv ops R a0 w listed a W → listed.toList.count false ≤ fuel → wpAny P .any ops Q fuel listed a W := by
  have fin : ∀ (listed : Array Bool) (a : Act) (W : World), PInv ops R a0 w listed a W → (∀ j, j < ops.size → listed.getD j false = true) → Q .normal a W := by
    intro listed a W h hall
    have h1 := yA (a := a) every a0 (hend W h.ext) fun p hp => by
      obtain ⟨oj, hj, hd⟩ := hev p hp
      exact h.got p.1 oj p.2 hj hd (hall p.1 (Array.getElem?_eq_some_iff.1 hj).1)
    have e1 : fill a every a0 = a := by
      have e2 : (fill a every a0).tmps = a.tmps := by
        apply Array.ext_getElem?
        intro t
        rw [zE]
        by_cases hc : t ∈ every.map (·.2) ∧ t < a0.tmps.size
        · rw [if_pos hc, vE a t (by rw [h.tsz]; exact hc.2)]
        · rw [if_neg hc]
          by_cases ht : t < a0.tmps.size
          · refine (h.old t fun j oj hj hd => ?_).symm
            exfalso
            exact hc ⟨List.mem_map.2 ⟨(j, t), ((hok j oj hj).dst t hd).2.1, rfl⟩, ht⟩
          · rw [Array.getElem?_eq_none (by omega), Array.getElem?_eq_none (by rw [h.tsz]; omega)]
      have e3 := (xY a every a0).trans h.defs.symm
      cases hf : fill a every a0
      cases a
      rw [hf] at e2 e3
      simp only at e2 e3
      rw [e2, e3]
    rw [e1] at h1
    exact h1
  have one : ∀ (fuel : Nat) (listed : Array Bool) (a : Act) (W : World) (K : Act → World → Prop) (i : Nat), PInv ops R a0 w listed a W → i ∈ Region.ready .any ops listed →
      (∀ a' W', PInv ops R a0 w (listed.setIfInBounds i true) a' W' → K a' W') → wpOp P ops Q i K a W := by
    intro fuel listed a W K i h hr hK
    obtain ⟨_, o, hi, _⟩ := mem_ready.1 hr
    exact part_one hi (hok i o hi) (hob i o hi) h hr hK
  intro fuel
  induction fuel with
  | zero =>
    intro listed a W h hc
    have hall : ∀ j, j < ops.size → listed.getD j false = true := by
      intro j hj
      have hn : false ∉ listed.toList := List.count_eq_zero.1 (by omega)
      have hjl : j < listed.size := by rw [h.size]; exact hj
      cases hb : listed[j]
      · exact absurd (by rw [← hb]; exact Array.getElem_mem_toList hjl) hn
      · simp [hjl, hb]
    refine ⟨?_, fin _ _ _ h hall⟩
    cases hr : Region.ready .any ops listed with
    | nil => rfl
    | cons x xs =>
      have hx : x ∈ Region.ready .any ops listed := by rw [hr]; exact List.mem_cons_self
      obtain ⟨hl, o, hi, _⟩ := mem_ready.1 hx
      have hlt : x < ops.size := (Array.getElem?_eq_some_iff.1 hi).1
      have := hall x hlt
      have hxl : x < listed.size := by rw [h.size]; exact hlt
      simp [hxl] at hl this
      rw [hl] at this; cases this
  | succ fuel ih =>
    intro listed a W h hc
    refine ⟨fun hr => fin _ _ _ h (zP hok h.size hr), fun i hi => one fuel listed a W _ i h hi fun a' W' h' => ih _ _ _ h' ?_⟩
    obtain ⟨hl, o, ho, _⟩ := mem_ready.1 hi
    have hil : i < listed.size := by rw [h.size]; exact (Array.getElem?_eq_some_iff.1 ho).1
    have := zF listed.toList i (by
      simp [hil] at hl ⊢; exact hl)
    rw [Array.toList_setIfInBounds]
    omega
theorem region_parts {id : Nat} (R : List Fact) (D : List (List (Nat × Nat))) (every : List (Nat × Nat)) (hm : P.follows .mixedOrders = true) (hok : partsOk ops D every a0.tmps.size = true)
    (hob : ∀ i o, ops[i]? = some o → ∀ W, Below w.heap.size w W → given R W (fun a1 => wpList P ops (PartPost a0.defers W o (factAt R i)) [o] a1 W) (D.getD i []) a0)
    (hend : ∀ W, Below w.heap.size w W → given R W (fun a => Q .normal a W) every a0) : (Code.region id ops true).wp P Q a0 w := by
  unfold partsOk at hok
  simp only [Bool.and_eq_true] at hok
  have ok : ∀ i o, ops[i]? = some o → OpOk ops D every a0.tmps.size i o := fun i o hi => OpOk.of (by
    have := List.all_eq_true.1 hok.1 i (List.mem_range.2 (Array.getElem?_eq_some_iff.1 hi).1)
    rw [hi] at this
    exact this)
  have hev : ∀ p ∈ every, ∃ oj, ops[p.1]? = some oj ∧ oj.dst = some p.2 := fun p hp => by
    have := List.all_eq_true.1 hok.2 p hp
    obtain ⟨oj, h6, h7⟩ := Option.bind_eq_some_iff.1 (beq_iff_eq.1 this)
    exact ⟨oj, h6, h7⟩
  refine wp_region_any hm (parts_any ok hev hob hend ops.size _ a0 _ ⟨by simp, ⟨rfl, rfl, rfl, Nat.le_refl _, fun _ _ => rfl⟩, rfl, rfl, fun j oj d hj _ hl => ?_, fun _ _ => rfl, fun j oj hj hl => ?_⟩ (by simp))
  all_goals
    exfalso
    have hlt : j < ops.size := (Array.getElem?_eq_some_iff.1 hj).1
    simp [hlt] at hl
def obs (P : Program) (ops : Array Oper) (R : List Fact) (D : List (List (Nat × Nat))) (w : World) (a0 : Act) : Nat → List Oper → Prop
  | _, [] => True
  | i, o :: r => (∀ W, Below w.heap.size w W → given R W (fun a1 => wpList P ops (PartPost a0.defers W o (factAt R i)) [o] a1 W) (D.getD i []) a0) ∧ obs P ops R D w a0 (i + 1) r
theorem obs_at : ∀ (l : List Oper) (k : Nat), obs P ops R D w a0 k l → ∀ j o, l[j]? = some o → ∀ W, Below w.heap.size w W → given R W (fun a1 => wpList P ops (PartPost a0.defers W o (factAt R (k + j))) [o] a1 W) (D.getD (k + j) []) a0
  | [], _, _, j, o, h => by simp at h
  | x :: l, k, ho, 0, o, h => by
    simp at h; subst h
    exact ho.1
  | x :: l, k, ho, j + 1, o, h => by
    have := obs_at l (k + 1) ho.2 j o (by simpa using h)
    rw [show k + (j + 1) = k + 1 + j by omega]
    exact this
theorem lI {id : Nat} {l : List Oper} (R : List Fact) (D : List (List (Nat × Nat))) (every : List (Nat × Nat)) (hm : P.follows .mixedOrders = true) (hok : partsOk l.toArray D every a0.tmps.size = true)
    (hob : obs P l.toArray R D w a0 0 l) (hend : ∀ W, Below w.heap.size w W → given R W (fun a => Q .normal a W) every a0) : (Code.region id l.toArray true).wp P Q a0 w :=
  region_parts R D every hm hok (fun i o hi W hW => by
    have := obs_at l 0 hob i o (by simpa using hi) W hW
    rw [Nat.zero_add] at this
    exact this) hend
end
def Fact.bytes (bs : List Nat) : Fact := ⟨fun v w => ∃ A cap, v = .slice A bs.length cap ∧ Row byteV w w.heap.size A bs.length bs, fun _ _ _ hb ⟨A, cap, hv, hr⟩ => ⟨A, cap, hv, (hr.below hb).more hb.size⟩⟩
theorem j0 {D : List Deferred} {W : World} {o : Oper} {d : Nat} {c : Value} {a : Act} (ho : o.dst = some d) (hs : a.tmps.toList[d]? = some c) (hd : a.defers = D) : PartPost D W o (Fact.is c) .normal a W := by
  refine ⟨hd, Below.refl _ _, ?_⟩
  show slotOf o a = c
  have h : a.tmps[d]? = some c := by simpa using hs
  simp [slotOf, ho, Array.getD_eq_getD_getElem?, h]
theorem jC {D : List Deferred} {W W' : World} {o : Oper} {d : Nat} {c : Value} {R : Fact} {a : Act} (ho : o.dst = some d) (hs : a.tmps.toList[d]? = some c) (hd : a.defers = D) (hb : Below W.heap.size W W') (hr : R.holds c W') : PartPost D W o R .normal a W' := by
  refine ⟨hd, hb, ?_⟩
  have h : a.tmps[d]? = some c := by simpa using hs
  simp only [slotOf, ho, Array.getD_eq_getD_getElem?, h, Option.getD_some]
  exact hr
theorem jI (l : List Value) (ds : List Deferred) (d : Nat) (v : Value) : Act.put ⟨l.toArray, ds⟩ (some d) v = ⟨(l.set d v).toArray, ds⟩ := by simp [Act.put]
end Go.Proofs.Ytkhfolpffjihgaa
