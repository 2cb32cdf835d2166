/- Equal2, SemSame, SemSame2, SemLaw2, RaceMath, in one text. -/
import Derived.Test.YticifjmkocgipaaPk26
import Derived.BigFrame
import Derived.Test.YticifjmkocgipaaPk18
import Derived.Test.YticifjmkocgipaaPk20
import Derived.Test.YticifjmkocgipaaPk21
import Derived.Test.YticifjmkocgipaaPk7
import Derived.Test.YticifjmkocgipaaPk16
import Derived.Test.YticifjmkocgipaaPk12
/- Arrays of integers compared, whatever they are. -/
namespace Go.Proofs.Yticifjmkocgipaa
open Go.RowKit

theorem forIn_all {P : Program} {w : World} {β : Type} (body : Nat → β → Sem (ForInStep β)) (s t : β) (f : Nat → Bool) : ∀ (l : List Nat) (b : Bool), l.all f = b → (∀ i ∈ l, (body i s).run P w = .ok (if f i then .yield s else .done t) w) → (forIn l s body).run P w = .ok (if b then s else t) w
  | [], b, hb, _ => by
    have : b = true := by rw [← hb]; rfl
    subst this
    simp
  | i :: r, b, hb, h => by
    rw [List.forIn_cons, Sem.run_bind, h i (by simp)]
    simp only [Result.andThen_ok]
    have hb2 : (f i && r.all f) = b := by rw [← hb]; rfl
    by_cases hf : f i = true
    · rw [if_pos hf]
      exact forIn_all body s t f r b (by rw [← hb2, hf]; rfl) fun j hj => h j (by simp [hj])
    · rw [if_neg hf]
      have : b = false := by rw [← hb2, Bool.eq_false_iff.2 hf]; rfl
      subst this
      simp
theorem all_range_eq (vs us : List Int) (n : Nat) (hv : vs.length = n) (hu : us.length = n) : ((List.range' 0 n).all fun i => vs.getD i 0 == us.getD i 0) = decide (vs = us) := by
  rw [Bool.eq_iff_iff, List.all_eq_true, decide_eq_true_eq]
  constructor
  · intro h
    apply List.ext_getElem (by omega)
    intro i h1 h2
    have := h i (by simp; omega)
    rw [beq_iff_eq, List.getD_eq_getElem?_getD, List.getElem?_eq_getElem h1, List.getD_eq_getElem?_getD, List.getElem?_eq_getElem h2] at this
    exact this
  · rintro rfl i _
    simp
theorem run_equal_arr2 {P : Program} (w : World) (d : Nat) (t e : TypeId) (n : Nat) (k k2 : IntKind) (ht : P.underlying t = some (.array n e)) (he : P.underlying e = some (.int k2)) (hsz : (P.info? e).map (·.size) = some 1) (vs us : List Int) (hl : vs.length = n) (hl2 : us.length = n) :
    (Op.equalIn (d + 2) t (.agg (vs.map (Value.int k)).toArray) (.agg (us.map (Value.int k)).toArray)).run P w = .ok (decide (vs = us)) w := by
  have hagg : (isAgg e).run P w = .ok false w := by
    unfold isAgg
    rw [Sem.run_bind, run_underlying he w]; rfl
  cases hq : P.info? e with
  | none => simp [hq] at hsz
  | some ie =>
    have hs : ie.size = 1 := by simpa [hq] using hsz
    have hso : (sizeOf e).run P w = .ok 1 w := by simp [sizeOf, typeInfo, hq, hs]
    unfold Op.equalIn
    simp only [Sem.run_bind, run_underlying ht w, Result.andThen_ok, hso, Std.Legacy.Range.forIn_eq_forIn_range']
    rw [forIn_all _ _ (some false, PUnit.unit) (fun i => vs.getD i 0 == us.getD i 0) _ (decide (vs = us)) (by rw [← all_range_eq vs us n hl hl2]; simp [Std.Legacy.Range.size])]
    · by_cases hvu : vs = us
      · rw [decide_eq_true hvu]; rfl
      · rw [decide_eq_false hvu]; rfl
    · intro i hi
      have hin : i < n := by
        simp [Std.Legacy.Range.size] at hi
        omega
      have h1 : i < vs.length := by omega
      have h2 : i < us.length := by omega
      simp [part, hagg, h1, h2, run_equalIn_int w d e k k2 _ _ he]
      split <;> rfl
/-- The comparison of such arrays. -/
theorem wpList_eql_arr2 {P : Program} {ops : Array Oper} {rest : List Oper} {o : Oper} {a : Act} {w : World} {Q : Exit → Act → World → Prop} (hgd : Region.wanted o (yielded ops a.tmps) = true) (t u : TypeId) (x y : Operand) (ho : o.op = .binOp .eql t x y u)
    (n : Nat) (e : TypeId) (k k2 : IntKind) (ht : P.underlying t = some (.array n e)) (he : P.underlying e = some (.int k2)) (hsz : (P.info? e).map (·.size) = some 1) (hm : P.eqGuardType P.depth t = false)
    (vs us : List Int) (hl : vs.length = n) (hl2 : us.length = n) (hx : a.eval x = .agg (vs.map (Value.int k)).toArray) (hy : a.eval y = .agg (us.map (Value.int k)).toArray) (b : Bool) (hb : decide (vs = us) = b) (h : wpList P ops Q rest (a.put o.dst (.bool b)) w) : wpList P ops Q (o :: rest) a w := by
  refine BigFrame.wpList_want hgd fun K hK => ?_
  subst hb
  unfold Oper.wp execOp
  simp only [ho, hx, hy, Sem.run_bind, run_eqGuard_agg w .eql t x y _ _ hm, run_eql_struct w t _ _, run_equal_arr2 w 9998 t e n k k2 ht he hsz vs us hl hl2, Result.andThen_ok, Sem.run_pure]
  exact hK _ _ h
theorem wpList_neq_arr2 {P : Program} {ops : Array Oper} {rest : List Oper} {o : Oper} {a : Act} {w : World} {Q : Exit → Act → World → Prop} (hgd : Region.wanted o (yielded ops a.tmps) = true) (t u : TypeId) (x y : Operand) (ho : o.op = .binOp .neq t x y u)
    (n : Nat) (e : TypeId) (k k2 : IntKind) (ht : P.underlying t = some (.array n e)) (he : P.underlying e = some (.int k2)) (hsz : (P.info? e).map (·.size) = some 1) (hm : P.eqGuardType P.depth t = false)
    (vs us : List Int) (hl : vs.length = n) (hl2 : us.length = n) (hx : a.eval x = .agg (vs.map (Value.int k)).toArray) (hy : a.eval y = .agg (us.map (Value.int k)).toArray) (b : Bool) (hb : (!decide (vs = us)) = b) (h : wpList P ops Q rest (a.put o.dst (.bool b)) w) : wpList P ops Q (o :: rest) a w := by
  refine BigFrame.wpList_want hgd fun K hK => ?_
  subst hb
  unfold Oper.wp execOp
  simp only [ho, hx, hy, Sem.run_bind, run_eqGuard_agg w .neq t x y _ _ hm, run_neq_struct w t _ _, run_equal_arr2 w 9998 t e n k k2 ht he hsz vs us hl hl2, Result.andThen_ok, Sem.run_pure]
  exact hK _ _ h
end Go.Proofs.Yticifjmkocgipaa

/- The program's interpreter, walked: Same. -/
namespace Go.Proofs.Yticifjmkocgipaa
open Go.RowKit

theorem frame_eq (a b : Nat × Nat) : ((decide ((a.1 : Int) = (b.1 : Int)) && decide ((a.2 : Int) = (b.2 : Int)))) = decide (a = b) := by
  rw [Bool.eq_iff_iff]
  simp only [Bool.and_eq_true, decide_eq_true_eq]
  constructor
  · rintro ⟨h1, h2⟩
    exact Prod.ext (by omega) (by omega)
  · rintro rfl
    exact ⟨rfl, rfl⟩
theorem take_snoc_eq {α : Type} {l l' : List α} {i : Nat} {x y : α} (h : l.take i = l'.take i) (hx : l[i]? = some x) (hy : l'[i]? = some y) : (l.take (i + 1) = l'.take (i + 1)) ↔ x = y := by
  rw [List.take_add_one, List.take_add_one, hx, hy, h]
  simp

theorem th_ext (a b : M.Th) : a = b ↔ a.slots = b.slots ∧ a.stack = b.stack := by
  cases a; cases b; simp [and_comm]
theorem ints_eq (a b : List Nat) : decide (a.map (fun x : Nat => (x : Int)) = b.map (fun x : Nat => (x : Int))) = decide (a = b) := by
  rw [Bool.eq_iff_iff, decide_eq_true_eq, decide_eq_true_eq]
  constructor
  · intro h
    apply List.ext_getElem?
    intro i
    have h2 := congrArg (·[i]?) h
    simp only [List.getElem?_map] at h2
    cases ha : a[i]? <;> cases hb : b[i]? <;> simp [ha, hb] at h2 ⊢
    omega
  · rintro rfl; rfl
theorem map_ints (a : List Nat) : a.map natV = (a.map (fun x : Nat => (x : Int))).map (Value.int .i64) := by rw [List.map_map]; rfl
/-- A thread's cells. -/
def tvC (x : Tv) : List Value := .slice x.sv.A x.sv.len x.sv.cap :: x.slots.map natV
theorem tvC_len {x : Tv} (h : x.slots.length = 8) : (tvC x).length = 9 := by simp [tvC, h]
theorem slots_eqguard : Try.prog.eqGuardType Try.prog.depth 89 = false := by kernel_rfl

theorem owners_eqguard : Try.prog.eqGuardType Try.prog.depth 29 = false := by kernel_rfl
end Go.Proofs.Yticifjmkocgipaa

/- The program's interpreter, walked: Same, of whole configs. -/
namespace Go.Proofs.Yticifjmkocgipaa
open Go.RowKit

/-- A whole struct (or array) out of cells that are told one by one. -/
theorem wpList_load_at {P : Program} {ops : Array Oper} {rest : List Oper} {o : Oper} {a : Act} {w : World} {Q : Exit → Act → World → Prop} (hgd : o.guard = none) (ty : TypeId) (x : Operand) (ho : o.op = .load ty x)
    (ad : Addr) (hx : a.eval x = .pointer (some ad)) (cs : List Value) (d : TypeDesc) (hc : ∀ j v, cs[j]? = some v → w.cell? (ad.add j) = some v)
    (hu : P.underlying ty = some d) (hd : d.isRow = true) (hi : (P.info? ty).map (·.size) = some cs.length)
    (h : wpList P ops Q rest (a.put o.dst (.agg cs.toArray)) w) : wpList P ops Q (o :: rest) a w := by
  refine wpList_plain hgd fun K hK => ?_
  have hl : (loadCells ad cs.length).run P w = .ok cs.toArray w := run_loadCells_list (P := P) w ad cs hc
  have hrun : (loadVar ty ad).run P w = .ok (.agg cs.toArray) w := by
    cases hq : P.info? ty with
    | none => simp [hq] at hi
    | some i =>
      have hs : i.size = cs.length := by simpa [hq] using hi
      have hagg : (isAgg ty).run P w = .ok true w := by
        unfold isAgg
        rw [Sem.run_bind, run_underlying hu w]
        cases d <;> simp_all
      simp [loadVar, Sem.run_bind, hagg, sizeOf, typeInfo, hq, hs, hl]
  unfold Oper.wp execOp
  simp only [ho, hx, Instr.loadAt, Instr.sureAddr, Sem.run_bind, Sem.run_pure, Result.andThen_ok, hrun]
  exact hK _ _ h
theorem tvC_at {x : Tv} (h8 : x.slots.length = 8) {j : Nat} {v : Value} (h : (tvC x)[j]? = some v) : j < 9 ∧ tvV x j = v := by
  have hj : j < 9 := by have := (List.getElem?_eq_some_iff.1 h).1; rw [tvC_len h8] at this; exact this
  refine ⟨hj, ?_⟩
  cases j with
  | zero =>
    simp only [tvC, List.getElem?_cons_zero, Option.some.injEq] at h
    exact h
  | succ j =>
    have hk : j < x.slots.length := by omega
    rw [tvC, List.getElem?_cons_succ, List.getElem?_map, List.getElem?_eq_getElem hk] at h
    show Value.int .i64 ((x.slots.getD j 0 : Nat) : Int) = v
    rw [List.getD_eq_getElem?_getD, List.getElem?_eq_getElem hk]
    exact Option.some.inj h
theorem tvC_ones (x : Tv) : ∀ u ∈ tvC x, u.oneCell' = true := by
  intro u hu
  rcases List.mem_cons.1 hu with rfl | hu
  · rfl
  · obtain ⟨y, _, rfl⟩ := List.mem_map.1 hu
    rfl
end Go.Proofs.Yticifjmkocgipaa

/- What the statements of sem use of their loops. -/
namespace Go.Proofs.Yticifjmkocgipaa
open Go.RowKit

/-- A config behind a step, its memory made by the call. -/
def Fact.stepped (K : Nat) (c : M.Cf) : Fact :=
  ⟨fun v W => ∃ q', v = pcA q' ∧ Mine W K q' ∧ q'.cf = c, fun _ _ _ hb ⟨q', h1, h2, h3⟩ => ⟨q', h1, h2.below hb (Nat.le_refl _), h3⟩⟩
theorem good_8s {p : Pg} {q : Pc} (h : M.Good p q.cf) : ∀ x ∈ q.tvs, x.slots.length = 8 := fun x hx => h.eight (tvT x) (List.mem_map_of_mem hx)
theorem good_17 {p : Pg} {q : Pc} (h : M.Good p q.cf) : (pcC q).length = 17 := conf_len h.owns
theorem conf_cell {w : World} {g : Nat} {q : Pc} (h : Blk w g 31 (pcC q)) : w.cell? ⟨g, 0, none⟩ = some (.slice q.A q.len q.cap) := h.cell 0
theorem held_in {q : Pc} {w : World} {B t : Nat} (h : q.Ok w B) (ht : t < q.len) : M.held q.cf (t : Int) = M.heldTo q.ow t 16 := by
  unfold M.held
  rw [if_pos ⟨by omega, by rw [h.len]; omega⟩, Int.toNat_natCast]; rfl
theorem most_8 {p : Pg} {q : Pc} {w : World} {B : Nat} (hg : M.Good p q.cf) (h : q.Ok w B) : q.len ≤ 8 := by rw [← h.len]; exact hg.most
theorem own_8 {p : Pg} {q : Pc} (hg : M.Good p q.cf) : ∀ o ∈ q.ow, o ≤ 8 := fun o ho => by have := hg.own o ho; have := hg.most; omega
/-- A block of another type is none of its. -/
theorem OwnR.typed {α : Type} {sz : Nat} {f : α → Nat → Value} {w : World} {B b : Nat} {e t : TypeId} {v : Value} {l : List α} {cs : List Value} (h : OwnR sz f w B e v l) (hb : Blk w b t cs) (hne : e ≠ t) : v.ownBlock ≠ some b := by
  intro hv
  rcases h.2 with ⟨rfl, _⟩ | ⟨g, cap, cur, rfl, _, hg, _⟩
  · cases hv
  · injection hv with hv
    have hv : g = b := hv
    subst hv
    unfold Blk at hb
    rw [hg] at hb
    injection hb with hb
    injection hb with _ h2
    exact hne h2
theorem Mine.typed {w w' : World} {B g : Nat} {q : Pc} {cs : List Value} (h : Mine w B q) (hb : Blk w g 31 cs) (hg : w.grownBy w' (some g)) : Mine w' B q :=
  h.far hg (fun b hv e => h.row.typed hb (by decide) (by rw [hv, e])) (fun k y b hy hv e => (h.fam.own k y hy).typed hb (by decide) (by rw [hv, e]))
/-- A new config variable. -/
def Fact.confNew (K : Nat) : Fact :=
  ⟨fun v W => ∃ g, v = .pointer (some ⟨g, 0, none⟩) ∧ Blk W g 31 (Value.slice none 0 0 :: zeros 16) ∧ K ≤ g, fun _ _ _ hb ⟨g, h1, h2, h3⟩ => ⟨g, h1, h2.below hb h2.lt, h3⟩⟩
/-- A pick's cells. -/
theorem Picks.pick {w : World} {B : Nat} {A : Option Addr} {n : Nat} {l : List (Int × Bool)} (h : Picks w B A n l) {i : Nat} (hi : i < n) :
    ∃ ad x, A = some ad ∧ ad.block < B ∧ l[i]? = some x ∧ I64 x.1 ∧ w.cell? (ad.add (i * 2)) = some (.int .i64 x.1) ∧ w.cell? ⟨(ad.add (i * 2)).block, (ad.add (i * 2)).off + 1, none⟩ = some (.bool x.2) := by
  obtain ⟨ad, x, hA, hb, hx, hc0, hc1⟩ := h.1.field hi
  exact ⟨ad, x, hA, hb, hx, h.2 x (List.mem_of_getElem? hx), hc0 (by omega), hc1 1 (by omega) (by omega)⟩
theorem node_zero9 : (Try.prog.info? 56).map (·.zero) = some (some (.agg #[.int .i64 0, .int .i64 0, .int .i64 0, .int .i64 0])) := by kernel_rfl
theorem nd_ones9 (x : Nd) : ∀ u ∈ ndC x, u.oneCell' = true := by
  intro u hu
  simp only [ndC, List.mem_cons, List.not_mem_nil, or_false] at hu
  rcases hu with rfl | rfl | rfl | rfl <;> rfl
end Go.Proofs.Yticifjmkocgipaa

/- Races, on plain data. Nothing here speaks of the program. -/
namespace Go.Proofs.Yticifjmkocgipaa.M

/-- Which global a thread touches, and how: 0 not, 1 reads, 2 writes. -/
def acc (p : Pg) (c : Cf) (t : Int) : Int × Int :=
  if lives c t = true ∧ ((node p c t.toNat).kind = 1 ∨ (node p c t.toNat).kind = 2) then ((node p c t.toNat).arg, (node p c t.toNat).kind) else (0, 0)
/-- Two threads race for a global. -/
def pair (p : Pg) (c : Cf) (a b g : Int) : Bool := decide (a ≠ b ∧ 0 < (acc p c a).2 ∧ 0 < (acc p c b).2 ∧ (acc p c a).1 = (acc p c b).1 ∧ (acc p c a).1 = g ∧ 2 < (acc p c a).2 + (acc p c b).2)
theorem acc_two (p : Pg) (c : Cf) (t : Int) : (acc p c t).2 = 0 ∨ (acc p c t).2 = 1 ∨ (acc p c t).2 = 2 := by
  unfold acc
  split
  · rename_i h
    exact .inr h.2
  · exact .inl rfl
theorem acc_pos {p : Pg} {c : Cf} {t : Int} (h : 0 < (acc p c t).2) : lives c t = true ∧ ((node p c t.toNat).kind = 1 ∨ (node p c t.toNat).kind = 2) ∧ (acc p c t).1 = (node p c t.toNat).arg ∧ (acc p c t).2 = (node p c t.toNat).kind := by
  unfold acc at h ⊢
  split at h
  · rename_i h1
    rw [if_pos h1]
    exact ⟨h1.1, h1.2, rfl, rfl⟩
  · exact absurd h (by decide)
theorem pair_is {p : Pg} {c : Cf} {a b g : Int} : pair p c a b g = true ↔ (a ≠ b ∧ 0 < (acc p c a).2 ∧ 0 < (acc p c b).2 ∧ (acc p c a).1 = (acc p c b).1 ∧ (acc p c a).1 = g ∧ 2 < (acc p c a).2 + (acc p c b).2) := by unfold pair; rw [decide_eq_true_eq]
theorem pair_comm (p : Pg) (c : Cf) (a b g : Int) : pair p c a b g = pair p c b a g := by
  rw [Bool.eq_iff_iff, pair_is, pair_is]
  constructor <;> (rintro ⟨h1, h2, h3, h4, h5, h6⟩; exact ⟨fun e => h1 e.symm, h3, h2, h4.symm, by rw [← h4]; exact h5, by omega⟩)
theorem pair_self (p : Pg) (c : Cf) (a g : Int) : pair p c a a g = false := by
  cases h : pair p c a a g with
  | false => rfl
  | true => exact absurd rfl (pair_is.1 h).1
theorem lives_nonneg {c : Cf} {t : Int} (h : lives c t = true) : 0 ≤ t ∧ livesN c t.toNat = true := by
  unfold lives at h
  rw [Bool.and_eq_true, decide_eq_true_eq] at h
  exact h
theorem lives_lt_int {c : Cf} {t : Int} (h : lives c t = true) : 0 ≤ t ∧ t < (c.ths.length : Int) := by
  have h1 := lives_nonneg h
  have h2 := lives_lt h1.2
  omega
theorem acc_enabled {p : Pg} {c : Cf} {t : Int} (h : 0 < (acc p c t).2) : enabled p c t = true := by
  obtain ⟨h1, h2, _, _⟩ := acc_pos h
  obtain ⟨h0, hl⟩ := lives_nonneg h1
  unfold enabled enabledN
  rw [decide_eq_true h0, hl, if_neg (by omega), if_neg (by omega), if_neg (by omega)]; rfl
theorem acc_step {p : Pg} {c : Cf} {t : Int} (h : 0 < (acc p c t).2) (way : Bool) : step p c t way = ⟨c.ths.set t.toNat ⟨goOn (th c t.toNat).stack (node p c t.toNat).next.toNat, (th c t.toNat).slots⟩, c.owners⟩ := by
  obtain ⟨h1, h2, _, _⟩ := acc_pos h
  unfold step
  rw [if_pos (acc_enabled h)]
  unfold act
  rw [if_neg (by omega), if_neg (by omega), if_neg (by omega), if_neg (by omega), if_neg (by omega), if_neg (fun x => by omega)]
theorem step_th_eq {p : Pg} {c : Cf} {t : Int} {way : Bool} {u : Nat} (hu : u < c.ths.length) (hne : (u : Int) ≠ t) : th (step p c t way) u = th c u := by
  unfold th
  rw [List.getD_eq_getElem?_getD, step_th hu hne, List.getD_eq_getElem?_getD]
theorem step_acc {p : Pg} {c : Cf} {t u : Int} {way : Bool} (hu : 0 < (acc p c u).2) (hne : u ≠ t) : acc p (step p c t way) u = acc p c u := by
  obtain ⟨h1, _, _, _⟩ := acc_pos hu
  obtain ⟨h0, hl⟩ := lives_lt_int h1
  have e := step_th_eq (p := p) (c := c) (t := t) (way := way) (u := u.toNat) (by omega) (by omega)
  unfold acc lives livesN node
  rw [e]
/-- Who races does so still, when others do their steps. -/
theorem step_pair {p : Pg} {c : Cf} {t a b g : Int} {way : Bool} (h : pair p c a b g = true) (ha : a ≠ t) (hb : b ≠ t) : pair p (step p c t way) a b g = true := by
  have h1 := pair_is.1 h
  rw [pair_is, step_acc h1.2.1 ha, step_acc h1.2.2.1 hb]
  exact h1
theorem step_node {p : Pg} {c : Cf} {t u : Int} {way : Bool} (h : lives c u = true) (hne : u ≠ t) : lives (step p c t way) u = true ∧ node p (step p c t way) u.toNat = node p c u.toNat := by
  obtain ⟨h0, hl⟩ := lives_lt_int h
  have e := step_th_eq (p := p) (c := c) (t := t) (way := way) (u := u.toNat) (by omega) (by omega)
  unfold lives livesN node at *
  rw [e]
  exact ⟨h, rfl⟩
/-- Whoever of two that race does his step first: the same comes of it. -/
theorem pair_swap {p : Pg} {c : Cf} {a b g : Int} (h : pair p c a b g = true) (v w : Bool) : step p (step p c a v) b w = step p (step p c b w) a v := by
  obtain ⟨hne, ha, hb, _, _, _⟩ := pair_is.1 h
  have hla := lives_lt_int (acc_pos ha).1
  have hlb := lives_lt_int (acc_pos hb).1
  have e1 := acc_step (p := p) (c := step p c a v) (t := b) (by rw [step_acc hb (fun e => hne e.symm)]; exact hb) w
  have e2 := acc_step (p := p) (c := step p c b w) (t := a) (by rw [step_acc ha hne]; exact ha) v
  rw [e1, e2, (step_node (p := p) (way := v) (acc_pos hb).1 (fun e => hne e.symm)).2, (step_node (p := p) (way := w) (acc_pos ha).1 hne).2,
    step_th_eq (u := b.toNat) (by omega) (by omega), step_th_eq (u := a.toNat) (by omega) (by omega), acc_step ha v, acc_step hb w]
  congr 1
  exact List.set_comm _ _ (by omega)
/-- Nobody of the first threads races with a later one. -/
def NoPair (p : Pg) (c : Cf) (a b : Nat) : Prop := pair p c (a : Int) (b : Int) (acc p c (a : Int)).1 = false
/-- The first two that race, and for what; 1: there are some. -/
def FirstIs (p : Pg) (c : Cf) (x y z h : Int) : Prop :=
  (h = 1 ∧ ∃ a b : Nat, x = a ∧ y = b ∧ z = (acc p c (a : Int)).1 ∧ a < b ∧ b < c.ths.length ∧ ¬ NoPair p c a b ∧ ∀ a' b', a' < b' → b' < c.ths.length → (a' < a ∨ a' = a ∧ b' < b) → NoPair p c a' b') ∨
  (h = 0 ∧ x = 0 ∧ y = 0 ∧ z = 0 ∧ ∀ a' b', a' < b' → b' < c.ths.length → NoPair p c a' b')
theorem first_one {p : Pg} {c : Cf} {x y z h x' y' z' h' : Int} (h1 : FirstIs p c x y z h) (h2 : FirstIs p c x' y' z' h') : x = x' ∧ y = y' ∧ z = z' ∧ h = h' := by
  rcases h1 with ⟨e1, a, b, ea, eb, ez, hab, hbn, hp, hm⟩ | ⟨e1, ex, ey, ez, hn⟩
  · rcases h2 with ⟨e2, a', b', ea', eb', ez', hab', hbn', hp', hm'⟩ | ⟨e2, _, _, _, hn'⟩
    · have h3 : a = a' ∧ b = b' := by
        rcases Nat.lt_trichotomy a a' with h | h | h
        · exact absurd (hm' a b hab hbn (.inl h)) hp
        · rcases Nat.lt_trichotomy b b' with g | g | g
          · exact absurd (hm' a b hab hbn (.inr ⟨h, g⟩)) hp
          · exact ⟨h, g⟩
          · exact absurd (hm a' b' hab' hbn' (.inr ⟨h.symm, g⟩)) hp'
        · exact absurd (hm a' b' hab' hbn' (.inl h)) hp'
      obtain ⟨rfl, rfl⟩ := h3
      exact ⟨by rw [ea, ea'], by rw [eb, eb'], by rw [ez, ez'], by rw [e1, e2]⟩
    · exact absurd (hn' a b hab hbn) hp
  · rcases h2 with ⟨_, a', b', _, _, _, hab', hbn', hp', _⟩ | ⟨e2, ex', ey', ez', _⟩
    · exact absurd (hn a' b' hab' hbn') hp'
    · exact ⟨by rw [ex, ex'], by rw [ey, ey'], by rw [ez, ez'], by rw [e1, e2]⟩
/-- No lock is two threads'. -/
theorem held_two (o : List Nat) {a b : Nat} (h : a ≠ b) : heldTo o a 16 &&& heldTo o b 16 = 0 := by
  apply Nat.eq_of_testBit_eq
  intro k
  rw [Nat.testBit_and, held_bit, held_bit, Nat.zero_testBit]
  cases h1 : decide (k < 16 ∧ o.getD k 0 = a + 1) with
  | false => rfl
  | true =>
    rw [decide_eq_true_eq] at h1
    rw [decide_eq_false (by omega)]; rfl
theorem pair_two {p : Pg} {c : Cf} {a b g : Int} (h : pair p c a b g = true) : 1 < c.ths.length := by
  obtain ⟨hne, ha, hb, _, _, _⟩ := pair_is.1 h
  have hla := lives_lt_int (acc_pos ha).1
  have hlb := lives_lt_int (acc_pos hb).1
  omega
/-- A program that writes nothing has no race. -/
theorem reads_only {p : Pg} {c : Cf} (h : ∀ t : Nat, livesN c t = true → (node p c t).kind ≠ 2) (a b g : Int) : pair p c a b g = false := by
  cases hp : pair p c a b g with
  | false => rfl
  | true =>
    obtain ⟨_, ha, hb, _, _, h6⟩ := pair_is.1 hp
    obtain ⟨l1, k1, _, e1⟩ := acc_pos ha
    obtain ⟨l2, k2, _, e2⟩ := acc_pos hb
    have n1 := h _ (lives_nonneg l1).2
    have n2 := h _ (lives_nonneg l2).2
    omega
end Go.Proofs.Yticifjmkocgipaa.M
