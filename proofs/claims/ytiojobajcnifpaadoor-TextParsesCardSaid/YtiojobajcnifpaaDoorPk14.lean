/- ProgLaw1, ProgLaw2, PcodeMath3, in one text. -/
import Derived.Test.YtiojobajcnifpaaDoorPk13
import Derived.Test.YtiojobajcnifpaaDoorProgRef5
import Derived.Test.YtiojobajcnifpaaDoorPk9
/- What the statements of prog begin with, walked: awake. -/
namespace Go.Proofs.YtiojobajcnifpaaDoor
open Go.RowKit

/-- A program of one function of one node, as it is built. -/
def pgOne (g g2 : Nat) (x : Nd) : Pg := ⟨0, 0, 0, some ⟨g2, 0, none⟩, 1, 1, [⟨some ⟨g, 0, none⟩, 1, 1, [x]⟩]⟩
theorem pgOne_ok (x : Nd) (hx : x.Ok) (w : World) (g g2 : Nat) (h1 : Blk w g 49 (ndC x)) (h2 : Blk w g2 47 [.slice (some ⟨g, 0, none⟩) 1 1]) : (pgOne g g2 x).Ok w w.heap.size := by
  refine ⟨by unfold I64; simp [pgOne], by unfold I64; simp [pgOne], by unfold I64; simp [pgOne], ?_, ?_, Nat.le_refl _, by simp [pgOne, maxLen], fun h => by cases h⟩
  · exact Blk.row (f := fnV) (l := [⟨some ⟨g, 0, none⟩, 1, 1, [x]⟩]) h2 rfl (Nat.le_refl _)
  · intro f hf
    have hf1 : f = ⟨some ⟨g, 0, none⟩, 1, 1, [x]⟩ := by simpa [pgOne] using hf
    subst hf1
    refine ⟨⟨⟨rfl, fun _ => ⟨_, rfl, h1.lt, fun k y hy j hj => ?_⟩⟩, fun y hy => ?_⟩, Nat.le_refl _, by simp [maxLen], fun h => by cases h⟩
    · have hk : k = 0 := by
        have := (List.getElem?_eq_some_iff.1 hy).1
        simp at this; exact this
      subst hk
      have hyx : y = x := by simpa using hy.symm
      subst hyx
      rw [Nat.zero_mul, Nat.zero_add, add_start, h1.cell j]
      match j, hj with
      | 0, _ => rfl
      | 1, _ => rfl
      | 2, _ => rfl
      | 3, _ => rfl
    · rw [List.mem_singleton] at hy
      subst hy; exact hx
theorem pgOne_small (g g2 : Nat) (x : Nd) : Q.small (pgOne g g2 x) = true := by simp [Q.small, pgOne]
theorem pgOne_counts (g g2 : Nat) (x : Nd) : Q.Counts (pgOne g g2 x) := by constructor <;> simp [pgOne]
theorem pgOne_fine (g g2 : Nat) (x : Nd) (h : Q.may 0 0 0 1 x 1 = true) : ∀ j, j < (pgOne g g2 x).fns.length → ¬ Q.badFn (pgOne g g2 x) j := by
  rintro j hj ⟨fn, hfn, hb⟩
  have hj0 : j = 0 := by simpa [pgOne] using hj
  subst hj0
  have hf : fn = ⟨some ⟨g, 0, none⟩, 1, 1, [x]⟩ := by simpa [pgOne] using hfn.symm
  subst hf
  refine hb ?_
  rw [Q.fault_none _ _ (by simp) (by simp) ?_]
  rintro i hi ⟨nd, hnd, hm⟩
  have hi0 : i = 0 := by simpa using hi
  subst hi0
  have : nd = x := by simpa using hnd.symm
  subst this
  have hm' : Q.may 0 0 0 1 nd 1 = false := hm
  rw [h] at hm'
  cases hm'
theorem check_return (g g2 : Nat) : Q.check (pgOne g g2 ⟨9, 0, 0, 0⟩) = (0, 0, 0) := by
  refine Q.check_fine (pgOne_counts _ _ _) (pgOne_fine _ _ _ (by decide)) ?_
  rintro j hj ⟨i, fn, nd, hfn, hnd, h7, _⟩
  have hj0 : j = 0 := by simpa [pgOne] using hj
  subst hj0
  have hf : fn = ⟨some ⟨g, 0, none⟩, 1, 1, [⟨9, 0, 0, 0⟩]⟩ := by simpa [pgOne] using hfn.symm
  subst hf
  have hm := List.mem_of_getElem? hnd
  rw [List.mem_singleton] at hm
  subst hm
  cases h7
theorem check_self (g g2 : Nat) : Q.check (pgOne g g2 ⟨7, 0, 0, 0⟩) = (0, 0, 8) :=
  Q.check_round (pgOne_counts _ _ _) (pgOne_fine _ _ _ (by decide)) (f := 0) (i := 0) ⟨_, _, rfl, rfl, rfl, 0, rfl, by simp [pgOne], .inl rfl⟩ (by decide) (by simp [pgOne]) (fun j hj => by omega) (fun j hj => by omega)

/-- The world in which such a program was built. -/
def oneW (w : World) (x : Nd) : World := (w.alloc (.cells #[.int .i64 x.kind, .int .i64 x.arg, .int .i64 x.next, .int .i64 x.alt] 49)).alloc (.cells #[.slice (some ⟨w.heap.size, 0, none⟩) 1 1] 47)
theorem oneW_ok (w : World) (x : Nd) (hx : x.Ok) : (pgOne w.heap.size (w.heap.size + 1) x).Ok (oneW w x) (oneW w x).heap.size :=
  pgOne_ok x hx _ _ _ ((Blk.newA w 49 _ (ndC x) rfl).alloc _) (Blk.newAt rfl (by simp))
theorem oneW_below (w : World) (x : Nd) {B : Nat} {w0 : World} (h : Below B w0 w) (hB : B ≤ w.heap.size) : Below B w0 (oneW w x) := (h.alloc hB _).alloc (by simp; omega) _
theorem nd_ok (k : Int) (h : I64 k) : Nd.Ok ⟨k, 0, 0, 0⟩ := ⟨h, by unfold I64; simp, by unfold I64; simp, by unfold I64; simp⟩
end Go.Proofs.YtiojobajcnifpaaDoor

/- What a program that may be has, on plain data. -/
namespace Go.Proofs.YtiojobajcnifpaaDoor
open Go.RowKit

theorem firstIdx_not {P : Nat → Prop} : ∀ {n : Nat}, Q.firstIdx P n = none → ∀ j, j < n → ¬ P j
  | 0, _, j, hj => by omega
  | n + 1, h, j, hj => by
    simp only [Q.firstIdx] at h
    cases hf : Q.firstIdx P n with
    | some k => rw [hf] at h; cases h
    | none =>
      rw [hf] at h
      simp only at h
      split at h
      · cases h
      · rename_i hp
        by_cases hjn : j = n
        · subst hjn; exact hp
        · exact firstIdx_not hf j (by omega)
theorem firstIdx_is {P : Nat → Prop} : ∀ {n i : Nat}, Q.firstIdx P n = some i → i < n ∧ P i
  | 0, i, h => by cases h
  | n + 1, i, h => by
    simp only [Q.firstIdx] at h
    cases hf : Q.firstIdx P n with
    | some k =>
      rw [hf] at h
      cases h
      obtain ⟨h1, h2⟩ := firstIdx_is hf
      exact ⟨by omega, h2⟩
    | none =>
      rw [hf] at h
      simp only at h
      split at h
      · rename_i hp
        cases h
        exact ⟨by omega, hp⟩
      · cases h

/-- A program that may be. -/
structure Fine (p : Pg) : Prop where
  counts : Q.Counts p
  nodes : ∀ j, j < p.fns.length → ¬ Q.badFn p j
  round : ∀ j, j < p.fns.length → ¬ Q.badRound p j
theorem fine_of {p : Pg} {a b : Int} (h : Q.check p = (a, b, 0)) : Fine p := by
  unfold Q.check at h
  split at h
  · cases h
  · split at h
    · cases h
    · rename_i h1 h2
      split at h
      · rename_i f hf
        exfalso
        obtain ⟨hlt, fn, hfn, hb⟩ := firstIdx_is hf
        have e : p.fns.getD f default = fn := by rw [List.getD_eq_getElem?_getD, hfn]; rfl
        rw [e] at h
        have := congrArg (fun x : Int × Int × Nat => x.2.2) h
        exact hb this
      · rename_i hf
        split at h
        · cases h
        · rename_i hr
          exact ⟨⟨by omega, by omega, by omega, by omega⟩, firstIdx_not hf, firstIdx_not hr⟩

theorem size_mono {g l s g' l' s' f : Int} (hg : g ≤ g') (hl : l ≤ l') (hs : s ≤ s') (c : Nat) (nodes : Int) : Q.size g l s f c nodes ≤ Q.size g' l' s' f c nodes := by
  unfold Q.size
  repeat' split
  all_goals omega
theorem may_mono {g l s g' l' s' f : Int} (hg : g ≤ g') (hl : l ≤ l') (hs : s ≤ s') (x : Nd) (nodes : Int) (h : Q.may g l s f x nodes = true) : Q.may g' l' s' f x nodes = true := by
  unfold Q.may at *
  rw [Bool.and_eq_true] at *
  refine ⟨h.1, List.all_eq_true.2 fun i hi => ?_⟩
  have h1 := List.all_eq_true.1 h.2 i hi
  simp only [decide_eq_true_eq] at *
  have h2 := size_mono (f := f) hg hl hs ((Q.row x.kind).getD i 0) nodes
  exact ⟨h1.1, by omega⟩
/-- More globals, locks and slots. -/
def more (p : Pg) (g l s : Int) : Pg := { p with g := g, l := l, s := s }
theorem more_long {p : Pg} {g l s : Int} (h : Fine p) (hg : p.g ≤ g) (hl : p.l ≤ l) (hs : p.s ≤ s) (hb : 16 < g ∨ 16 < l ∨ 8 < s) : Q.check (more p g l s) = (-1, -1, 4) := by
  unfold Q.check
  have h1 := h.counts.g; have h2 := h.counts.l; have h3 := h.counts.s; have h4 := h.counts.f
  rw [if_neg (by simp only [more]; omega), if_pos (by simp only [more]; omega)]
theorem more_fine {p : Pg} {g l s : Int} (h : Fine p) (hg : p.g ≤ g) (hl : p.l ≤ l) (hs : p.s ≤ s) (hg2 : g ≤ 16) (hl2 : l ≤ 16) (hs2 : s ≤ 8) : Q.check (more p g l s) = (0, 0, 0) := by
  have h1 := h.counts.g; have h2 := h.counts.l; have h3 := h.counts.s; have h4 := h.counts.f
  refine Q.check_fine ⟨by simp only [more]; omega, by simp only [more]; omega, by simp only [more]; omega, by simp only [more]; omega⟩ ?_ ?_
  · rintro j hj ⟨fn, hfn, hb⟩
    obtain ⟨f1, f2, f3⟩ := Q.fine_fn (p := p) hfn (h.nodes j hj)
    refine hb ?_
    rw [Q.fault_none _ _ (by omega) f2 ?_]
    rintro i hi ⟨nd, hnd, hm⟩
    have h5 := may_mono hg hl hs nd fn.nodes.length (f3 i nd hnd)
    have hm' : Q.may g l s p.len nd fn.nodes.length = false := hm
    rw [h5] at hm'; cases hm'
  · rintro j hj ⟨i, hr⟩
    exact h.round j hj ⟨i, hr⟩
theorem more_small (p : Pg) (g l s : Int) : Q.small (more p g l s) = Q.small p := rfl
theorem more_ok {p : Pg} {g l s : Int} {w : World} {B : Nat} (h : p.Ok w B) (hg : I64 g) (hl : I64 l) (hs : I64 s) : (more p g l s).Ok w B := ⟨hg, hl, hs, h.row, h.fns, h.lc, h.cm, h.nil⟩

/-- Where a node that may be goes on. -/
theorem may_next {g l s f : Int} {x : Nd} {nodes : Nat} (h : Q.may g l s f x nodes = true) (h0 : 0 < nodes) : ∀ y ∈ Q.succ x, 0 ≤ y ∧ y < (nodes : Int) := by
  unfold Q.may at h
  rw [Bool.and_eq_true] at h
  have hrow : Q.row x.kind ≠ [] := by simpa using h.1
  have hk : 0 ≤ x.kind ∧ x.kind ≤ 9 := by
    unfold Q.row at hrow
    split at hrow
    · exact absurd rfl hrow
    · omega
  have a1 := List.all_eq_true.1 h.2 1 (by simp)
  have a2 := List.all_eq_true.1 h.2 2 (by simp)
  simp only [decide_eq_true_eq] at a1 a2
  obtain ⟨k0, k9⟩ := hk
  obtain ⟨kk, hkk⟩ : ∃ kk : Nat, x.kind = (kk : Int) := ⟨x.kind.toNat, by omega⟩
  have hk10 : kk ≤ 9 := by omega
  intro y hy
  unfold Q.succ at hy
  unfold Q.row at a1 a2
  rw [if_neg (by omega), hkk, Int.toNat_natCast] at a1 a2
  rw [hkk] at hy
  have hcases : kk = 0 ∨ kk = 1 ∨ kk = 2 ∨ kk = 3 ∨ kk = 4 ∨ kk = 5 ∨ kk = 6 ∨ kk = 7 ∨ kk = 8 ∨ kk = 9 := by omega
  rcases hcases with e | e | e | e | e | e | e | e | e | e <;> subst e <;> simp [Q.rows, Q.fields, Q.size] at a1 a2 hy <;> omega
end Go.Proofs.YtiojobajcnifpaaDoor

/- Which bytes are read, what a program that may be comes to, on plain data. -/
namespace Go.Proofs.YtiojobajcnifpaaDoor.C

/-- What is wrong with a program hangs on its data alone. -/
theorem nodes_at {p q : Pg} (h : Q.Same p q) {f : Nat} {fn : Fn} (hf : p.fns[f]? = some fn) : ∃ fn', q.fns[f]? = some fn' ∧ fn'.nodes = fn.nodes := by
  have := congrArg (·[f]?) h.2.2.2
  simp only [List.getElem?_map, hf, Option.map_some] at this
  cases hq : q.fns[f]? with
  | none => rw [hq] at this; cases this
  | some fn' => rw [hq] at this; exact ⟨fn', rfl, by simpa using this.symm⟩
theorem same_symm {p q : Pg} (h : Q.Same p q) : Q.Same q p := ⟨h.1.symm, h.2.1.symm, h.2.2.1.symm, h.2.2.2.symm⟩
theorem fault_same {p q : Pg} (h : Q.Same p q) (hl : p.len = q.len) {fn fn' : Fn} (hn : fn'.nodes = fn.nodes) : Q.fnFault p fn = Q.fnFault q fn' := by
  have hb : Q.badNode p fn = Q.badNode q fn' := by
    funext i
    unfold Q.badNode
    rw [h.1, h.2.1, h.2.2.1, hl, hn]
  unfold Q.fnFault
  rw [hn, hb]
theorem badFn_imp {p q : Pg} (h : Q.Same p q) (hl : p.len = q.len) {f : Nat} (hb : Q.badFn p f) : Q.badFn q f := by
  obtain ⟨fn, h1, h2⟩ := hb
  obtain ⟨fn', h3, h4⟩ := nodes_at h h1
  exact ⟨fn', h3, by rw [← fault_same h hl h4]; exact h2⟩
theorem calls_imp {p q : Pg} (h : Q.Same p q) {x y : Nat} (hc : Q.calls p x y) : Q.calls q x y := by
  obtain ⟨fn, h1, nd, h2, h3⟩ := hc
  obtain ⟨fn', h4, h5⟩ := nodes_at h h1
  exact ⟨fn', h4, nd, by rw [h5]; exact h2, h3⟩
theorem calls_same {p q : Pg} (h : Q.Same p q) : Q.calls p = Q.calls q := by
  funext x y
  exact propext ⟨calls_imp h, calls_imp (same_symm h)⟩
theorem round_imp {p q : Pg} (h : Q.Same p q) {f i : Nat} (hr : Q.roundAt p f i) : Q.roundAt q f i := by
  obtain ⟨fn, nd, h1, h2, h3, k, h4, h5, h6⟩ := hr
  obtain ⟨fn', h7, h8⟩ := nodes_at h h1
  refine ⟨fn', nd, h7, by rw [h8]; exact h2, h3, k, h4, by rw [← h.len]; exact h5, ?_⟩
  rw [← calls_same h, ← h.len]; exact h6
theorem round_same {p q : Pg} (h : Q.Same p q) : Q.roundAt p = Q.roundAt q := by
  funext f i
  exact propext ⟨round_imp h, round_imp (same_symm h)⟩
theorem check_same {p q : Pg} (h : Q.Same p q) (hl : p.len = q.len) : Q.check p = Q.check q := by
  have hb : Q.badFn p = Q.badFn q := funext fun f => propext ⟨badFn_imp h hl, badFn_imp (same_symm h) hl.symm⟩
  have hr : Q.badRound p = Q.badRound q := by unfold Q.badRound; rw [round_same h]
  have hi : Q.roundIn p = Q.roundIn q := by funext f; unfold Q.roundIn; rw [round_same h]
  unfold Q.check
  rw [h.1, h.2.1, h.2.2.1, h.len, hb, hr, hi]
  split
  · rfl
  · split
    · rfl
    · cases hf : Q.firstIdx (Q.badFn q) q.fns.length with
      | none => rfl
      | some f =>
        obtain ⟨hlt, hbad⟩ := firstIdx_is hf
        have hlp : f < p.fns.length := by rw [h.len]; exact hlt
        have hp : p.fns[f]? = some p.fns[f] := List.getElem?_eq_getElem hlp
        obtain ⟨fn', h3, h4⟩ := nodes_at h hp
        simp only
        rw [List.getD_eq_getElem?_getD, List.getD_eq_getElem?_getD, hp, h3, Option.getD_some, Option.getD_some, fault_same h hl h4]

/-- A program as data, and data as a program. -/
def dataOf (p : Pg) : PD := ⟨p.g, p.l, p.s, p.fns.map (·.nodes)⟩
def pgOf (d : PD) : Pg := ⟨d.g, d.l, d.s, none, d.L.length, d.L.length, d.L.map fun l => ⟨none, l.length, l.length, l⟩⟩
theorem data_pgOf (d : PD) : dataOf (pgOf d) = d := by
  unfold dataOf pgOf
  obtain ⟨g, l, s, L⟩ := d
  simp only [PD.mk.injEq, true_and, List.map_map]
  exact List.map_id' L
theorem same_iff {p q : Pg} : Q.Same p q ↔ dataOf p = dataOf q := by
  unfold dataOf Q.Same
  simp only [PD.mk.injEq]
theorem check_data {p : Pg} (hl : p.fns.length = p.len) : Q.check p = Q.check (pgOf (dataOf p)) :=
  check_same (same_iff.2 (data_pgOf _).symm) (by rw [← hl]; unfold pgOf dataOf; simp)

theorem may_ok {g l s f : Int} {x : Nd} {nodes : Nat} (hg : g ≤ 16) (hl : l ≤ 16) (hs : s ≤ 8) (hf : f ≤ 16) (hn : nodes ≤ 64) (h : Q.may g l s f x nodes = true) : NdOk x := by
  obtain ⟨k, a, n, t⟩ := x
  unfold Q.may at h
  rw [Bool.and_eq_true, decide_eq_true_iff] at h
  obtain ⟨h1, h2⟩ := h
  have hk : 0 ≤ k ∧ k ≤ 9 := by
    refine Classical.byContradiction fun hc => h1 ?_
    unfold Q.row
    exact if_pos (by simp only; omega)
  have h3 := List.all_eq_true.1 h2
  have f0 := of_decide_eq_true (h3 0 (by decide))
  have f1 := of_decide_eq_true (h3 1 (by decide))
  have f2 := of_decide_eq_true (h3 2 (by decide))
  clear h1 h2 h3
  have hcase : k = 0 ∨ k = 1 ∨ k = 2 ∨ k = 3 ∨ k = 4 ∨ k = 5 ∨ k = 6 ∨ k = 7 ∨ k = 8 ∨ k = 9 := by omega
  rcases hcase with rfl | rfl | rfl | rfl | rfl | rfl | rfl | rfl | rfl | rfl <;>
  · simp only [Q.row, Q.rows, Q.size, Q.fields] at f0 f1 f2
    simp at f0 f1 f2
    refine ⟨⟨by simp, by simp⟩, fun j hj => ?_, fun j hj hm => ?_⟩
    · have : j = 0 ∨ j = 1 ∨ j = 2 := by omega
      rcases this with rfl | rfl | rfl
      · show 0 ≤ a ∧ a ≤ 64; omega
      · show 0 ≤ n ∧ n ≤ 64; omega
      · show 0 ≤ t ∧ t ≤ 64; omega
    · have : j = 0 ∨ j = 1 ∨ j = 2 := by omega
      rcases this with rfl | rfl | rfl
      · first
          | (exfalso; simp [tl] at hm; done)
          | (show a = 0; omega)
      · first
          | (exfalso; simp [tl] at hm; done)
          | (show n = 0; omega)
      · first
          | (exfalso; simp [tl] at hm; done)
          | (show t = 0; omega)
theorem fine_ok {p : Pg} (hl : p.fns.length = p.len) (h : Fine p) : PDOk (dataOf p) := by
  obtain ⟨c1, c2, c3, c4⟩ := h.counts
  refine ⟨⟨by show 0 ≤ p.g; omega, by show p.g ≤ 16; omega⟩, ⟨by show 0 ≤ p.l; omega, by show p.l ≤ 16; omega⟩, ⟨by show 0 ≤ p.s; omega, by show p.s ≤ 8; omega⟩, by unfold dataOf; simp; omega, ?_⟩
  intro x hx
  obtain ⟨fn, hfn, rfl⟩ := List.mem_map.1 hx
  obtain ⟨i, hi, rfl⟩ := List.getElem_of_mem hfn
  obtain ⟨h1, h2, h3⟩ := Q.fine_fn (List.getElem?_eq_getElem hi) (h.nodes i hi)
  refine ⟨h2, fun y hy => ?_⟩
  obtain ⟨j, hj, rfl⟩ := List.getElem_of_mem hy
  exact may_ok (by omega) (by omega) (by omega) (by omega) h2 (h3 j _ (List.getElem?_eq_getElem hj))

/-- Sizes of bytes. -/
theorem put5 (n : Int) : (V.put (low32 n)).length ≤ 5 := by rw [V.len_put _ (low32_lt n)]; exact V.size_le _
theorem nums_le (l : List Int) : (nums l).length ≤ 5 * l.length := by
  induction l with
  | nil => simp [nums]
  | cons n l ih => rw [nums_cons, List.length_append, List.length_cons]; have := put5 n; omega
theorem ndB_le (x : Nd) : (ndB x).length ≤ 20 := by
  unfold ndB
  rw [List.length_append]
  have h1 := put5 x.kind
  have h2 := nums_le (told x)
  have h3 : (told x).length ≤ 3 := by unfold told; rw [List.length_map]; exact tl_len _
  omega
theorem ndsB_le (l : List Nd) : (ndsB l).length ≤ 20 * l.length := by
  induction l with
  | nil => simp [ndsB]
  | cons n l ih => rw [ndsB_cons, List.length_append, List.length_cons]; have := ndB_le n; omega
theorem fnB_le {l : List Nd} (h : l.length ≤ 64) : (fnB l).length ≤ 1285 := by
  unfold fnB
  rw [List.length_append]
  have h1 := put5 (l.length : Int)
  have h2 := ndsB_le l
  omega
theorem fnsB_le : ∀ (L : List (List Nd)), (∀ l ∈ L, l.length ≤ 64) → (fnsB L).length ≤ 1285 * L.length
  | [], _ => by simp [fnsB]
  | l :: L, h => by
    rw [fnsB_cons, List.length_append, List.length_cons]
    have h1 := fnB_le (h l List.mem_cons_self)
    have h2 := fnsB_le L fun x hx => h x (List.mem_cons_of_mem _ hx)
    omega
theorem pgB_le {d : PD} (h : PDOk d) : (pgB d).length ≤ 20584 := by
  unfold pgB tailB
  have h1 := nums_le (d.g :: d.l :: d.s :: [])
  have h2 := put5 (d.L.length : Int)
  have h3 := fnsB_le d.L fun l hl => (h.fns l hl).len
  have h4 := h.len
  have h5 : mark.length = 4 := rfl
  have h6 : (d.g :: d.l :: d.s :: []).length = 3 := rfl
  rw [List.length_append, List.length_append, List.length_append]
  omega
theorem put_small (n : Int) : ∀ x ∈ V.put (low32 n), x < 256 := V.put_byte _ (low32_lt n)
theorem nums_small (l : List Int) : ∀ x ∈ nums l, x < 256 := by
  intro x hx
  obtain ⟨n, _, h⟩ := List.mem_flatMap.1 hx
  exact put_small n x h
theorem ndB_small (y : Nd) : ∀ x ∈ ndB y, x < 256 := by
  intro x hx
  rcases List.mem_append.1 hx with h | h
  · exact put_small _ x h
  · exact nums_small _ x h
theorem fnB_small (l : List Nd) : ∀ x ∈ fnB l, x < 256 := by
  intro x hx
  rcases List.mem_append.1 hx with h | h
  · exact put_small _ x h
  · obtain ⟨n, _, h⟩ := List.mem_flatMap.1 h
    exact ndB_small n x h
theorem pgB_small (d : PD) : ∀ x ∈ pgB d, x < 256 := by
  intro x hx
  rcases List.mem_append.1 hx with h | h
  · have hall : ∀ x ∈ mark, x < 256 := by decide
    exact hall x h
  · rcases List.mem_append.1 h with h | h
    · exact nums_small _ x h
    · rcases List.mem_append.1 h with h | h
      · exact put_small _ x h
      · obtain ⟨n, _, h⟩ := List.mem_flatMap.1 h
        exact fnB_small n x h

/-- What bytes are read as. -/
def s0 : R.St := ⟨0, 0, 0⟩
def h0 (bs : List Nat) : List Nat × R.St := R.raw bs s0 4
def body (bs : List Nat) : PD × R.St := rdPg bs (h0 bs).2
def endOf (n : Nat) (s : R.St) : R.St := if s.why = 0 ∧ s.at_ < n then R.fail s 7 else s
def none_ : PD := ⟨0, 0, 0, []⟩
noncomputable def read (bs : List Nat) : PD × Nat × Nat :=
  if 65536 < bs.length then (none_, 0, 4)
  else if (h0 bs).2.why = 0 ∧ (h0 bs).1 ≠ mark then (none_, 0, 3)
  else if (endOf bs.length (body bs).2).why ≠ 0 then (none_, (endOf bs.length (body bs).2).wh, (endOf bs.length (body bs).2).why)
  else if (Q.check (pgOf (body bs).1)).2.2 ≠ 0 then (none_, bs.length, (Q.check (pgOf (body bs).1)).2.2)
  else ((body bs).1, 0, 0)
theorem h0_mark (t : List Nat) : h0 (mark ++ t) = (mark, ⟨4, 0, 0⟩) := R.raw_at (bs := mark ++ t) (q := mark) (post := t) (s := s0) (Nat.zero_le _) rfl rfl
theorem h0_once {bs : List Nat} (h : (h0 bs).2.why = 0) : (h0 bs).1 = bs.take 4 ∧ (h0 bs).2.at_ = 4 ∧ 4 ≤ bs.length := by
  unfold h0 R.raw at h ⊢
  rw [if_pos (show s0.why = 0 from rfl), if_neg (show ¬ ((4 : Int) < 0) by decide)] at h ⊢
  by_cases h6 : (bs.length : Int) - (s0.at_ : Int) < 4
  · rw [if_pos h6] at h
    exact absurd h (by decide)
  · rw [if_neg h6]
    have : (s0.at_ : Int) = 0 := rfl
    exact ⟨rfl, rfl, by omega⟩
theorem endOf_at {n : Nat} {s : R.St} (h : ¬ (s.why = 0 ∧ s.at_ < n)) : endOf n s = s := if_neg h
theorem endOf_left {n : Nat} {s : R.St} (h : s.why = 0 ∧ s.at_ < n) : endOf n s = ⟨s.at_, s.at_, 7⟩ := by
  unfold endOf R.fail
  rw [if_pos h, if_pos h.1]
theorem read_long {bs : List Nat} (h : 65536 < bs.length) : read bs = (none_, 0, 4) := by unfold read; rw [if_pos h]
theorem read_form {bs : List Nat} (h : ¬ 65536 < bs.length) (h2 : (h0 bs).2.why = 0 ∧ (h0 bs).1 ≠ mark) : read bs = (none_, 0, 3) := by unfold read; rw [if_neg h, if_pos h2]
theorem read_fault {bs : List Nat} (h : ¬ 65536 < bs.length) (h2 : ¬ ((h0 bs).2.why = 0 ∧ (h0 bs).1 ≠ mark)) (h3 : (endOf bs.length (body bs).2).why ≠ 0) :
    read bs = (none_, (endOf bs.length (body bs).2).wh, (endOf bs.length (body bs).2).why) := by unfold read; rw [if_neg h, if_neg h2, if_pos h3]
theorem read_wrong {bs : List Nat} (h : ¬ 65536 < bs.length) (h2 : ¬ ((h0 bs).2.why = 0 ∧ (h0 bs).1 ≠ mark)) (h3 : (endOf bs.length (body bs).2).why = 0) (h4 : (Q.check (pgOf (body bs).1)).2.2 ≠ 0) :
    read bs = (none_, bs.length, (Q.check (pgOf (body bs).1)).2.2) := by unfold read; rw [if_neg h, if_neg h2, if_neg (by omega), if_pos h4]
theorem read_fine {bs : List Nat} (h : ¬ 65536 < bs.length) (h2 : ¬ ((h0 bs).2.why = 0 ∧ (h0 bs).1 ≠ mark)) (h3 : (endOf bs.length (body bs).2).why = 0) (h4 : (Q.check (pgOf (body bs).1)).2.2 = 0) :
    read bs = ((body bs).1, 0, 0) := by unfold read; rw [if_neg h, if_neg h2, if_neg (by omega), if_neg (by omega)]
theorem body_back {d : PD} (h : PDOk d) (post : List Nat) : body (pgB d ++ post) = (d, ⟨(pgB d).length, 0, 0⟩) := by
  unfold body
  have h1 : h0 (pgB d ++ post) = (mark, ⟨4, 0, 0⟩) := by unfold pgB; rw [List.append_assoc]; exact h0_mark _
  rw [h1]
  have h2 := rdPg_back (bs := pgB d ++ post) (post := post) h (s := ⟨4, 0, 0⟩) rfl (by unfold pgB; rw [List.append_assoc]; rfl)
  rw [h2]
  unfold pgB
  rw [List.length_append]
  rfl
theorem not_form (t : List Nat) : ¬ ((h0 (mark ++ t)).2.why = 0 ∧ (h0 (mark ++ t)).1 ≠ mark) := fun h => h.2 (by rw [h0_mark])
theorem read_back {d : PD} (h : PDOk d) (hc : (Q.check (pgOf d)).2.2 = 0) : read (pgB d) = (d, 0, 0) := by
  have h1 := body_back h []
  rw [List.append_nil] at h1
  have hle := pgB_le h
  have he : endOf (pgB d).length (body (pgB d)).2 = (body (pgB d)).2 := endOf_at (by rw [h1]; simp)
  rw [read_fine (by omega) (by unfold pgB; exact not_form _) (by rw [he, h1]) (by rw [h1]; exact hc), h1]
theorem read_more {d : PD} (h : PDOk d) (m : Nat) : read (pgB d ++ [m]) = (none_, (pgB d).length, 7) := by
  have h1 := body_back h [m]
  have hle := pgB_le h
  have he : endOf (pgB d ++ [m]).length (body (pgB d ++ [m])).2 = ⟨(pgB d).length, (pgB d).length, 7⟩ := by rw [endOf_left (by rw [h1]; simp), h1]
  have hf : ¬ ((h0 (pgB d ++ [m])).2.why = 0 ∧ (h0 (pgB d ++ [m])).1 ≠ mark) := by unfold pgB; rw [List.append_assoc]; exact not_form _
  rw [read_fault (by simp; omega) hf (by rw [he]; exact (show (7 : Nat) ≠ 0 by decide)), he]
theorem read_cut {d : PD} (h : PDOk d) {n : Nat} (hn : n < (pgB d).length) : ∃ at_, at_ ≤ n ∧ read ((pgB d).take n) = (none_, at_, 2) := by
  have h1 := body_back h []
  rw [List.append_nil] at h1
  have hle := pgB_le h
  have hlen : ((pgB d).take n).length = n := by rw [List.length_take]; omega
  have hfin : ∀ (x : List Nat × R.St), h0 ((pgB d).take n) = x → (x.2.why ≠ 0 ∨ x.1 = mark) → (body ((pgB d).take n)).2.why = 2 → (body ((pgB d).take n)).2.wh ≤ n → ∃ at_, at_ ≤ n ∧ read ((pgB d).take n) = (none_, at_, 2) := by
    intro x hx hor hw hwh
    have he : endOf ((pgB d).take n).length (body ((pgB d).take n)).2 = (body ((pgB d).take n)).2 := endOf_at (by rw [hw]; simp)
    refine ⟨(body ((pgB d).take n)).2.wh, hwh, ?_⟩
    rw [read_fault (by omega) (by rw [hx]; rintro ⟨a, b⟩; rcases hor with hor | hor; exact hor a; exact b hor) (by rw [he, hw]; decide), he, hw]
  by_cases h4 : n < 4
  · have hr : h0 ((pgB d).take n) = ([], ⟨0, 0, 2⟩) := by
      unfold h0 R.raw
      rw [if_pos (by rfl), if_neg (by decide), if_pos (by rw [hlen]; show (n : Int) - 0 < 4; omega)]
      rfl
    have hb : (body ((pgB d).take n)).2 = ⟨0, 0, 2⟩ := by
      unfold body
      rw [hr]
      exact rdPg_keeps (stays_num _ ⟨0, 0, 2⟩ (by decide)) _ rfl
    exact hfin _ hr (.inl (by decide)) (by rw [hb]) (by rw [hb]; exact Nat.zero_le _)
  · have ht : (pgB d).take n = mark ++ (tailB d).take (n - 4) := by
      unfold pgB
      rw [List.take_append, List.take_of_length_le (show mark.length ≤ n by show 4 ≤ n; omega)]
      rfl
    have hr : h0 ((pgB d).take n) = (mark, ⟨4, 0, 0⟩) := by rw [ht]; exact h0_mark _
    have hr0 : h0 (pgB d) = (mark, ⟨4, 0, 0⟩) := h0_mark _
    have hc := rdPg_cut (bs := pgB d) (pgB_small d) (n := n) ⟨4, 0, 0⟩ ⟨4, 0, 0⟩ (.inl ⟨rfl, by show 4 ≤ n; omega, rfl⟩) (by have := congrArg (·.2.why) h1; unfold body at this; rw [hr0] at this; exact this)
    have hb1 : (rdPg (pgB d) ⟨4, 0, 0⟩).2 = ⟨(pgB d).length, 0, 0⟩ := by have := congrArg (·.2) h1; unfold body at this; rw [hr0] at this; exact this
    have hb2 : body ((pgB d).take n) = rdPg ((pgB d).take n) ⟨4, 0, 0⟩ := by unfold body; rw [hr]
    rw [hb1] at hc
    rcases hc with ⟨_, e, _⟩ | ⟨e1, e2, _⟩
    · exact absurd e (by show ¬ (pgB d).length ≤ n; omega)
    · exact hfin _ hr (.inr rfl) (by rw [hb2]; exact e1) (by rw [hb2]; exact e2)
theorem read_once {bs : List Nat} (hb : ∀ x ∈ bs, x < 256) {d : PD} {a : Nat} (h : read bs = (d, a, 0)) : pgB d = bs ∧ (Q.check (pgOf d)).2.2 = 0 ∧ a = 0 ∧ bs.length ≤ 65536 := by
  by_cases h1 : 65536 < bs.length
  · rw [read_long h1] at h; cases h
  · by_cases h2 : (h0 bs).2.why = 0 ∧ (h0 bs).1 ≠ mark
    · rw [read_form h1 h2] at h; cases h
    · by_cases h3 : (endOf bs.length (body bs).2).why = 0
      · by_cases h4 : (Q.check (pgOf (body bs).1)).2.2 = 0
        · rw [read_fine h1 h2 h3 h4] at h
          have hd := (Prod.mk.inj h).1
          have ha := (Prod.mk.inj (Prod.mk.inj h).2).1
          rw [← hd]
          refine ⟨?_, h4, ha.symm, by omega⟩
          have hw : (body bs).2.why = 0 ∧ bs.length ≤ (body bs).2.at_ := by
            by_cases h5 : (body bs).2.why = 0 ∧ (body bs).2.at_ < bs.length
            · rw [endOf_left h5] at h3
              exact absurd h3 (show (7 : Nat) ≠ 0 by decide)
            · rw [endOf_at h5] at h3
              exact ⟨h3, by omega⟩
          obtain ⟨e1, e2⟩ := rdPg_eats hb (h0 bs).2 hw.1
          have hm : (h0 bs).1 = mark := Classical.byContradiction fun hne => h2 ⟨e1, hne⟩
          obtain ⟨k1, k2, _⟩ := h0_once e1
          rw [k2] at e2
          have e3 : bs.drop (body bs).2.at_ = [] := List.drop_eq_nil_of_le hw.2
          have e4 : bs.drop 4 = tailB (body bs).1 := by
            rw [e2, show (rdPg bs (h0 bs).2) = body bs from rfl, e3, List.append_nil]
          unfold pgB
          rw [← e4, ← hm, k1, List.take_append_drop]
        · rw [read_wrong h1 h2 h3 h4] at h
          exact absurd (Prod.mk.inj (Prod.mk.inj h).2).2 h4
      · rw [read_fault h1 h2 h3] at h
        exact absurd (Prod.mk.inj (Prod.mk.inj h).2).2 h3
/-- Programs that may be have the same bytes just if they are the same. -/
theorem bytes_same {d e : PD} (hd : PDOk d) (he : PDOk e) : pgB d = pgB e ↔ d = e := by
  refine ⟨fun h => ?_, fun h => by rw [h]⟩
  have h1 := body_back hd []
  have h2 := body_back he []
  rw [h, h2] at h1
  exact (congrArg (·.1) h1).symm
end Go.Proofs.YtiojobajcnifpaaDoor.C
