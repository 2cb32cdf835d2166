/- CheckMath, PcodeMath, PcodeMath2, in one text. -/
import Derived.Test.YtiojobajcnifpaaDoorPk8
import Derived.Test.YtiojobajcnifpaaDoorPk4
import Derived.Test.YtiojobajcnifpaaDoorPk7
/- What is wrong with a program first, on plain data. -/
namespace Go.Proofs.YtiojobajcnifpaaDoor.Q

open Classical in
/-- The first number below n of which P holds. -/
noncomputable def firstIdx (P : Nat → Prop) : Nat → Option Nat
  | 0 => none
  | n + 1 => match firstIdx P n with
    | some i => some i
    | none => if P n then some n else none
theorem firstIdx_none {P : Nat → Prop} : ∀ n, (∀ i, i < n → ¬ P i) → firstIdx P n = none
  | 0, _ => rfl
  | n + 1, h => by
    have h1 := firstIdx_none n fun i hi => h i (by omega)
    have h2 := h n (by omega)
    simp only [firstIdx, h1, if_neg h2]
theorem firstIdx_some {P : Nat → Prop} {i : Nat} (hP : P i) : ∀ n, i < n → (∀ j, j < i → ¬ P j) → firstIdx P n = some i
  | 0, hi, _ => by omega
  | n + 1, hi, h => by
    by_cases hin : i < n
    · have h1 := firstIdx_some hP n hin h
      simp only [firstIdx, h1]
    · have e : i = n := by omega
      subst e
      have h1 := firstIdx_none i h
      simp only [firstIdx, h1, if_pos hP]

def badNode (p : Pg) (fn : Fn) (i : Nat) : Prop := ∃ nd, fn.nodes[i]? = some nd ∧ may p.g p.l p.s p.len nd fn.nodes.length = false
/-- What is wrong with a function first: where, and what. -/
noncomputable def fnFault (p : Pg) (fn : Fn) : Int × Nat :=
  if fn.nodes.length = 0 then (-1, 1) else if 64 < fn.nodes.length then (-1, 4) else match firstIdx (badNode p fn) fn.nodes.length with
    | some i => ((i : Int), 3)
    | none => (0, 0)
def badFn (p : Pg) (f : Nat) : Prop := ∃ fn, p.fns[f]? = some fn ∧ (fnFault p fn).2 ≠ 0
def roundAt (p : Pg) (f i : Nat) : Prop := ∃ fn nd, p.fns[f]? = some fn ∧ fn.nodes[i]? = some nd ∧ nd.kind = 7 ∧ ∃ k : Nat, nd.arg = (k : Int) ∧ k < p.fns.length ∧ (k = f ∨ Reach (calls p) p.fns.length k f)
noncomputable def roundIn (p : Pg) (f : Nat) : Option Nat := firstIdx (roundAt p f) 64
def badRound (p : Pg) (f : Nat) : Prop := ∃ i, roundAt p f i
/-- What is wrong first. -/
noncomputable def check (p : Pg) : Int × Int × Nat :=
  if p.g < 0 ∨ p.l < 0 ∨ p.s < 0 ∨ p.fns.length = 0 then (-1, -1, 1)
  else if 16 < p.g ∨ 16 < p.l ∨ 8 < p.s ∨ 16 < p.fns.length then (-1, -1, 4)
  else match firstIdx (badFn p) p.fns.length with
    | some f => ((f : Int), (fnFault p (p.fns.getD f default)).1, (fnFault p (p.fns.getD f default)).2)
    | none => match firstIdx (badRound p) p.fns.length with
      | some f => ((f : Int), (((roundIn p f).getD 0 : Nat) : Int), 8)
      | none => (0, 0, 0)

theorem fault_empty (p : Pg) (fn : Fn) (h : fn.nodes.length = 0) : fnFault p fn = (-1, 1) := by unfold fnFault; rw [if_pos h]
theorem fault_long (p : Pg) (fn : Fn) (h : 64 < fn.nodes.length) : fnFault p fn = (-1, 4) := by unfold fnFault; rw [if_neg (by omega), if_pos h]
theorem fault_node (p : Pg) (fn : Fn) (i : Nat) (h0 : fn.nodes.length ≠ 0) (h64 : fn.nodes.length ≤ 64) (hi : badNode p fn i) (hlt : i < fn.nodes.length) (hp : ∀ j, j < i → ¬ badNode p fn j) : fnFault p fn = ((i : Int), 3) := by
  unfold fnFault
  rw [if_neg h0, if_neg (by omega), firstIdx_some hi _ hlt hp]
theorem fault_none (p : Pg) (fn : Fn) (h0 : fn.nodes.length ≠ 0) (h64 : fn.nodes.length ≤ 64) (hp : ∀ j, j < fn.nodes.length → ¬ badNode p fn j) : fnFault p fn = (0, 0) := by
  unfold fnFault
  rw [if_neg h0, if_neg (by omega), firstIdx_none _ hp]
/-- It is of a count that may be. -/
structure Counts (p : Pg) : Prop where
  g : 0 ≤ p.g ∧ p.g ≤ 16
  l : 0 ≤ p.l ∧ p.l ≤ 16
  s : 0 ≤ p.s ∧ p.s ≤ 8
  f : 0 < p.fns.length ∧ p.fns.length ≤ 16
theorem check_fn {p : Pg} (hc : Counts p) {f : Nat} {fn : Fn} (hf : p.fns[f]? = some fn) (hb : (fnFault p fn).2 ≠ 0) (hp : ∀ j, j < f → ¬ badFn p j) : check p = ((f : Int), (fnFault p fn).1, (fnFault p fn).2) := by
  have hlt : f < p.fns.length := (List.getElem?_eq_some_iff.1 hf).1
  unfold check
  rw [if_neg (by have := hc.g; have := hc.l; have := hc.s; have := hc.f; omega), if_neg (by have := hc.g; have := hc.l; have := hc.s; have := hc.f; omega), firstIdx_some ⟨fn, hf, hb⟩ _ hlt hp]
  have e : p.fns.getD f default = fn := by rw [List.getD_eq_getElem?_getD, hf]; rfl
  simp only [e]
theorem check_round {p : Pg} (hc : Counts p) (hn : ∀ j, j < p.fns.length → ¬ badFn p j) {f i : Nat} (hr : roundAt p f i) (hi : i < 64) (hlt : f < p.fns.length) (hp : ∀ j, j < f → ¬ badRound p j) (hpi : ∀ j, j < i → ¬ roundAt p f j) : check p = ((f : Int), (i : Int), 8) := by
  unfold check
  rw [if_neg (by have := hc.g; have := hc.l; have := hc.s; have := hc.f; omega), if_neg (by have := hc.g; have := hc.l; have := hc.s; have := hc.f; omega), firstIdx_none _ hn]
  simp only
  rw [firstIdx_some ⟨i, hr⟩ _ hlt hp]
  have e : roundIn p f = some i := firstIdx_some hr _ hi hpi
  simp only [e, Option.getD_some]
theorem check_fine {p : Pg} (hc : Counts p) (hn : ∀ j, j < p.fns.length → ¬ badFn p j) (hp : ∀ j, j < p.fns.length → ¬ badRound p j) : check p = (0, 0, 0) := by
  unfold check
  rw [if_neg (by have := hc.g; have := hc.l; have := hc.s; have := hc.f; omega), if_neg (by have := hc.g; have := hc.l; have := hc.s; have := hc.f; omega), firstIdx_none _ hn]
  simp only
  rw [firstIdx_none _ hp]
/-- A program without such a fault: its nodes may be. -/
theorem fine_fn {p : Pg} {f : Nat} {fn : Fn} (hf : p.fns[f]? = some fn) (h : ¬ badFn p f) : 0 < fn.nodes.length ∧ fn.nodes.length ≤ 64 ∧ ∀ (i : Nat) (nd : Nd), fn.nodes[i]? = some nd → may p.g p.l p.s p.len nd fn.nodes.length = true := by
  have h2 : (fnFault p fn).2 = 0 := by
    cases e : (fnFault p fn).2 with
    | zero => rfl
    | succ k => exact absurd ⟨fn, hf, by omega⟩ h
  by_cases h0 : fn.nodes.length = 0
  · rw [fault_empty p fn h0] at h2; cases h2
  · by_cases h64 : 64 < fn.nodes.length
    · rw [fault_long p fn h64] at h2; cases h2
    · refine ⟨by omega, by omega, fun i nd hnd => ?_⟩
      cases hm : may p.g p.l p.s p.len nd fn.nodes.length with
      | true => rfl
      | false =>
        exfalso
        have hb : badNode p fn i := ⟨nd, hnd, hm⟩
        have hil : i < fn.nodes.length := (List.getElem?_eq_some_iff.1 hnd).1
        -- some first one
        have hex : ∃ i, i < fn.nodes.length ∧ badNode p fn i ∧ ∀ j, j < i → ¬ badNode p fn j := by
          have : ∀ n, (∃ i, i ≤ n ∧ badNode p fn i) → ∃ i, i ≤ n ∧ badNode p fn i ∧ ∀ j, j < i → ¬ badNode p fn j := by
            intro n
            induction n with
            | zero => rintro ⟨i, hi, hb⟩; exact ⟨i, hi, hb, fun j hj => by omega⟩
            | succ n ih =>
              rintro ⟨i, hi, hb⟩
              by_cases h : ∃ j, j ≤ n ∧ badNode p fn j
              · obtain ⟨j, h1, h2⟩ := ih h
                exact ⟨j, by omega, h2⟩
              · exact ⟨i, hi, hb, fun j hj hbj => h ⟨j, by omega, hbj⟩⟩
          obtain ⟨j, h1, h2⟩ := this i ⟨i, Nat.le_refl _, hb⟩
          exact ⟨j, by omega, h2⟩
        obtain ⟨j, h1, h3, h4⟩ := hex
        rw [fault_node p fn j h0 (by omega) h3 h1 h4] at h2
        cases h2
end Go.Proofs.YtiojobajcnifpaaDoor.Q

/- Programs as bytes, on plain data: nothing here speaks of the program. -/
namespace Go.Proofs.YtiojobajcnifpaaDoor.C

/-- What is told of a kind, in that order: 0 Arg, 1 Next, 2 Alt. -/
def tl (k : Int) : List Nat := if k = 0 then 1 :: [] else if k = 5 then 0 :: 1 :: 2 :: [] else if k = 8 then 1 :: 2 :: [] else if k = 9 then [] else 0 :: 1 :: []
def fld (x : Nd) (j : Nat) : Int := if j = 0 then x.arg else if j = 1 then x.next else x.alt
def set (x : Nd) (j : Nat) (v : Int) : Nd := if j = 0 then ⟨x.kind, v, x.next, x.alt⟩ else if j = 1 then ⟨x.kind, x.arg, v, x.alt⟩ else ⟨x.kind, x.arg, x.next, v⟩
theorem tl_le (k : Int) : ∀ j ∈ tl k, j ≤ 2 := by unfold tl; split <;> (try split) <;> (try split) <;> (try split) <;> simp
theorem tl_nodup (k : Int) : (tl k).Nodup := by unfold tl; split <;> (try split) <;> (try split) <;> (try split) <;> simp
theorem tl_len (k : Int) : (tl k).length ≤ 3 := by unfold tl; split <;> (try split) <;> (try split) <;> (try split) <;> simp
theorem set_kind (x : Nd) (j : Nat) (v : Int) : (set x j v).kind = x.kind := by unfold set; split <;> (try split) <;> rfl
theorem fld_set (x : Nd) (j : Nat) (v : Int) : fld (set x j v) j = v := by
  unfold fld set
  by_cases h0 : j = 0
  · simp [h0]
  · by_cases h1 : j = 1 <;> simp [h0, h1]
theorem fld_other (x : Nd) {i j : Nat} (v : Int) (hi : i ≤ 2) (hj : j ≤ 2) (h : i ≠ j) : fld (set x j v) i = fld x i := by
  unfold fld set
  by_cases h0 : j = 0
  · subst h0
    by_cases hi1 : i = 1
    · subst hi1; simp
    · have : i = 2 := by omega
      subst this; simp
  · by_cases h1 : j = 1
    · subst h1
      by_cases hi0 : i = 0
      · subst hi0; simp
      · have : i = 2 := by omega
        subst this; simp
    · have : j = 2 := by omega
      subst this
      by_cases hi0 : i = 0
      · subst hi0; simp
      · have : i = 1 := by omega
        subst this; simp
theorem nd_ext {x y : Nd} (hk : x.kind = y.kind) (h : ∀ j, j ≤ 2 → fld x j = fld y j) : x = y := by
  obtain ⟨k, a, n, t⟩ := x
  obtain ⟨k', a', n', t'⟩ := y
  have h0 := h 0 (by omega)
  have h1 := h 1 (by omega)
  have h2 := h 2 (by omega)
  simp [fld] at h0 h1 h2 hk
  simp [h0, h1, h2, hk]

/-- What a program's bytes are. -/
def nums (l : List Int) : List Nat := l.flatMap fun n => V.put (low32 n)
def told (x : Nd) : List Int := (tl x.kind).map (fld x)
def ndB (x : Nd) : List Nat := V.put (low32 x.kind) ++ nums (told x)
def ndsB (l : List Nd) : List Nat := l.flatMap ndB
def fnB (l : List Nd) : List Nat := V.put (low32 (l.length : Int)) ++ ndsB l
def fnsB (L : List (List Nd)) : List Nat := L.flatMap fnB
def mark : List Nat := 97 :: 108 :: 112 :: 49 :: []
structure PD where
  g : Int
  l : Int
  s : Int
  L : List (List Nd)
def tailB (d : PD) : List Nat := nums (d.g :: d.l :: d.s :: []) ++ (V.put (low32 (d.L.length : Int)) ++ fnsB d.L)
def pgB (d : PD) : List Nat := mark ++ tailB d
theorem nums_cons (n : Int) (l : List Int) : nums (n :: l) = V.put (low32 n) ++ nums l := rfl
theorem nums_nil : nums [] = [] := rfl
theorem nums_snoc (l : List Int) (n : Int) : nums (l ++ [n]) = nums l ++ V.put (low32 n) := by simp [nums]
theorem ndsB_cons (x : Nd) (l : List Nd) : ndsB (x :: l) = ndB x ++ ndsB l := rfl
theorem fnsB_cons (x : List Nd) (l : List (List Nd)) : fnsB (x :: l) = fnB x ++ fnsB l := rfl
theorem ndsB_snoc (l : List Nd) (x : Nd) : ndsB (l ++ [x]) = ndsB l ++ ndB x := by simp [ndsB]
theorem fnsB_snoc (l : List (List Nd)) (x : List Nd) : fnsB (l ++ [x]) = fnsB l ++ fnB x := by simp [fnsB]

/-- Reading. -/
def rdF (bs : List Nat) : List Nat → Nd → R.St → Nd × R.St
  | [], x, s => (x, s)
  | j :: r, x, s => rdF bs r (set x j ((R.num bs s 64).1 : Int)) (R.num bs s 64).2
def nd0 (k : Nat) : Nd := ⟨(k : Int), 0, 0, 0⟩
def rdNd (bs : List Nat) (s : R.St) : Nd × R.St := rdF bs (tl ((R.num bs s 9).1 : Int)) (nd0 (R.num bs s 9).1) (R.num bs s 9).2
def rdNds (bs : List Nat) : Nat → List Nd → R.St → List Nd × R.St
  | 0, l, s => (l, s)
  | k + 1, l, s => rdNds bs k (l ++ [(rdNd bs s).1]) (rdNd bs s).2
def rdFn (bs : List Nat) (s : R.St) : List Nd × R.St := rdNds bs (R.num bs s 64).1 [] (R.num bs s 64).2
def rdFns (bs : List Nat) : Nat → List (List Nd) → R.St → List (List Nd) × R.St
  | 0, L, s => (L, s)
  | k + 1, L, s => rdFns bs k (L ++ [(rdFn bs s).1]) (rdFn bs s).2
def hd1 (bs : List Nat) (s : R.St) : Nat × R.St := R.num bs s 16
def hd2 (bs : List Nat) (s : R.St) : Nat × R.St := R.num bs (hd1 bs s).2 16
def hd3 (bs : List Nat) (s : R.St) : Nat × R.St := R.num bs (hd2 bs s).2 8
def hd4 (bs : List Nat) (s : R.St) : Nat × R.St := R.num bs (hd3 bs s).2 16
def rdPg (bs : List Nat) (s : R.St) : PD × R.St :=
  (⟨((hd1 bs s).1 : Int), ((hd2 bs s).1 : Int), ((hd3 bs s).1 : Int), (rdFns bs (hd4 bs s).1 [] (hd4 bs s).2).1⟩, (rdFns bs (hd4 bs s).1 [] (hd4 bs s).2).2)

section
variable {bs : List Nat} {P : R.St → Prop}
theorem rdF_keeps (hP : ∀ s most, P s → P (R.num bs s most).2) : ∀ (js : List Nat) (x : Nd) (s : R.St), P s → P (rdF bs js x s).2
  | [], _, _, h => h
  | _ :: r, _, _, h => rdF_keeps hP r _ _ (hP _ _ h)
theorem rdNd_keeps (hP : ∀ s most, P s → P (R.num bs s most).2) (s : R.St) (h : P s) : P (rdNd bs s).2 := rdF_keeps hP _ _ _ (hP _ _ h)
theorem rdNds_keeps (hP : ∀ s most, P s → P (R.num bs s most).2) : ∀ (k : Nat) (l : List Nd) (s : R.St), P s → P (rdNds bs k l s).2
  | 0, _, _, h => h
  | k + 1, _, _, h => rdNds_keeps hP k _ _ (rdNd_keeps hP _ h)
theorem rdFn_keeps (hP : ∀ s most, P s → P (R.num bs s most).2) (s : R.St) (h : P s) : P (rdFn bs s).2 := rdNds_keeps hP _ _ _ (hP _ _ h)
theorem rdFns_keeps (hP : ∀ s most, P s → P (R.num bs s most).2) : ∀ (k : Nat) (l : List (List Nd)) (s : R.St), P s → P (rdFns bs k l s).2
  | 0, _, _, h => h
  | k + 1, _, _, h => rdFns_keeps hP k _ _ (rdFn_keeps hP _ h)
theorem rdPg_keeps (hP : ∀ s most, P s → P (R.num bs s most).2) (s : R.St) (h : P s) : P (rdPg bs s).2 := rdFns_keeps hP _ _ _ (hP _ _ (hP _ _ (hP _ _ (hP _ _ h))))
end

theorem stays_num (bs : List Nat) (s0 : R.St) (h0 : s0.why ≠ 0) : ∀ s most, s = s0 → (R.num bs s most).2 = s0 := by rintro s most rfl; rw [R.num_why h0]
theorem ups_num (bs : List Nat) (n : Nat) : ∀ (s : R.St) most, n ≤ s.at_ → n ≤ (R.num bs s most).2.at_ := by
  intro s most h
  unfold R.num R.fail
  repeat' split
  all_goals simp_all <;> omega

/-- A node that was read is one. -/
theorem rdF_kind (bs : List Nat) : ∀ (js : List Nat) (x : Nd) (s : R.St), (rdF bs js x s).1.kind = x.kind
  | [], _, _ => rfl
  | _ :: r, _, _ => by unfold rdF; rw [rdF_kind bs r, set_kind]
theorem rdF_fld (bs : List Nat) : ∀ (js : List Nat) (x : Nd) (s : R.St) (i : Nat), i ≤ 2 → (∀ j ∈ js, j ≤ 2) → i ∉ js → fld (rdF bs js x s).1 i = fld x i
  | [], _, _, _, _, _, _ => rfl
  | j :: r, x, s, i, hi, hj, hn => by
    unfold rdF
    rw [rdF_fld bs r _ _ i hi (fun k hk => hj k (List.mem_cons_of_mem _ hk)) (fun h => hn (List.mem_cons_of_mem _ h))]
    exact fld_other x _ hi (hj j List.mem_cons_self) (fun e => hn (e ▸ List.mem_cons_self))
theorem set_ok {x : Nd} (h : x.Ok) (j : Nat) {v : Int} (hv : I64 v) : (set x j v).Ok := by
  unfold set
  split
  · exact ⟨h.kind, hv, h.next, h.alt⟩
  · split
    · exact ⟨h.kind, h.arg, hv, h.alt⟩
    · exact ⟨h.kind, h.arg, h.next, hv⟩
theorem num_i64 {bs : List Nat} (s : R.St) {most : Int} (h0 : 0 ≤ most) (h1 : most ≤ 64) : I64 (((R.num bs s most).1 : Nat) : Int) := by
  have := R.num_le (bs := bs) (s := s) h0
  unfold I64; omega
theorem rdF_ok (bs : List Nat) : ∀ (js : List Nat) (x : Nd) (s : R.St), x.Ok → (rdF bs js x s).1.Ok
  | [], _, _, h => h
  | j :: r, _, s, h => rdF_ok bs r _ _ (set_ok h j (num_i64 s (by omega) (by omega)))
theorem nd0_ok {k : Nat} (h : k ≤ 64) : (nd0 k).Ok := ⟨by unfold nd0 I64; simp; omega, by unfold nd0 I64; simp, by unfold nd0 I64; simp, by unfold nd0 I64; simp⟩
theorem rdNd_ok (bs : List Nat) (s : R.St) : (rdNd bs s).1.Ok := rdF_ok bs _ _ _ (nd0_ok (by have := R.num_le (bs := bs) (s := s) (most := 9) (by omega); omega))
theorem rdNds_len (bs : List Nat) : ∀ (k : Nat) (l : List Nd) (s : R.St), (rdNds bs k l s).1.length = l.length + k
  | 0, _, _ => rfl
  | k + 1, l, s => by unfold rdNds; rw [rdNds_len bs k, List.length_append]; simp; omega
theorem rdFns_len (bs : List Nat) : ∀ (k : Nat) (l : List (List Nd)) (s : R.St), (rdFns bs k l s).1.length = l.length + k
  | 0, _, _ => rfl
  | k + 1, l, s => by unfold rdFns; rw [rdFns_len bs k, List.length_append]; simp; omega
theorem rdFn_len (bs : List Nat) (s : R.St) : (rdFn bs s).1.length ≤ 64 := by
  unfold rdFn; rw [rdNds_len]
  have := R.num_le (bs := bs) (s := s) (most := 64) (by omega)
  simp; omega
theorem rdFns_small (bs : List Nat) : ∀ (k : Nat) (L : List (List Nd)) (s : R.St), (∀ l ∈ L, l.length ≤ 64) → ∀ l ∈ (rdFns bs k L s).1, l.length ≤ 64
  | 0, _, _, h => h
  | k + 1, L, s, h => rdFns_small bs k _ _ fun l hl => by
    rcases List.mem_append.1 hl with h1 | h1
    · exact h l h1
    · rw [List.mem_singleton] at h1; subst h1; exact rdFn_len bs s

/-- What is read has just these bytes. -/
theorem num_eats {bs : List Nat} (hb : ∀ x ∈ bs, x < 256) {s : R.St} {most : Int} (h : (R.num bs s most).2.why = 0) :
    s.why = 0 ∧ bs.drop s.at_ = V.put (R.num bs s most).1 ++ bs.drop (R.num bs s most).2.at_ ∧ (R.num bs s most).1 < 4294967296 := by
  have hbd : ∀ x ∈ bs.drop s.at_, x < 256 := fun x hx => hb x (List.mem_of_mem_drop hx)
  by_cases hs : s.why = 0
  · refine ⟨hs, ?_⟩
    unfold R.num at h ⊢
    rw [if_pos hs] at h ⊢
    by_cases h0 : (V.get (bs.drop s.at_)).2.2 = 0
    · rw [if_pos h0] at h ⊢
      by_cases h1 : most < ((V.get (bs.drop s.at_)).1 : Int)
      · rw [if_pos h1] at h
        unfold R.fail at h
        rw [if_pos hs] at h
        simp at h
      · rw [if_neg h1]
        refine ⟨?_, (V.get_small _ hbd).1⟩
        have ho := (V.get_once _ hbd h0).1
        simp only
        rw [ho, ← List.drop_drop, List.take_append_drop]
    · rw [if_neg h0] at h
      unfold R.fail at h
      rw [if_pos hs] at h
      exact absurd h h0
  · rw [R.num_why hs] at h
    exact absurd h hs
theorem low_nat {n : Nat} (h : n < 4294967296) : low32 (n : Int) = n := low32_nat n h
theorem rdF_eats {bs : List Nat} (hb : ∀ x ∈ bs, x < 256) : ∀ (js : List Nat) (x : Nd) (s : R.St), js.Nodup → (∀ j ∈ js, j ≤ 2) → (rdF bs js x s).2.why = 0 →
    s.why = 0 ∧ bs.drop s.at_ = nums (js.map (fld (rdF bs js x s).1)) ++ bs.drop (rdF bs js x s).2.at_
  | [], _, _, _, _, h => ⟨h, rfl⟩
  | j :: r, x, s, hn, hj, h => by
    have hn2 := List.nodup_cons.1 hn
    unfold rdF at h ⊢
    have hj2 : ∀ k ∈ r, k ≤ 2 := fun k hk => hj k (List.mem_cons_of_mem _ hk)
    obtain ⟨h1, h2⟩ := rdF_eats hb r _ _ hn2.2 hj2 h
    obtain ⟨h3, h4, h5⟩ := num_eats hb h1
    refine ⟨h3, ?_⟩
    rw [List.map_cons, nums_cons, rdF_fld bs r _ _ j (hj j List.mem_cons_self) hj2 hn2.1, fld_set, low_nat h5, List.append_assoc, ← h2]
    exact h4
theorem rdNd_eats {bs : List Nat} (hb : ∀ x ∈ bs, x < 256) (s : R.St) (h : (rdNd bs s).2.why = 0) :
    s.why = 0 ∧ bs.drop s.at_ = ndB (rdNd bs s).1 ++ bs.drop (rdNd bs s).2.at_ := by
  unfold rdNd at h ⊢
  obtain ⟨h1, h2⟩ := rdF_eats hb _ _ _ (tl_nodup _) (tl_le _) h
  obtain ⟨h3, h4, h5⟩ := num_eats hb h1
  refine ⟨h3, ?_⟩
  unfold ndB told
  have hk := rdF_kind bs (tl ((R.num bs s 9).1 : Int)) (nd0 (R.num bs s 9).1) (R.num bs s 9).2
  rw [hk]
  show _ = V.put (low32 ((R.num bs s 9).1 : Int)) ++ nums ((tl ((R.num bs s 9).1 : Int)).map _) ++ _
  rw [low_nat h5, List.append_assoc, ← h2]
  exact h4
theorem rdNds_eats {bs : List Nat} (hb : ∀ x ∈ bs, x < 256) : ∀ (k : Nat) (l : List Nd) (s : R.St), (rdNds bs k l s).2.why = 0 →
    s.why = 0 ∧ ∃ m, (rdNds bs k l s).1 = l ++ m ∧ bs.drop s.at_ = ndsB m ++ bs.drop (rdNds bs k l s).2.at_
  | 0, l, s, h => ⟨h, [], (List.append_nil l).symm, rfl⟩
  | k + 1, l, s, h => by
    unfold rdNds at h ⊢
    obtain ⟨h1, m, h2, h3⟩ := rdNds_eats hb k _ _ h
    obtain ⟨h4, h5⟩ := rdNd_eats hb s h1
    refine ⟨h4, (rdNd bs s).1 :: m, by rw [h2, List.append_assoc]; rfl, ?_⟩
    rw [ndsB_cons, List.append_assoc, ← h3]
    exact h5
theorem rdFn_eats {bs : List Nat} (hb : ∀ x ∈ bs, x < 256) (s : R.St) (h : (rdFn bs s).2.why = 0) :
    s.why = 0 ∧ bs.drop s.at_ = fnB (rdFn bs s).1 ++ bs.drop (rdFn bs s).2.at_ := by
  have hl := rdNds_len bs (R.num bs s 64).1 [] (R.num bs s 64).2
  unfold rdFn at h ⊢
  obtain ⟨h1, m, h2, h3⟩ := rdNds_eats hb _ _ _ h
  obtain ⟨h4, h5, h6⟩ := num_eats hb h1
  refine ⟨h4, ?_⟩
  rw [List.nil_append] at h2
  unfold fnB
  rw [hl, h2, List.length_nil, Nat.zero_add, low_nat h6, List.append_assoc, ← h3]
  exact h5
theorem rdFns_eats {bs : List Nat} (hb : ∀ x ∈ bs, x < 256) : ∀ (k : Nat) (l : List (List Nd)) (s : R.St), (rdFns bs k l s).2.why = 0 →
    s.why = 0 ∧ ∃ m, (rdFns bs k l s).1 = l ++ m ∧ bs.drop s.at_ = fnsB m ++ bs.drop (rdFns bs k l s).2.at_
  | 0, l, s, h => ⟨h, [], (List.append_nil l).symm, rfl⟩
  | k + 1, l, s, h => by
    unfold rdFns at h ⊢
    obtain ⟨h1, m, h2, h3⟩ := rdFns_eats hb k _ _ h
    obtain ⟨h4, h5⟩ := rdFn_eats hb s h1
    refine ⟨h4, (rdFn bs s).1 :: m, by rw [h2, List.append_assoc]; rfl, ?_⟩
    rw [fnsB_cons, List.append_assoc, ← h3]
    exact h5
theorem rdPg_eats {bs : List Nat} (hb : ∀ x ∈ bs, x < 256) (s : R.St) (h : (rdPg bs s).2.why = 0) :
    s.why = 0 ∧ bs.drop s.at_ = tailB (rdPg bs s).1 ++ bs.drop (rdPg bs s).2.at_ := by
  have hl := rdFns_len bs (hd4 bs s).1 [] (hd4 bs s).2
  unfold rdPg at h ⊢
  obtain ⟨h1, m, h2, h3⟩ := rdFns_eats hb _ _ _ h
  obtain ⟨a1, a2, a3⟩ := num_eats hb (show (R.num bs (hd3 bs s).2 16).2.why = 0 from h1)
  obtain ⟨b1, b2, b3⟩ := num_eats hb (show (R.num bs (hd2 bs s).2 8).2.why = 0 from a1)
  obtain ⟨c1, c2, c3⟩ := num_eats hb (show (R.num bs (hd1 bs s).2 16).2.why = 0 from b1)
  obtain ⟨d1, d2, d3⟩ := num_eats hb (show (R.num bs s 16).2.why = 0 from c1)
  refine ⟨d1, ?_⟩
  rw [List.nil_append] at h2
  unfold tailB
  simp only
  rw [hl, h2, List.length_nil, Nat.zero_add]
  show _ = (V.put (low32 ((R.num bs s 16).1 : Int)) ++ (V.put (low32 ((R.num bs (hd1 bs s).2 16).1 : Int)) ++ (V.put (low32 ((R.num bs (hd2 bs s).2 8).1 : Int)) ++ []))) ++ (V.put (low32 ((R.num bs (hd3 bs s).2 16).1 : Int)) ++ fnsB m) ++ _
  rw [low_nat a3, low_nat b3, low_nat c3, low_nat d3]
  simp only [List.append_assoc, List.append_nil]
  rw [d2, show (R.num bs s 16).2 = (hd1 bs s).2 from rfl, c2, show (R.num bs (hd1 bs s).2 16).2 = (hd2 bs s).2 from rfl, b2, show (R.num bs (hd2 bs s).2 8).2 = (hd3 bs s).2 from rfl, a2, show (R.num bs (hd3 bs s).2 16).2 = (hd4 bs s).2 from rfl, h3]
end Go.Proofs.YtiojobajcnifpaaDoor.C

/- What is written is read as it was, and each front of it is too short, on plain data. -/
namespace Go.Proofs.YtiojobajcnifpaaDoor.C

/-- A number that is read: from 0 to some. -/
def In (m : Int) (n : Int) : Prop := 0 ≤ n ∧ n ≤ m
theorem num_back {bs post : List Nat} {s : R.St} {n most : Int} (hn : In most n) (hm : most ≤ 64) (hd : bs.drop s.at_ = V.put (low32 n) ++ post) (hw : s.why = 0) :
    R.num bs s most = (n.toNat, ⟨s.at_ + (V.put (low32 n)).length, s.wh, 0⟩) := by
  obtain ⟨h1, h2⟩ := hn
  have e : low32 n = n.toNat := by unfold low32; omega
  rw [e] at hd ⊢
  exact R.num_at hd (by omega) (by omega) hw
theorem drop_on {bs a b : List Nat} {k : Nat} (h : bs.drop k = a ++ b) : bs.drop (k + a.length) = b := by
  rw [← List.drop_drop, h, List.drop_left']
  rfl
theorem st_add (a b c : Nat) (s : R.St) (h : a + b = c) : (⟨s.at_ + a + b, s.wh, 0⟩ : R.St) = ⟨s.at_ + c, s.wh, 0⟩ := by rw [← h, Nat.add_assoc]

theorem rdF_back {bs post : List Nat} (y : Nd) : ∀ (js : List Nat) (x : Nd) (s : R.St), js.Nodup → (∀ j ∈ js, j ≤ 2 ∧ In 64 (fld y j)) → s.why = 0 → bs.drop s.at_ = nums (js.map (fld y)) ++ post →
    ∃ z, rdF bs js x s = (z, ⟨s.at_ + (nums (js.map (fld y))).length, s.wh, 0⟩) ∧ z.kind = x.kind ∧ (∀ j ∈ js, fld z j = fld y j) ∧ ∀ j, j ≤ 2 → j ∉ js → fld z j = fld x j
  | [], x, s, _, _, hw, _ => by
    obtain ⟨a, b, c⟩ := s
    simp only at hw
    subst hw
    exact ⟨x, rfl, rfl, by simp, fun _ _ _ => rfl⟩
  | j :: r, x, s, hn, hj, hw, hd => by
    have hn2 := List.nodup_cons.1 hn
    rw [List.map_cons, nums_cons, List.append_assoc] at hd
    have hb := num_back (hj j List.mem_cons_self).2 (by omega) hd hw
    have hjr : ∀ k ∈ r, k ≤ 2 ∧ In 64 (fld y k) := fun k hk => hj k (List.mem_cons_of_mem _ hk)
    have hv : (((fld y j).toNat : Nat) : Int) = fld y j := Int.toNat_of_nonneg (hj j List.mem_cons_self).2.1
    obtain ⟨z, h1, h2, h3, h4⟩ := rdF_back y r (set x j (fld y j)) ⟨s.at_ + (V.put (low32 (fld y j))).length, s.wh, 0⟩ hn2.2 hjr rfl (drop_on hd)
    refine ⟨z, ?_, by rw [h2, set_kind], ?_, ?_⟩
    · unfold rdF
      rw [hb]
      simp only
      rw [hv, h1, List.map_cons, nums_cons, List.length_append, st_add _ _ _ _ rfl]
    · intro k hk
      rcases List.mem_cons.1 hk with e | hk
      · subst e
        rw [h4 k (hj k List.mem_cons_self).1 hn2.1, fld_set]
      · exact h3 k hk
    · intro k hk hnk
      rw [h4 k hk (fun h => hnk (List.mem_cons_of_mem _ h))]
      exact fld_other x _ hk (hj j List.mem_cons_self).1 (fun e => hnk (e ▸ List.mem_cons_self))
/-- A node whose numbers can be read, and which has nothing that is not told. -/
structure NdOk (x : Nd) : Prop where
  kind : In 9 x.kind
  fields : ∀ j, j ≤ 2 → In 64 (fld x j)
  rest : ∀ j, j ≤ 2 → j ∉ tl x.kind → fld x j = 0
theorem fld_nd0 (k j : Nat) : fld (nd0 k) j = 0 := by unfold fld nd0; split <;> (try split) <;> rfl
theorem rdNd_back {bs post : List Nat} {x : Nd} (hx : NdOk x) {s : R.St} (hw : s.why = 0) (hd : bs.drop s.at_ = ndB x ++ post) : rdNd bs s = (x, ⟨s.at_ + (ndB x).length, s.wh, 0⟩) := by
  unfold ndB told at hd ⊢
  rw [List.append_assoc] at hd
  have hb := num_back hx.kind (by omega) hd hw
  have hv : ((x.kind.toNat : Nat) : Int) = x.kind := Int.toNat_of_nonneg hx.kind.1
  obtain ⟨z, h1, h2, h3, h4⟩ := rdF_back (bs := bs) (post := post) x (tl x.kind) (nd0 x.kind.toNat) ⟨s.at_ + (V.put (low32 x.kind)).length, s.wh, 0⟩ (tl_nodup _) (fun j hj => ⟨tl_le _ j hj, hx.fields j (tl_le _ j hj)⟩) rfl (drop_on hd)
  have hz : z = x := by
    refine nd_ext (by rw [h2]; exact hv) fun j hj => ?_
    by_cases hm : j ∈ tl x.kind
    · exact h3 j hm
    · rw [h4 j hj hm, fld_nd0, hx.rest j hj hm]
  subst hz
  unfold rdNd
  rw [hb]
  simp only
  rw [hv, h1, List.length_append, st_add _ _ _ _ rfl]
theorem rdNds_back {bs post : List Nat} : ∀ (m l : List Nd) (s : R.St), (∀ x ∈ m, NdOk x) → s.why = 0 → bs.drop s.at_ = ndsB m ++ post → rdNds bs m.length l s = (l ++ m, ⟨s.at_ + (ndsB m).length, s.wh, 0⟩)
  | [], l, s, _, hw, _ => by
    obtain ⟨a, b, c⟩ := s
    simp only at hw
    subst hw
    rw [List.append_nil]; rfl
  | x :: m, l, s, hx, hw, hd => by
    rw [ndsB_cons, List.append_assoc] at hd
    have h1 := rdNd_back (hx x List.mem_cons_self) hw hd
    rw [List.length_cons]
    unfold rdNds
    rw [h1]
    simp only
    rw [rdNds_back m _ ⟨s.at_ + (ndB x).length, s.wh, 0⟩ (fun y hy => hx y (List.mem_cons_of_mem _ hy)) rfl (drop_on hd), ndsB_cons, List.length_append, st_add _ _ _ _ rfl, List.append_assoc]
    rfl
structure FnOk (l : List Nd) : Prop where
  len : l.length ≤ 64
  nodes : ∀ x ∈ l, NdOk x
theorem rdFn_back {bs post : List Nat} {l : List Nd} (hl : FnOk l) {s : R.St} (hw : s.why = 0) (hd : bs.drop s.at_ = fnB l ++ post) : rdFn bs s = (l, ⟨s.at_ + (fnB l).length, s.wh, 0⟩) := by
  unfold fnB at hd ⊢
  rw [List.append_assoc] at hd
  have h64 := hl.len
  have hb := num_back (most := 64) (n := (l.length : Int)) ⟨by omega, by omega⟩ (by omega) hd hw
  unfold rdFn
  rw [hb]
  simp only
  rw [Int.toNat_natCast, rdNds_back l [] ⟨s.at_ + (V.put (low32 (l.length : Int))).length, s.wh, 0⟩ hl.nodes rfl (drop_on hd), List.length_append, st_add _ _ _ _ rfl]
  rfl
theorem rdFns_back {bs post : List Nat} : ∀ (m l : List (List Nd)) (s : R.St), (∀ x ∈ m, FnOk x) → s.why = 0 → bs.drop s.at_ = fnsB m ++ post → rdFns bs m.length l s = (l ++ m, ⟨s.at_ + (fnsB m).length, s.wh, 0⟩)
  | [], l, s, _, hw, _ => by
    obtain ⟨a, b, c⟩ := s
    simp only at hw
    subst hw
    rw [List.append_nil]; rfl
  | x :: m, l, s, hx, hw, hd => by
    rw [fnsB_cons, List.append_assoc] at hd
    have h1 := rdFn_back (hx x List.mem_cons_self) hw hd
    rw [List.length_cons]
    unfold rdFns
    rw [h1]
    simp only
    rw [rdFns_back m _ ⟨s.at_ + (fnB x).length, s.wh, 0⟩ (fun y hy => hx y (List.mem_cons_of_mem _ hy)) rfl (drop_on hd), fnsB_cons, List.length_append, st_add _ _ _ _ rfl, List.append_assoc]
    rfl
/-- A program that can be read. -/
structure PDOk (d : PD) : Prop where
  g : In 16 d.g
  l : In 16 d.l
  s : In 8 d.s
  len : d.L.length ≤ 16
  fns : ∀ x ∈ d.L, FnOk x
theorem rdPg_back {bs post : List Nat} {d : PD} (hd0 : PDOk d) {s : R.St} (hw : s.why = 0) (hd : bs.drop s.at_ = tailB d ++ post) : rdPg bs s = (d, ⟨s.at_ + (tailB d).length, s.wh, 0⟩) := by
  unfold tailB at hd ⊢
  rw [nums_cons, nums_cons, nums_cons, nums_nil] at hd ⊢
  simp only [List.append_assoc, List.append_nil] at hd
  have hl := hd0.len
  have e1 : hd1 bs s = (d.g.toNat, ⟨s.at_ + (V.put (low32 d.g)).length, s.wh, 0⟩) := num_back hd0.g (by omega) hd hw
  have k1 := drop_on hd
  have e2 : hd2 bs s = (d.l.toNat, ⟨s.at_ + (V.put (low32 d.g)).length + (V.put (low32 d.l)).length, s.wh, 0⟩) := by
    unfold hd2; rw [e1]
    exact num_back (s := ⟨s.at_ + (V.put (low32 d.g)).length, s.wh, 0⟩) hd0.l (by omega) k1 rfl
  have k2 := drop_on k1
  have e3 : hd3 bs s = (d.s.toNat, ⟨s.at_ + (V.put (low32 d.g)).length + (V.put (low32 d.l)).length + (V.put (low32 d.s)).length, s.wh, 0⟩) := by
    unfold hd3; rw [e2]
    exact num_back (s := ⟨s.at_ + (V.put (low32 d.g)).length + (V.put (low32 d.l)).length, s.wh, 0⟩) hd0.s (by omega) k2 rfl
  have k3 := drop_on k2
  have e4 : hd4 bs s = (d.L.length, ⟨s.at_ + (V.put (low32 d.g)).length + (V.put (low32 d.l)).length + (V.put (low32 d.s)).length + (V.put (low32 (d.L.length : Int))).length, s.wh, 0⟩) := by
    unfold hd4; rw [e3]
    exact num_back (s := ⟨s.at_ + (V.put (low32 d.g)).length + (V.put (low32 d.l)).length + (V.put (low32 d.s)).length, s.wh, 0⟩) (n := (d.L.length : Int)) ⟨by omega, by omega⟩ (by omega) k3 rfl
  have k4 := drop_on k3
  have e5 := rdFns_back d.L [] ⟨s.at_ + (V.put (low32 d.g)).length + (V.put (low32 d.l)).length + (V.put (low32 d.s)).length + (V.put (low32 (d.L.length : Int))).length, s.wh, 0⟩ hd0.fns rfl k4
  unfold rdPg
  rw [e4]
  simp only
  rw [e5, e1, e2, e3]
  simp only
  rw [Int.toNat_of_nonneg hd0.g.1, Int.toNat_of_nonneg hd0.l.1, Int.toNat_of_nonneg hd0.s.1, List.nil_append]
  simp only [List.length_append, List.append_assoc, List.append_nil, Nat.add_assoc]

/-- A reader of a front, beside one of the whole. -/
def Cut (n : Nat) (s t : R.St) : Prop := (t = s ∧ s.at_ ≤ n ∧ s.why = 0) ∨ (t.why = 2 ∧ t.wh ≤ n ∧ n < s.at_)
theorem get_front {l : List Nat} (hb : ∀ x ∈ l, x < 256) (h : (V.get l).2.2 = 0) (n : Nat) : V.get (l.take n) = if (V.get l).2.1 ≤ n then V.get l else (0, 0, 2) := by
  obtain ⟨h1, h2, h3⟩ := V.get_once l hb h
  have h4 := (V.get_small l hb).1
  have hk : (V.get l).2.1 = V.size (V.get l).1 := by
    rw [← V.len_put _ h4, h1, List.length_take]; omega
  by_cases hle : (V.get l).2.1 ≤ n
  · rw [if_pos hle]
    have hl : l.take n = V.put (V.get l).1 ++ (l.take n).drop (V.get l).2.1 := by
      rw [h1]
      have : l.take (V.get l).2.1 = (l.take n).take (V.get l).2.1 := by rw [List.take_take, Nat.min_eq_left hle]
      rw [this, List.take_append_drop]
    rw [hl, V.get_put _ h4, ← hk, ← h]
  · rw [if_neg hle]
    have hl : l.take n = (V.put (V.get l).1).take n := by rw [h1, List.take_take, Nat.min_eq_left (by omega)]
    rw [hl]
    exact V.get_cut _ h4 _ (by omega)
theorem num_cut {bs : List Nat} (hb : ∀ x ∈ bs, x < 256) {n : Nat} {s t : R.St} {most : Int} (h : Cut n s t) (hw : (R.num bs s most).2.why = 0) :
    Cut n (R.num bs s most).2 (R.num (bs.take n) t most).2 ∧ ((R.num (bs.take n) t most).2.why = 0 → (R.num (bs.take n) t most).1 = (R.num bs s most).1) := by
  rcases h with ⟨rfl, h1, h2⟩ | ⟨h1, h2, h3⟩
  · have hbd : ∀ x ∈ bs.drop t.at_, x < 256 := fun x hx => hb x (List.mem_of_mem_drop hx)
    have hdt : (bs.take n).drop t.at_ = (bs.drop t.at_).take (n - t.at_) := List.drop_take ..
    unfold R.num at hw ⊢
    rw [if_pos h2] at hw ⊢
    rw [if_pos h2, hdt]
    by_cases h0 : (V.get (bs.drop t.at_)).2.2 = 0
    · rw [if_pos h0] at hw ⊢
      by_cases hm : most < ((V.get (bs.drop t.at_)).1 : Int)
      · rw [if_pos hm] at hw
        unfold R.fail at hw
        rw [if_pos h2] at hw
        simp at hw
      · rw [if_neg hm] at hw ⊢
        rw [get_front hbd h0]
        by_cases hle : (V.get (bs.drop t.at_)).2.1 ≤ n - t.at_
        · rw [if_pos hle, if_pos h0, if_neg hm]
          exact ⟨.inl ⟨rfl, by simp only; omega, rfl⟩, fun _ => rfl⟩
        · rw [if_neg hle, if_neg (by decide)]
          unfold R.fail
          rw [if_pos h2]
          refine ⟨.inr ⟨rfl, h1, by simp only; omega⟩, fun h => ?_⟩
          simp at h
    · rw [if_neg h0] at hw
      unfold R.fail at hw
      rw [if_pos h2] at hw
      exact absurd hw h0
  · rw [R.num_why (bs := bs.take n) (s := t) (by rw [h1]; decide)]
    refine ⟨.inr ⟨h1, h2, ?_⟩, fun h => ?_⟩
    · exact Nat.lt_of_lt_of_le h3 (ups_num bs s.at_ s most (Nat.le_refl _))
    · rw [h1] at h; cases h
/-- Whatever is read behind a fault leaves the reader as it is. -/
theorem cut_stays {n : Nat} {s s' t t' : R.St} (h : t.why = 2 ∧ t.wh ≤ n ∧ n < s.at_) (ht : t' = t) (hs : s.at_ ≤ s'.at_) : Cut n s' t' := by subst ht; exact .inr ⟨h.1, h.2.1, by omega⟩

theorem rdF_cut {bs : List Nat} (hb : ∀ x ∈ bs, x < 256) {n : Nat} : ∀ (js : List Nat) (x : Nd) (s t : R.St), Cut n s t → (rdF bs js x s).2.why = 0 →
    Cut n (rdF bs js x s).2 (rdF (bs.take n) js x t).2 ∧ ((rdF (bs.take n) js x t).2.why = 0 → (rdF (bs.take n) js x t).1 = (rdF bs js x s).1)
  | [], _, _, _, h, _ => ⟨h, fun _ => rfl⟩
  | j :: r, x, s, t, h, hw => by
    unfold rdF at hw ⊢
    have h1 : (R.num bs s 64).2.why = 0 := Classical.byContradiction fun hne => by
      have := rdF_keeps (bs := bs) (stays_num bs _ hne) r (set x j ((R.num bs s 64).1 : Int)) _ rfl
      rw [this] at hw; exact hne hw
    obtain ⟨h2, h3⟩ := num_cut hb h h1
    rcases h2 with h2 | h2
    · have hx := h3 (by rw [h2.1]; exact h1)
      rw [hx]
      exact rdF_cut hb r _ _ _ (.inl h2) hw
    · have hk := rdF_keeps (bs := bs.take n) (stays_num (bs.take n) (R.num (bs.take n) t 64).2 (by rw [h2.1]; decide)) r (set x j ((R.num (bs.take n) t 64).1 : Int)) _ rfl
      refine ⟨cut_stays h2 hk (rdF_keeps (ups_num bs _) r _ _ (Nat.le_refl _)), fun he => ?_⟩
      rw [hk, h2.1] at he; cases he
theorem rdNd_cut {bs : List Nat} (hb : ∀ x ∈ bs, x < 256) {n : Nat} (s t : R.St) (h : Cut n s t) (hw : (rdNd bs s).2.why = 0) :
    Cut n (rdNd bs s).2 (rdNd (bs.take n) t).2 ∧ ((rdNd (bs.take n) t).2.why = 0 → (rdNd (bs.take n) t).1 = (rdNd bs s).1) := by
  unfold rdNd at hw ⊢
  have h1 : (R.num bs s 9).2.why = 0 := Classical.byContradiction fun hne => by
    have := rdF_keeps (bs := bs) (stays_num bs _ hne) (tl ((R.num bs s 9).1 : Int)) (nd0 (R.num bs s 9).1) _ rfl
    rw [this] at hw; exact hne hw
  obtain ⟨h2, h3⟩ := num_cut hb h h1
  rcases h2 with h2 | h2
  · have hx := h3 (by rw [h2.1]; exact h1)
    rw [hx]
    exact rdF_cut hb _ _ _ _ (.inl h2) hw
  · have hk := rdF_keeps (bs := bs.take n) (stays_num (bs.take n) (R.num (bs.take n) t 9).2 (by rw [h2.1]; decide)) (tl ((R.num (bs.take n) t 9).1 : Int)) (nd0 (R.num (bs.take n) t 9).1) _ rfl
    refine ⟨cut_stays h2 hk (rdF_keeps (ups_num bs _) _ _ _ (Nat.le_refl _)), fun he => ?_⟩
    rw [hk, h2.1] at he; cases he
theorem rdNds_cut {bs : List Nat} (hb : ∀ x ∈ bs, x < 256) {n : Nat} : ∀ (k : Nat) (l : List Nd) (s t : R.St), Cut n s t → (rdNds bs k l s).2.why = 0 →
    Cut n (rdNds bs k l s).2 (rdNds (bs.take n) k l t).2 ∧ ((rdNds (bs.take n) k l t).2.why = 0 → (rdNds (bs.take n) k l t).1 = (rdNds bs k l s).1)
  | 0, _, _, _, h, _ => ⟨h, fun _ => rfl⟩
  | k + 1, l, s, t, h, hw => by
    unfold rdNds at hw ⊢
    have h1 : (rdNd bs s).2.why = 0 := Classical.byContradiction fun hne => by
      have := rdNds_keeps (bs := bs) (stays_num bs _ hne) k (l ++ [(rdNd bs s).1]) _ rfl
      rw [this] at hw; exact hne hw
    obtain ⟨h2, h3⟩ := rdNd_cut hb s t h h1
    rcases h2 with h2 | h2
    · have hx := h3 (by rw [h2.1]; exact h1)
      rw [hx]
      exact rdNds_cut hb k _ _ _ (.inl h2) hw
    · have hk := rdNds_keeps (bs := bs.take n) (stays_num (bs.take n) (rdNd (bs.take n) t).2 (by rw [h2.1]; decide)) k (l ++ [(rdNd (bs.take n) t).1]) _ rfl
      refine ⟨cut_stays h2 hk (rdNds_keeps (ups_num bs _) k _ _ (Nat.le_refl _)), fun he => ?_⟩
      rw [hk, h2.1] at he; cases he
theorem rdFn_cut {bs : List Nat} (hb : ∀ x ∈ bs, x < 256) {n : Nat} (s t : R.St) (h : Cut n s t) (hw : (rdFn bs s).2.why = 0) :
    Cut n (rdFn bs s).2 (rdFn (bs.take n) t).2 ∧ ((rdFn (bs.take n) t).2.why = 0 → (rdFn (bs.take n) t).1 = (rdFn bs s).1) := by
  unfold rdFn at hw ⊢
  have h1 : (R.num bs s 64).2.why = 0 := Classical.byContradiction fun hne => by
    have := rdNds_keeps (bs := bs) (stays_num bs _ hne) (R.num bs s 64).1 [] _ rfl
    rw [this] at hw; exact hne hw
  obtain ⟨h2, h3⟩ := num_cut hb h h1
  rcases h2 with h2 | h2
  · have hx := h3 (by rw [h2.1]; exact h1)
    rw [hx]
    exact rdNds_cut hb _ _ _ _ (.inl h2) hw
  · have hk := rdNds_keeps (bs := bs.take n) (stays_num (bs.take n) (R.num (bs.take n) t 64).2 (by rw [h2.1]; decide)) (R.num (bs.take n) t 64).1 [] _ rfl
    refine ⟨cut_stays h2 hk (rdNds_keeps (ups_num bs _) _ _ _ (Nat.le_refl _)), fun he => ?_⟩
    rw [hk, h2.1] at he; cases he
theorem rdFns_cut {bs : List Nat} (hb : ∀ x ∈ bs, x < 256) {n : Nat} : ∀ (k : Nat) (l : List (List Nd)) (s t : R.St), Cut n s t → (rdFns bs k l s).2.why = 0 →
    Cut n (rdFns bs k l s).2 (rdFns (bs.take n) k l t).2
  | 0, _, _, _, h, _ => h
  | k + 1, l, s, t, h, hw => by
    unfold rdFns at hw ⊢
    have h1 : (rdFn bs s).2.why = 0 := Classical.byContradiction fun hne => by
      have := rdFns_keeps (bs := bs) (stays_num bs _ hne) k (l ++ [(rdFn bs s).1]) _ rfl
      rw [this] at hw; exact hne hw
    obtain ⟨h2, h3⟩ := rdFn_cut hb s t h h1
    rcases h2 with h2 | h2
    · have hx := h3 (by rw [h2.1]; exact h1)
      rw [hx]
      exact rdFns_cut hb k _ _ _ (.inl h2) hw
    · exact cut_stays h2 (rdFns_keeps (bs := bs.take n) (stays_num (bs.take n) (rdFn (bs.take n) t).2 (by rw [h2.1]; decide)) k _ _ rfl) (rdFns_keeps (ups_num bs _) k _ _ (Nat.le_refl _))
theorem rdPg_cut {bs : List Nat} (hb : ∀ x ∈ bs, x < 256) {n : Nat} (s t : R.St) (h : Cut n s t) (hw : (rdPg bs s).2.why = 0) : Cut n (rdPg bs s).2 (rdPg (bs.take n) t).2 := by
  unfold rdPg at hw ⊢
  simp only at hw ⊢
  have h4 : (hd4 bs s).2.why = 0 := Classical.byContradiction fun hne => by
    have := rdFns_keeps (bs := bs) (stays_num bs _ hne) (hd4 bs s).1 [] _ rfl
    rw [this] at hw; exact hne hw
  have h3 := (num_eats hb (show (R.num bs (hd3 bs s).2 16).2.why = 0 from h4)).1
  have h2 := (num_eats hb (show (R.num bs (hd2 bs s).2 8).2.why = 0 from h3)).1
  have h1 := (num_eats hb (show (R.num bs (hd1 bs s).2 16).2.why = 0 from h2)).1
  have c1 := (num_cut hb h (show (R.num bs s 16).2.why = 0 from h1)).1
  have c2 := (num_cut hb c1 (show (R.num bs (hd1 bs s).2 16).2.why = 0 from h2)).1
  have c3 := (num_cut hb c2 (show (R.num bs (hd2 bs s).2 8).2.why = 0 from h3)).1
  obtain ⟨c4, hx⟩ := num_cut hb c3 (show (R.num bs (hd3 bs s).2 16).2.why = 0 from h4)
  rcases c4 with c4 | c4
  · have hx1 := hx (by rw [c4.1]; exact h4)
    have hx2 : (hd4 (bs.take n) t).1 = (hd4 bs s).1 := hx1
    rw [hx2]
    exact rdFns_cut hb _ _ _ _ (.inl c4) hw
  · exact cut_stays c4 (rdFns_keeps (bs := bs.take n) (stays_num (bs.take n) (hd4 (bs.take n) t).2 (by rw [show (hd4 (bs.take n) t).2.why = 2 from c4.1]; decide)) _ _ _ rfl) (rdFns_keeps (ups_num bs _) _ _ _ (Nat.le_refl _))
end Go.Proofs.YtiojobajcnifpaaDoor.C
