/- TextMath, Acts, Early, in one text. -/
import Derived.Test.YtiojobajcnifpaaDoorPk14
import Derived.Lib.SplitLaws
import Derived.Lib.ItoaNum
import Derived.Test.YtiojobajcnifpaaDoorPk7
import Derived.Test.YtiojobajcnifpaaDoorPk1
/- Texts of programs, on plain data: nothing here speaks of the program. -/
namespace Go.Proofs.YtiojobajcnifpaaDoor.T

/-- A list, parted by a byte. -/
def glue (x : UInt8) : List (List UInt8) → List (List UInt8)
  | [] => [[x]]
  | p :: ps => (x :: p) :: ps
def parts (c : UInt8) : List UInt8 → List (List UInt8)
  | [] => [[]]
  | x :: l => if x = c then [] :: parts c l else glue x (parts c l)
theorem parts_eq (c : UInt8) (l : List UInt8) : parts c (c :: l) = [] :: parts c l := by rw [parts, if_pos rfl]
theorem parts_other {c x : UInt8} (h : x ≠ c) (l : List UInt8) : parts c (x :: l) = glue x (parts c l) := by rw [parts, if_neg h]
theorem parts_pos (c : UInt8) (l : List UInt8) : ∃ p ps, parts c l = p :: ps := by
  cases l with
  | nil => exact ⟨_, _, rfl⟩
  | cons x l =>
    by_cases h : x = c
    · rw [h, parts_eq]; exact ⟨_, _, rfl⟩
    · rw [parts_other h]
      cases parts c l with
      | nil => exact ⟨_, _, rfl⟩
      | cons _ _ => exact ⟨_, _, rfl⟩
theorem parts_len (c : UInt8) : ∀ l : List UInt8, (parts c l).length = l.count c + 1
  | [] => rfl
  | x :: l => by
    have ih := parts_len c l
    by_cases h : x = c
    · rw [h, parts_eq, List.length_cons, ih]; simp
    · rw [parts_other h, List.count_cons_of_ne (by simpa using h), ← ih]
      obtain ⟨p, ps, e⟩ := parts_pos c l
      rw [e]; rfl
theorem parts_app (c : UInt8) : ∀ (a l : List UInt8), c ∉ a → parts c (a ++ c :: l) = a :: parts c l
  | [], l, _ => parts_eq c l
  | x :: a, l, h => by
    have hx : x ≠ c := fun e => h (by simp [e])
    rw [List.cons_append, parts_other hx, parts_app c a l (fun e => h (List.mem_cons_of_mem _ e))]; rfl
theorem parts_one (c : UInt8) : ∀ a : List UInt8, c ∉ a → parts c a = [a]
  | [], _ => rfl
  | x :: a, h => by
    have hx : x ≠ c := fun e => h (by simp [e])
    rw [parts_other hx, parts_one c a (fun e => h (List.mem_cons_of_mem _ e))]; rfl
theorem parts_mem (c : UInt8) : ∀ (l : List UInt8), ∀ p ∈ parts c l, c ∉ p ∧ p.length ≤ l.length
  | [], p, hp => by simp [parts] at hp; subst hp; simp
  | x :: l, p, hp => by
    have ih := parts_mem c l
    by_cases h : x = c
    · rw [h, parts_eq] at hp
      rcases List.mem_cons.1 hp with rfl | hp
      · simp
      · have := ih p hp
        exact ⟨this.1, by simp; omega⟩
    · rw [parts_other h] at hp
      obtain ⟨q, qs, e⟩ := parts_pos c l
      rw [e] at hp ih
      rcases List.mem_cons.1 hp with rfl | hp
      · have := ih q (by simp)
        refine ⟨fun hm => ?_, by simp; omega⟩
        rcases List.mem_cons.1 hm with e2 | e2
        · exact h e2.symm
        · exact this.1 e2
      · have := ih p (by simp [hp])
        exact ⟨this.1, by simp; omega⟩

/-- What strings.Split answers, at one byte. -/
theorem index_one_eq (c : UInt8) (l : List UInt8) : Lib.index (c :: l) [c] = 0 := by rw [Lib.index]; simp [List.isPrefixOf]
theorem index_one_ne {b c : UInt8} (l : List UInt8) (h : b ≠ c) : Lib.index (b :: l) [c] = if Lib.index l [c] = -1 then -1 else Lib.index l [c] + 1 := by
  have hp : ([c] : List UInt8).isPrefixOf (b :: l) = false := by simp [List.isPrefixOf, Ne.symm h]
  rw [Lib.index, hp]
  by_cases h : Lib.index l [c] = -1 <;> simp [h]
theorem splitK_glue {b c : UInt8} (l : List UInt8) (h : b ≠ c) (k : Nat) : Lib.splitK [c] 0 k (b :: l) = glue b (Lib.splitK [c] 0 k l) := by
  cases k with
  | zero => rfl
  | succ k =>
    unfold Lib.splitK
    rw [index_one_ne l h]
    by_cases hm : Lib.index l [c] = -1
    · simp [hm, glue]
    · have hge := Lib.index_ge l [c]
      obtain ⟨j, hj⟩ : ∃ j : Nat, Lib.index l [c] = j := ⟨(Lib.index l [c]).toNat, by omega⟩
      have e1 : ((j : Int) + 1) ≠ -1 := by omega
      have e2 : ((j : Int)) ≠ -1 := by omega
      have e3 : ((j : Int) + 1).toNat = j + 1 := by omega
      simp [hj, e1, e2, e3, glue]
theorem split_parts (c : UInt8) : ∀ l : List UInt8, Lib.split l [c] = parts c l
  | [] => by unfold Lib.split; rw [Lib.count_miss (by simp [Lib.index])]; rfl
  | x :: l => by
    have ih := split_parts c l
    unfold Lib.split at ih ⊢
    by_cases h : x = c
    · subst h
      rw [Lib.count_cons_eq, Nat.add_comm, Lib.splitK, index_one_eq, parts_eq, ← ih]
      simp
    · rw [Lib.count_cons_ne x c l h, splitK_glue l h, ih, parts_other h]

/-- A string of bytes. -/
def str (l : List UInt8) : ByteArray := ⟨l.toArray⟩
theorem str_list (l : List UInt8) : (str l).data.toList = l := rfl
theorem str_of (s : ByteArray) : str s.data.toList = s := by unfold str; rfl
theorem str_inj {a b : List UInt8} : str a = str b ↔ a = b := ⟨fun h => by have := congrArg (·.data.toList) h; simpa [str] using this, fun h => by rw [h]⟩
theorem str_size (l : List UInt8) : (str l).size = l.length := by simp [str, ByteArray.size]
theorem splitB_parts (c : UInt8) (l : List UInt8) : Lib.splitB (str [c]) 0 (Lib.countB (str l) (str [c])) (str l) = (parts c l).map str := by
  have h := Lib.splitB_data (str [c]) 0 (Lib.countB (str l) (str [c])) (str l)
  have e : Lib.splitK [c] 0 (Lib.countB (str l) (str [c])) l = parts c l := split_parts c l
  rw [str_list, str_list, e] at h
  rw [← h, List.map_map]
  exact (List.map_id' _).symm
theorem countB_parts (c : UInt8) (l : List UInt8) : Lib.countB (str l) (str [c]) + 1 = (parts c l).length := by
  rw [parts_len]
  show Lib.count l [c] + 1 = _
  rw [Lib.count_one]

theorem snoc_ind {α : Type} {P : List α → Prop} (h0 : P []) (h1 : ∀ l b, P l → P (l ++ [b])) (l : List α) : P l := by
  have h : ∀ r : List α, P r.reverse := fun r => by
    induction r with
    | nil => exact h0
    | cons a r ih => rw [List.reverse_cons]; exact h1 _ _ ih
  have := h l.reverse
  rwa [List.reverse_reverse] at this
theorem head_app {α : Type} {l r : List α} (h : l ≠ []) : (l ++ r).head? = l.head? := by
  cases l with
  | nil => exact absurd rfl h
  | cons a l => rfl
/-- Numbers. -/
def digit (b : UInt8) : Bool := decide (48 ≤ b.toNat ∧ b.toNat ≤ 57)
def val (l : List UInt8) : Nat := l.foldl (fun n b => n * 10 + (b.toNat - 48)) 0
def number (l : List UInt8) : Option Nat := if 1 ≤ l.length ∧ l.length ≤ 4 ∧ l.all digit = true ∧ (l = [48] ∨ l.head? ≠ some 48) then some (val l) else none
theorem val_snoc (l : List UInt8) (b : UInt8) : val (l ++ [b]) = val l * 10 + (b.toNat - 48) := by simp [val]
theorem val_lt : ∀ (l : List UInt8), l.all digit = true → val l < 10 ^ l.length := by
  intro l
  induction l using snoc_ind with
  | h0 => intro _; simp [val]
  | h1 l b ih =>
    intro h
    rw [List.all_append, Bool.and_eq_true] at h
    have h1 := ih h.1
    have h2 := of_decide_eq_true (List.all_eq_true.1 h.2 b (by simp))
    rw [val_snoc, List.length_append, List.length_singleton, Nat.pow_succ]
    omega
theorem number_lt {l : List UInt8} {n : Nat} (h : number l = some n) : n < 10000 := by
  unfold number at h
  split at h
  · rename_i hc
    cases h
    have h1 := val_lt l hc.2.2.1
    have : 10 ^ l.length ≤ 10 ^ 4 := Nat.pow_le_pow_right (by omega) hc.2.1
    omega
  · cases h
theorem dec_small {n : Nat} (h : n < 10) : Lib.decDigits n = [UInt8.ofNat (48 + n)] := by rw [Lib.decDigits, dif_pos h]
theorem dec_big {n : Nat} (h : ¬ n < 10) : Lib.decDigits n = Lib.decDigits (n / 10) ++ [UInt8.ofNat (48 + n % 10)] := by rw [Lib.decDigits, dif_neg h]
theorem ofNat_val {n : Nat} (h : n < 256) : (UInt8.ofNat n).toNat = n := by simp; omega
theorem dig_ok {n : Nat} (h : n < 10) : digit (UInt8.ofNat (48 + n)) = true ∧ (UInt8.ofNat (48 + n)).toNat - 48 = n := by
  unfold digit
  rw [ofNat_val (by omega), decide_eq_true_iff]
  omega
theorem dec_digits : ∀ n : Nat, (Lib.decDigits n).all digit = true ∧ val (Lib.decDigits n) = n ∧ (n ≠ 0 → (Lib.decDigits n).head? ≠ some 48) ∧ Lib.decDigits n ≠ [] := by
  intro n
  induction n using Nat.strongRecOn with
  | ind n ih =>
    by_cases h : n < 10
    · rw [dec_small h]
      have hd := dig_ok h
      refine ⟨by rw [List.all_cons, hd.1]; rfl, by show 0 * 10 + _ = n; rw [hd.2]; omega, fun h0 e => ?_, by simp⟩
      have e2 : UInt8.ofNat (48 + n) = 48 := by simpa using e
      have e3 := congrArg UInt8.toNat e2
      rw [ofNat_val (by omega)] at e3
      have : (48 : UInt8).toNat = 48 := rfl
      omega
    · rw [dec_big h]
      obtain ⟨a1, a2, a3, a4⟩ := ih (n / 10) (by omega)
      have hd := dig_ok (n := n % 10) (by omega)
      refine ⟨by rw [List.all_append, a1, List.all_cons, hd.1]; rfl, by rw [val_snoc, a2, hd.2]; omega, fun _ e => ?_, by simp⟩
      rw [head_app a4] at e
      exact a3 (by omega) e
theorem dec_len {n : Nat} (h : n < 10000) : 1 ≤ (Lib.decDigits n).length ∧ (Lib.decDigits n).length ≤ 4 := by
  by_cases h1 : n < 10
  · rw [dec_small h1]; simp
  · rw [dec_big h1]
    by_cases h2 : n / 10 < 10
    · rw [dec_small h2]; simp
    · rw [dec_big h2]
      by_cases h3 : n / 10 / 10 < 10
      · rw [dec_small h3]; simp
      · rw [dec_big h3, dec_small (by omega)]; simp
theorem number_dec {n : Nat} (h : n < 10000) : number (Lib.decDigits n) = some n := by
  obtain ⟨a1, a2, a3, a4⟩ := dec_digits n
  have hl := dec_len h
  unfold number
  have h5 : Lib.decDigits n = [48] ∨ (Lib.decDigits n).head? ≠ some 48 := by
    by_cases h0 : n = 0
    · subst h0
      exact .inl (dec_small (by omega))
    · exact .inr (a3 h0)
  rw [if_pos ⟨hl.1, hl.2, a1, h5⟩, a2]
theorem digit_back {b : UInt8} (h : digit b = true) : UInt8.ofNat (48 + (b.toNat - 48)) = b := by
  have h2 := of_decide_eq_true h
  rw [show 48 + (b.toNat - 48) = b.toNat by omega]
  exact UInt8.ofNat_toNat
theorem dec_val : ∀ l : List UInt8, l ≠ [] → l.all digit = true → l.head? ≠ some 48 → Lib.decDigits (val l) = l := by
  intro l
  induction l using snoc_ind with
  | h0 => intro h; exact absurd rfl h
  | h1 l b ih =>
    intro _ h h48
    rw [List.all_append, Bool.and_eq_true] at h
    have hb := List.all_eq_true.1 h.2 b (by simp)
    have h2 := of_decide_eq_true hb
    rw [val_snoc]
    by_cases hl : l = []
    · subst hl
      rw [show val [] * 10 + (b.toNat - 48) = b.toNat - 48 by simp [val], dec_small (by omega), digit_back hb]; rfl
    · rw [head_app hl] at h48
      have e := ih hl h.1 h48
      have hv : val l ≠ 0 := by
        intro e0
        rw [e0, dec_small (by omega)] at e
        apply h48
        rw [← e]; rfl
      rw [dec_big (by omega), show (val l * 10 + (b.toNat - 48)) / 10 = val l by omega, show (val l * 10 + (b.toNat - 48)) % 10 = b.toNat - 48 by omega, e, digit_back hb]
/-- As the document has it: the digits of what is read are what was read. -/
theorem number_doc {l : List UInt8} (h1 : 1 ≤ l.length) (h4 : l.length ≤ 4) (ha : l.all digit = true) : number l = if Lib.decDigits (val l) = l then some (val l) else none := by
  by_cases h48 : l = [48] ∨ l.head? ≠ some 48
  · have e : Lib.decDigits (val l) = l := by
      rcases h48 with rfl | h
      · exact dec_small (by decide)
      · exact dec_val l (by intro e; subst e; simp at h1) ha h
    unfold number
    rw [if_pos ⟨h1, h4, ha, h48⟩, if_pos e]
  · have h0 : ¬ Lib.decDigits (val l) = l := by
      intro e
      apply h48
      by_cases hv : val l = 0
      · rw [hv, dec_small (by omega)] at e
        exact .inl e.symm
      · have := (dec_digits (val l)).2.2.1 hv
        rw [e] at this
        exact .inr this
    unfold number
    rw [if_neg (fun h => h48 h.2.2.2), if_neg h0]
theorem number_none {l : List UInt8} (h : ¬ (1 ≤ l.length ∧ l.length ≤ 4 ∧ l.all digit = true)) : number l = none := by
  unfold number
  exact if_neg fun hc => h ⟨hc.1, hc.2.1, hc.2.2.1⟩

/-- Names and fields. -/
def alibi : List UInt8 := 97 :: 108 :: 105 :: 98 :: 105 :: []
def func : List UInt8 := 102 :: 117 :: 110 :: 99 :: []
def names : List (List UInt8) := (115 :: 107 :: 105 :: 112 :: []) :: (114 :: 101 :: 97 :: 100 :: []) :: (119 :: 114 :: 105 :: 116 :: 101 :: []) :: (108 :: 111 :: 99 :: 107 :: []) :: (117 :: 110 :: 108 :: 111 :: 99 :: 107 :: []) :: (115 :: 112 :: 97 :: 119 :: 110 :: []) :: (106 :: 111 :: 105 :: 110 :: []) :: (99 :: 97 :: 108 :: 108 :: []) :: (98 :: 114 :: 97 :: 110 :: 99 :: 104 :: []) :: (114 :: 101 :: 116 :: 117 :: 114 :: 110 :: []) :: []
def idx (w : List UInt8) : Nat → List (List UInt8) → Option Nat
  | _, [] => none
  | k, x :: l => if x = w then some k else idx w (k + 1) l
/-- What is told of a kind, in that order: 0 Arg, 1 Next, 2 Alt. -/
def tl (k : Nat) : List Nat := if k = 0 then 1 :: [] else if k = 5 then 0 :: 2 :: 1 :: [] else if k = 8 then 1 :: 2 :: [] else if k = 9 then [] else 0 :: 1 :: []
theorem tl_le (k : Nat) : ∀ j ∈ tl k, j ≤ 2 := by unfold tl; split <;> (try split) <;> (try split) <;> (try split) <;> simp
theorem tl_len (k : Nat) : (tl k).length ≤ 3 := by unfold tl; split <;> (try split) <;> (try split) <;> (try split) <;> simp
theorem tl_nodup (k : Nat) : (tl k).Nodup := by unfold tl; split <;> (try split) <;> (try split) <;> (try split) <;> simp
def nums : List (List UInt8) → Option (List Nat)
  | [] => some []
  | w :: ws => (number w).bind fun n => (nums ws).map (n :: ·)
theorem nums_len : ∀ {ws : List (List UInt8)} {vs : List Nat}, nums ws = some vs → vs.length = ws.length
  | [], vs, h => by cases h; rfl
  | w :: ws, vs, h => by
    unfold nums at h
    cases hn : number w with
    | none => rw [hn] at h; cases h
    | some n =>
      rw [hn] at h
      cases hs : nums ws with
      | none => rw [hs] at h; cases h
      | some l =>
        rw [hs] at h
        cases h
        simp [nums_len hs]
theorem nums_lt : ∀ {ws : List (List UInt8)} {vs : List Nat}, nums ws = some vs → ∀ v ∈ vs, v < 10000
  | [], vs, h => by cases h; simp
  | w :: ws, vs, h => by
    unfold nums at h
    cases hn : number w with
    | none => rw [hn] at h; cases h
    | some n =>
      rw [hn] at h
      cases hs : nums ws with
      | none => rw [hs] at h; cases h
      | some l =>
        rw [hs] at h
        cases h
        intro v hv
        rcases List.mem_cons.1 hv with rfl | hv
        · exact number_lt hn
        · exact nums_lt hs v hv
theorem nums_none {ws : List (List UInt8)} {w : List UInt8} (hw : w ∈ ws) (h : number w = none) : nums ws = none := by
  induction ws with
  | nil => cases hw
  | cons x ws ih =>
    unfold nums
    rcases List.mem_cons.1 hw with rfl | hw
    · rw [h]; rfl
    · rw [ih hw]; cases number x <;> rfl
theorem nums_snoc : ∀ (ws : List (List UInt8)) (w : List UInt8) (vs : List Nat) (n : Nat), nums ws = some vs → number w = some n → nums (ws ++ [w]) = some (vs ++ [n])
  | [], w, vs, n, h, hn => by cases h; simp [nums, hn]
  | x :: ws, w, vs, n, h, hn => by
    unfold nums at h
    rw [List.cons_append, nums]
    cases hx : number x with
    | none => rw [hx] at h; cases h
    | some m =>
      rw [hx] at h
      cases hs : nums ws with
      | none => rw [hs] at h; cases h
      | some l =>
        rw [hs] at h
        cases h
        rw [nums_snoc ws w l n hs hn]; rfl
def fill (x : Nd) : List Nat → List Nat → Nd
  | j :: js, v :: vs => fill (C.set x j v) js vs
  | [], _ => x
  | _ :: _, [] => x
def nd0 (k : Nat) : Nd := ⟨k, 0, 0, 0⟩
def push (L : List (List Nd)) (x : Nd) : List (List Nd) := L.dropLast ++ [L.getLast?.getD [] ++ [x]]
theorem push_snoc (L : List (List Nd)) (l : List Nd) (x : Nd) : push (L ++ [l]) x = L ++ [l ++ [x]] := by simp [push]

/-- Lines. -/
structure St where
  first : Bool
  d : C.PD
def st0 : St := ⟨true, ⟨0, 0, 0, []⟩⟩
def line1 (st : St) (name : List UInt8) (ns : List (List UInt8)) : Option St :=
  if name = alibi ∧ ns.length = 3 then (nums ns).map fun vs => ⟨false, ⟨(vs.getD 0 0 : Nat), (vs.getD 1 0 : Nat), (vs.getD 2 0 : Nat), st.d.L⟩⟩ else none
def lineN (st : St) (name : List UInt8) (ns : List (List UInt8)) : Option St :=
  (idx name 0 names).bind fun k => if ns.length = (tl k).length then (nums ns).map fun vs => ⟨false, { st.d with L := push st.d.L (fill (nd0 k) (tl k) vs) }⟩ else none
def lineW (st : St) (name : List UInt8) (ns : List (List UInt8)) : Option St :=
  if st.first = true then line1 st name ns
  else if name = func then (if ns = [] then some ⟨false, { st.d with L := st.d.L ++ [[]] }⟩ else none)
  else if st.d.L = [] then none else lineN st name ns
def step (st : St) (ln : List UInt8) : Option St := if ln = [] then some st else lineW st ((parts 32 ln).headD []) (parts 32 ln).tail
def run : St → Nat → List (List UInt8) → St ⊕ Nat
  | st, _, [] => .inl st
  | st, i, ln :: rest => match step st ln with
    | none => .inr i
    | some st' => run st' (i + 1) rest
noncomputable def fin (st : St) : C.PD × Nat × Nat := if (Q.check (C.pgOf st.d)).2.2 = 0 then (st.d, 0, 0) else (C.none_, 0, (Q.check (C.pgOf st.d)).2.2)
noncomputable def parse (l : List UInt8) : C.PD × Nat × Nat :=
  if 65536 < l.length then (C.none_, 0, 4) else
  match run st0 0 (parts 10 l) with
  | .inr i => (C.none_, i + 1, 3)
  | .inl st => fin st
theorem run_some {st st' : St} {i : Nat} {ln : List UInt8} {rest : List (List UInt8)} (h : step st ln = some st') : run st i (ln :: rest) = run st' (i + 1) rest := by rw [run, h]
theorem run_none {st : St} {i : Nat} {ln : List UInt8} {rest : List (List UInt8)} (h : step st ln = none) : run st i (ln :: rest) = .inr i := by rw [run, h]
theorem step_nil (st : St) : step st [] = some st := by rw [step, if_pos rfl]
theorem step_line {st : St} {ln : List UInt8} (h : ln ≠ []) : step st ln = lineW st ((parts 32 ln).headD []) (parts 32 ln).tail := by rw [step, if_neg h]

/-- Printing. -/
def dig (n : Int) : List UInt8 := Lib.decDigits n.toNat
def tail (l : List Int) : List UInt8 := l.flatMap fun n => 32 :: dig n
def lineOf (name : List UInt8) (l : List Int) : List UInt8 := name ++ tail l
def told (x : Nd) : List Int := (tl x.kind.toNat).map (C.fld x)
def name (k : Int) : List UInt8 := names.getD k.toNat []
def ndL (x : Nd) : List UInt8 := lineOf (name x.kind) (told x)
def fnL (l : List Nd) : List (List UInt8) := func :: l.map ndL
def linesL (L : List (List Nd)) : List (List UInt8) := L.flatMap fnL
def lines (d : C.PD) : List (List UInt8) := lineOf alibi (d.g :: d.l :: d.s :: []) :: linesL d.L
def text (ls : List (List UInt8)) : List UInt8 := ls.flatMap fun l => l ++ [10]
def print (d : C.PD) : List UInt8 := text (lines d)
end Go.Proofs.YtiojobajcnifpaaDoor.T

/- A statement whose operations may come up in several orders, some of which act on blocks that stand (calls, one behind the other): each is proved from what those that it waits for have left; the acting ones take the world from phase to phase. -/
namespace Go.Proofs.YtiojobajcnifpaaDoor
open Go.RowKit

/-- From w to w' no block has turned but those of G, and new ones. -/
structure Only (G : Nat → Prop) (w w' : World) : Prop where
  os : w'.os = w.os
  tape : w'.tape = w.tape
  output : w'.output = w.output
  size : w.heap.size ≤ w'.heap.size
  block : ∀ k, k < w.heap.size → ¬ G k → w'.heap[k]? = w.heap[k]?
theorem Only.refl (G : Nat → Prop) (w : World) : Only G w w := ⟨rfl, rfl, rfl, Nat.le_refl _, fun _ _ _ => rfl⟩
theorem Only.trans {G : Nat → Prop} {w w1 w2 : World} (h : Only G w w1) (k : Only G w1 w2) : Only G w w2 :=
  ⟨k.os.trans h.os, k.tape.trans h.tape, k.output.trans h.output, Nat.le_trans h.size k.size, fun i hi hg => (k.block i (Nat.lt_of_lt_of_le hi h.size) hg).trans (h.block i hi hg)⟩
theorem Only.of_below {G : Nat → Prop} {w w' : World} (h : Below w.heap.size w w') : Only G w w' := ⟨h.os, h.tape, h.output, h.size, fun k hk _ => h.block k hk⟩
theorem Only.of_grown {G : Nat → Prop} {w w' : World} {g : Nat} (h : w.grownBy w' (some g)) (hg : G g) : Only G w w' := ⟨h.os, h.tape, h.output, h.size, fun k hk hn => h.block k hk (by intro e; cases e; exact hn hg)⟩
theorem Only.below {G : Nat → Prop} {w w' : World} {B : Nat} (h : Only G w w') (hB : B ≤ w.heap.size) (hG : ∀ k, G k → B ≤ k) : Below B w w' :=
  ⟨h.os, h.tape, h.output, h.size, fun k hk => h.block k (by omega) fun hg => by have := hG k hg; omega⟩
theorem Only.cell {G : Nat → Prop} {w w' : World} (h : Only G w w') {p : Addr} (hp : p.block < w.heap.size) (hg : ¬ G p.block) : w'.cell? p = w.cell? p := World.cell?_of_block (w := w) (h.block _ hp hg)
theorem Only.blk {G : Nat → Prop} {w w' : World} {g : Nat} {t : TypeId} {cs : List Value} (h : Only G w w') (hk : Blk w g t cs) (hg : ¬ G g) : Blk w' g t cs := by
  unfold Blk; rw [h.block g hk.lt hg]; exact hk
theorem Row.only {α : Type} {f : α → Value} {G : Nat → Prop} {w w' : World} {B n : Nat} {A : Option Addr} {l : List α} (h : Row f w B A n l) (ho : Only G w w') (hB : B ≤ w.heap.size) (hg : ∀ ad, 0 < n → A = some ad → ¬ G ad.block) : Row f w' B A n l :=
  ⟨h.len, fun hn => by
    obtain ⟨ad, e, hb, hc⟩ := h.cells hn
    exact ⟨ad, e, hb, fun k hlt => (ho.cell (by rw [add_block]; omega) (by rw [add_block]; exact hg ad hn e)).trans (hc k hlt)⟩⟩

theorem Row.onlyB {α : Type} {f : α → Value} {G : Nat → Prop} {w w' : World} {B n : Nat} {A : Option Addr} {l : List α} (h : Row f w B A n l) (ho : Only G w w') (hB : B ≤ w.heap.size) (hg : ∀ k, k < B → ¬ G k) : Row f w' B A n l :=
  h.keep fun p hp => ho.cell (by omega) (hg _ hp)

/-- What is told of a value in a world, and stays so whatever acts on G. -/
structure GFact (G : Nat → Prop) where
  holds : Value → World → Prop
  stays : ∀ v w w', Only G w w' → holds v w → holds v w'
def GFact.any (G : Nat → Prop) : GFact G := ⟨fun _ _ => True, fun _ _ _ _ h => h⟩
/-- It is this value. -/
def GFact.is {G : Nat → Prop} (c : Value) : GFact G := ⟨fun v _ => v = c, fun _ _ _ _ h => h⟩
/-- A slice of bytes, in no block of G. -/
def GFact.bytes {G : Nat → Prop} (bs : List Nat) : GFact G :=
  ⟨fun v w => ∃ A cap, v = .slice A bs.length cap ∧ Row byteV w w.heap.size A bs.length bs ∧ ∀ ad, A = some ad → ¬ G ad.block,
   fun _ _ _ hb ⟨A, cap, hv, hr, hg⟩ => ⟨A, cap, hv, (hr.only hb (Nat.le_refl _) fun ad _ e => hg ad e).more hb.size, hg⟩⟩

theorem own_gbytes {G : Nat → Prop} {w : World} {B : Nat} {e : TypeId} {v : Value} {bs : List Nat} (h : Own w B e v (bs.map byteV)) (hg : ∀ k, B ≤ k → ¬ G k) : (GFact.bytes (G := G) bs).holds v w := by
  have hb := h.block
  obtain ⟨A, cap, rfl, _, _, hr⟩ := h.bytes
  exact ⟨A, cap, rfl, hr, fun ad e1 => by subst e1; exact hg _ (hb ad.block rfl).1⟩

def ActPost (G : Nat → Prop) (J : Nat → World → Prop) (p : Nat) (D : List Deferred) (W : World) (o : Oper) (R : GFact G) : Exit → Act → World → Prop
  | .normal, a, w => a.defers = D ∧ Only G W w ∧ J p w ∧ R.holds (slotOf o a) w
  | _, _, _ => False
def gfactAt {G : Nat → Prop} (R : List (GFact G)) (i : Nat) : GFact G := R.getD i (.any G)

/-- What holds of the frame in which the slots of some operations hold whatever fits their facts. -/
def ggiven {G : Nat → Prop} (R : List (GFact G)) (W : World) (T : Act → Prop) : List (Nat × Nat) → Act → Prop
  | [], a => T a
  | p :: ps, a => ∀ v, (gfactAt R p.1).holds v W → ggiven R W T ps (a.put (some p.2) v)
theorem ggiven_fill {G : Nat → Prop} {R : List (GFact G)} {W : World} {T : Act → Prop} {a : Act} : ∀ (ps : List (Nat × Nat)) (b : Act), ggiven R W T ps b → (∀ p ∈ ps, (gfactAt R p.1).holds (a.tmps.getD p.2 undef) W) → T (fill a ps b)
  | [], _, h, _ => h
  | p :: ps, _, h, hp => ggiven_fill ps _ (h _ (hp p (List.mem_cons_self))) fun q hq => hp q (List.mem_cons_of_mem _ hq)

/-- How many of the acting ones have come up. -/
def phase (acts : List Nat) (listed : Array Bool) : Nat := acts.countP fun j => listed.getD j false
def rank (acts : List Nat) (i : Nat) : Nat := acts.countP fun j => decide (j < i)
/-- Each acting one waits for those ahead of it. -/
def actsOk (l : List Oper) (acts : List Nat) : Bool := acts.all fun i => decide (i < l.length) && acts.all fun j => decide (i ≤ j) || ((masks l).getD i 0).testBit j

section
variable {P : Program} {l : List Oper} {Q : Exit → Act → World → Prop} {a0 : Act} {w : World} {G : Nat → Prop} {R : List (GFact G)} {J : Nat → World → Prop} {acts : List Nat} {D : List (List (Nat × Nat))} {every : List (Nat × Nat)}

structure GInv (l : List Oper) (acts : List Nat) (J : Nat → World → Prop) (R : List (GFact G)) (a0 : Act) (w : World) (listed : Array Bool) (a : Act) (W : World) : Prop where
  size : listed.size = l.length
  ext : Only G w W
  ph : J (phase acts listed) W
  defs : a.defers = a0.defers
  tsz : a.tmps.size = a0.tmps.size
  got : ∀ j oj d, l.toArray[j]? = some oj → oj.dst = some d → listed.getD j false = true → (gfactAt R j).holds (a.tmps.getD d undef) W
  old : ∀ t, (∀ j oj, l.toArray[j]? = some oj → oj.dst = some t → listed.getD j false = false) → a.tmps[t]? = a0.tmps[t]?
  shut : ∀ j oj, l.toArray[j]? = some oj → listed.getD j false = true → ∀ e ∈ oj.after, Region.binds .any e = true → listed.getD e.on false = true

theorem phase_other (acts : List Nat) (listed : Array Bool) (i : Nat) (h : i ∉ acts) : phase acts (listed.setIfInBounds i true) = phase acts listed := by
  unfold phase
  refine List.countP_congr fun j hj => ?_
  have : i ≠ j := fun e => h (by rw [e]; exact hj)
  rw [getD_set_ne false this]
theorem phase_at {acts : List Nat} {listed : Array Bool} {i : Nat} (hb : ∀ j ∈ acts, j < i → listed.getD j false = true) (ha : ∀ j ∈ acts, i ≤ j → listed.getD j false = false) : phase acts listed = rank acts i := by
  unfold phase rank
  refine List.countP_congr fun j hj => ?_
  rcases Nat.lt_or_ge j i with h | h
  · rw [hb j hj h]; simpa using h
  · rw [ha j hj h]; simp; omega
theorem phase_next {acts : List Nat} {listed : Array Bool} {i : Nat} (hn : acts.Nodup) (hi : i ∈ acts) (hs : i < listed.size) (hf : listed.getD i false = false) : phase acts (listed.setIfInBounds i true) = phase acts listed + 1 := by
  unfold phase
  induction acts with
  | nil => cases hi
  | cons x r ih =>
    rw [List.nodup_cons] at hn
    rw [List.countP_cons, List.countP_cons]
    by_cases hx : x = i
    · subst hx
      have h1 : (listed.setIfInBounds x true).getD x false = true := by simp [hs]
      have h2 := phase_other r listed x hn.1
      unfold phase at h2
      rw [h1, hf, h2]; simp
    · have hir : i ∈ r := by
        rcases List.mem_cons.1 hi with h | h
        · exact absurd h.symm hx
        · exact h
      rw [ih hn.2 hir, getD_set_ne false (Ne.symm hx)]
      omega

theorem act_ready (hok : ∀ i o, l[i]? = some o → ∀ e ∈ o.after, Region.binds .any e = true → e.on < i) (hacts : actsOk l acts = true) {listed : Array Bool} {a : Act} {W : World} {i : Nat} {o : Oper} (hi : l[i]? = some o) (ha : i ∈ acts)
    (h : GInv l acts J R a0 w listed a W) (hall : ∀ e ∈ o.after, Region.binds .any e = true → listed.getD e.on false = true) (hlf : listed.getD i false = false) : phase acts listed = rank acts i := by
  have hshut : ∀ j oj, l[j]? = some oj → listed.getD j false = true → ∀ e ∈ oj.after, Region.binds .any e = true → listed.getD e.on false = true := fun j oj hj => h.shut j oj (by simpa using hj)
  unfold actsOk at hacts
  have h1 := List.all_eq_true.1 hacts i ha
  rw [Bool.and_eq_true] at h1
  refine phase_at (fun j hj hlt => ?_) fun j hj hle => ?_
  · have h2 := List.all_eq_true.1 h1.2 j hj
    rw [Bool.or_eq_true] at h2
    rcases h2 with h2 | h2
    · have : i ≤ j := by simpa using h2
      omega
    · exact mask_listed hok hshut i o hi hall j h2
  · by_cases hij : j = i
    · rw [hij]; exact hlf
    · cases hlj : listed.getD j false
      · rfl
      · exfalso
        have h2 := List.all_eq_true.1 hacts j hj
        rw [Bool.and_eq_true] at h2
        have hjl : j < l.length := by simpa using h2.1
        have h3 := List.all_eq_true.1 h2.2 i ha
        rw [Bool.or_eq_true] at h3
        rcases h3 with h3 | h3
        · have : j ≤ i := by simpa using h3
          omega
        · have hjo : l[j]? = some l[j] := List.getElem?_eq_getElem hjl
          have := mask_listed hok hshut j _ hjo (hshut j _ hjo hlj) i h3
          rw [hlf] at this; cases this

theorem GInv.step {listed : Array Bool} {a : Act} {W W' : World} {i : Nat} {o : Oper} {v : Value} (h : GInv l acts J R a0 w listed a W) (hi : l.toArray[i]? = some o) (hok : OpOk l.toArray D every a0.tmps.size i o)
    (hr : i ∈ Region.ready .any l.toArray listed) (hb : Only G W W') (hph : J (phase acts (listed.setIfInBounds i true)) W') (hv : ∀ d, o.dst = some d → (gfactAt R i).holds v W') : GInv l acts J R a0 w (listed.setIfInBounds i true) (a.put o.dst v) W' := by
  obtain ⟨hl, o', ho', hall⟩ := mem_ready.1 hr
  have hoo : o' = o := by rw [hi] at ho'; cases ho'; rfl
  subst hoo
  have hilt : i < l.length := by have := (Array.getElem?_eq_some_iff.1 hi).1; simpa using this
  have hii : (listed.setIfInBounds i true).getD i false = true := by
    have : i < listed.size := by rw [h.size]; exact hilt
    simp [this]
  refine ⟨by simp [h.size], h.ext.trans hb, hph, (put_def _ _ _).trans h.defs, (put_size _ _ _).trans h.tsz, fun j oj d hj hd hlj => ?_, fun t ht => ?_, fun j oj hj hlj e he hbe => ?_⟩
  · by_cases hji : j = i
    · subst hji
      have : oj = o' := by rw [hi] at hj; cases hj; rfl
      subst this
      have hlt := (hok.dst d hd).1
      rw [hd]
      have e1 : (a.put (some d) v).tmps.getD d undef = v := by
        have := put_at a d d v
        rw [if_pos ⟨rfl, by rw [h.tsz]; exact hlt⟩] at this
        simp [Array.getD_eq_getD_getElem?, this]
      rw [e1]
      exact hv d hd
    · have h1 := h.got j oj d hj hd (by rw [getD_set_ne false (Ne.symm hji)] at hlj; exact hlj)
      have e1 : (a.put o'.dst v).tmps.getD d undef = a.tmps.getD d undef := by
        cases hod : o'.dst with
        | none => rfl
        | some d' =>
          have hne : d' ≠ d := fun e => (hok.dst d' hod).2.2 j oj hj hji (by rw [e]; exact hd)
          have := put_at a d' d v
          rw [if_neg (fun hh => hne hh.1)] at this
          simp [Array.getD_eq_getD_getElem?, this]
      rw [e1]
      exact (gfactAt R j).stays _ _ _ hb h1
  · have h1 := h.old t fun j oj hj hd => by
      have := ht j oj hj hd
      by_cases hji : j = i
      · subst hji; rw [hii] at this; cases this
      · rwa [getD_set_ne false (Ne.symm hji)] at this
    cases hod : o'.dst with
    | none => exact h1
    | some d' =>
      have hne : d' ≠ t := fun e => by
        have := ht i o' hi (by rw [hod, e])
        rw [hii] at this; cases this
      rw [put_at, if_neg (fun hh => hne hh.1)]
      exact h1
  · by_cases hji : j = i
    · subst hji
      have : oj = o' := by rw [hi] at hj; cases hj; rfl
      subst this
      exact getD_set_true (hall e he hbe)
    · rw [getD_set_ne false (Ne.symm hji)] at hlj
      exact getD_set_true (h.shut j oj hj hlj e he hbe)

theorem act_one {listed : Array Bool} {a : Act} {W : World} {K : Act → World → Prop} {i : Nat} {o : Oper} (hi : l.toArray[i]? = some o) (ok : OpOk l.toArray D every a0.tmps.size i o)
    (hob : ggiven R W (fun a1 => wpList P l.toArray (ActPost G J (phase acts (listed.setIfInBounds i true)) a0.defers W o (gfactAt R i)) [o] a1 W) (D.getD i []) a0)
    (h : GInv l acts J R a0 w listed a W) (hr : i ∈ Region.ready .any l.toArray listed) (hK : ∀ a' W', GInv l acts J R a0 w (listed.setIfInBounds i true) a' W' → K a' W') : wpOp P l.toArray Q i K a W := by
  obtain ⟨hl, o', hi', hall'⟩ := mem_ready.1 hr
  have hall : ∀ e ∈ o.after, Region.binds .any e = true → listed.getD e.on false = true := by
    rw [hi] at hi'; cases hi'; exact hall'
  have hlf : listed.getD i false = false := by
    have : i < listed.size := by rw [h.size]; exact (by have := (Array.getElem?_eq_some_iff.1 hi).1; simpa using this)
    simp [this] at hl ⊢; exact hl
  have hg := ggiven_fill (a := a) (D.getD i []) a0 hob fun p hp => by
    obtain ⟨⟨oj, hj, hd⟩, e, he, hb, hon⟩ := ok.deps p hp
    exact h.got p.1 oj p.2 hj hd (by rw [← hon]; exact hall e he hb)
  generalize ha1 : fill a (D.getD i []) a0 = a1 at hg
  have agree : ∀ t ∈ o.looksAt l.toArray, a.tmps[t]? = a1.tmps[t]? := by
    intro t ht
    rw [← ha1, fill_at]
    by_cases hc : t ∈ (D.getD i []).map (·.2) ∧ t < a0.tmps.size
    · rw [if_pos hc, getD_of a t (by rw [h.tsz]; exact hc.2)]
    · rw [if_neg hc]
      by_cases htl : t < a0.tmps.size
      · refine h.old t fun j oj hj hd => ?_
        rcases ok.looks t ht j oj hj hd with hin | ⟨e, he, hb, hon⟩
        · exact absurd ⟨List.mem_map.2 ⟨(j, t), hin, rfl⟩, htl⟩ hc
        · cases hlj : listed.getD j false
          · rfl
          · have := h.shut j oj hj hlj e he hb
            rw [hon, hlf] at this; cases this
      · have n1 : a.tmps[t]? = none := Array.getElem?_eq_none (by rw [h.tsz]; exact Nat.le_of_not_lt htl)
        have n2 : a0.tmps[t]? = none := Array.getElem?_eq_none (Nat.le_of_not_lt htl)
        rw [n1, n2]
  have hex : execOp a1.eval o = execOp a.eval o := execOp_congr o ok.sel fun x hx => by
    cases x with
    | tmp t =>
      have := agree t (List.mem_append_left _ (List.mem_filterMap.2 ⟨.tmp t, by simpa using hx, rfl⟩))
      simp [Act.eval, Array.getD_eq_getD_getElem?, this]
    | _ => rfl
  have hwt : Region.wanted o (yielded l.toArray a1.tmps) = Region.wanted o (yielded l.toArray a.tmps) := by
    unfold Region.wanted
    cases hgd : o.guard with
    | none => rfl
    | some gw =>
      obtain ⟨g, want⟩ := gw
      have hy : yielded l.toArray a1.tmps g = yielded l.toArray a.tmps g := by
        unfold yielded
        cases ht : (l.toArray[g]?).bind (·.dst) with
        | none => rfl
        | some t =>
          have ht2 : (l[g]?.bind fun x => x.dst) = some t := by simpa using ht
          have := agree t (by simp [Oper.looksAt, hgd, ht2])
          simp [this]
      simp only [hy]
  have hsl : ∀ v d, o.dst = some d → slotOf o (a1.put o.dst v) = v := by
    intro v d hd
    have hlt := (ok.dst d hd).1
    have := put_at a1 d d v
    rw [if_pos ⟨rfl, by rw [← ha1, fill_size]; exact hlt⟩] at this
    simp [slotOf, hd, Array.getD_eq_getD_getElem?, this]
  have done : ∀ v W', ActPost G J (phase acts (listed.setIfInBounds i true)) a0.defers W o (gfactAt R i) .normal (a1.put o.dst v) W' → K (a.put o.dst v) W' := by
    rintro v W' ⟨_, hb, hph, hv⟩
    refine hK _ _ (h.step hi ok hr hb hph fun d hd => ?_)
    rw [hsl v d hd] at hv
    exact hv
  unfold wpOp
  simp only [hi]
  rw [← hwt]
  unfold wpList at hg
  by_cases hw : Region.wanted o (yielded l.toArray a1.tmps) = true
  · rw [if_pos hw] at hg ⊢
    rcases hg with hg | ⟨_, _, _, hf⟩
    case inr => exact hf.elim
    refine .inl ?_
    unfold Oper.wp at hg ⊢
    rw [hex] at hg
    generalize (execOp a.eval o).run P W = r at *
    cases r with
    | ok n w' =>
      cases n <;> simp only [Oper.upon] at hg ⊢
      case value v => exact done v w' hg
      case skip => exact done undef w' hg
      case defer d =>
        obtain ⟨hd, _⟩ := hg
        rw [put_def] at hd
        have e1 : a1.defers = a0.defers := by rw [← ha1]; exact fill_def _ _ _
        simp only [e1] at hd
        exact absurd hd (by simp)
      case enter f args =>
        refine Calls.mono hg fun e w'' he => ?_
        cases e with
        | returned v => exact done v w'' he
        | panicked c => exact he.elim
        | outgrown => obtain ⟨_, _, hf⟩ := he; exact hf.elim
      case row row args => exact Rows.mono hg fun v w'' he => done v w'' he
    | halt x w' =>
      cases x <;> simp only [Oper.upon] at hg ⊢
      case panic v => exact hg.elim
  · rw [if_neg hw] at hg ⊢
    exact done undef W hg

theorem acts_any (hacts : ∀ i ∈ acts, i < l.length) (hok : ∀ i o, l.toArray[i]? = some o → OpOk l.toArray D every a0.tmps.size i o) (hev : ∀ p ∈ every, ∃ oj, l.toArray[p.1]? = some oj ∧ oj.dst = some p.2)
    (hob : ∀ i o, l.toArray[i]? = some o → ∀ (listed : Array Bool) a W, GInv l acts J R a0 w listed a W → i ∈ Region.ready .any l.toArray listed → ggiven R W (fun a1 => wpList P l.toArray (ActPost G J (phase acts (listed.setIfInBounds i true)) a0.defers W o (gfactAt R i)) [o] a1 W) (D.getD i []) a0)
    (hend : ∀ W, Only G w W → J acts.length W → ggiven R W (fun a => Q .normal a W) every a0) :
    ∀ (fuel : Nat) (listed : Array Bool) (a : Act) (W : World), GInv l acts J R a0 w listed a W → listed.toList.count false ≤ fuel → wpAny P .any l.toArray Q fuel listed a W := by
  have phase_all : ∀ {listed : Array Bool}, (∀ j, j < l.toArray.size → listed.getD j false = true) → phase acts listed = acts.length := by
    intro listed hall
    unfold phase
    exact List.countP_eq_length.2 fun j hj => hall j (by simpa using hacts j hj)
  have fin : ∀ (listed : Array Bool) (a : Act) (W : World), GInv l acts J R a0 w listed a W → (∀ j, j < l.toArray.size → listed.getD j false = true) → Q .normal a W := by
    intro listed a W h hall
    have h1 := ggiven_fill (a := a) every a0 (hend W h.ext (by have := h.ph; rwa [phase_all hall] at this)) fun p hp => by
      obtain ⟨oj, hj, hd⟩ := hev p hp
      exact h.got p.1 oj p.2 hj hd (hall p.1 (Array.getElem?_eq_some_iff.1 hj).1)
    have e1 : fill a every a0 = a := by
      have e2 : (fill a every a0).tmps = a.tmps := by
        apply Array.ext_getElem?
        intro t
        rw [fill_at]
        by_cases hc : t ∈ every.map (·.2) ∧ t < a0.tmps.size
        · rw [if_pos hc, getD_of a t (by rw [h.tsz]; exact hc.2)]
        · rw [if_neg hc]
          by_cases ht : t < a0.tmps.size
          · refine (h.old t fun j oj hj hd => ?_).symm
            exfalso
            exact hc ⟨List.mem_map.2 ⟨(j, t), ((hok j oj hj).dst t hd).2.1, rfl⟩, ht⟩
          · rw [Array.getElem?_eq_none (by omega), Array.getElem?_eq_none (by rw [h.tsz]; omega)]
      have e3 := (fill_def a every a0).trans h.defs.symm
      cases hf : fill a every a0
      cases a
      rw [hf] at e2 e3
      simp only at e2 e3
      rw [e2, e3]
    rw [e1] at h1
    exact h1
  have one : ∀ (fuel : Nat) (listed : Array Bool) (a : Act) (W : World) (K : Act → World → Prop) (i : Nat), GInv l acts J R a0 w listed a W → i ∈ Region.ready .any l.toArray listed →
      (∀ a' W', GInv l acts J R a0 w (listed.setIfInBounds i true) a' W' → K a' W') → wpOp P l.toArray Q i K a W := by
    intro fuel listed a W K i h hr hK
    obtain ⟨_, o, hi, _⟩ := mem_ready.1 hr
    exact act_one hi (hok i o hi) (hob i o hi listed a W h hr) h hr hK
  intro fuel
  induction fuel with
  | zero =>
    intro listed a W h hc
    have hall : ∀ j, j < l.toArray.size → listed.getD j false = true := by
      intro j hj
      have hn : false ∉ listed.toList := List.count_eq_zero.1 (by omega)
      have hjl : j < listed.size := by rw [h.size]; simpa using hj
      cases hb : listed[j]
      · exact absurd (by rw [← hb]; exact Array.getElem_mem_toList hjl) hn
      · simp [hjl, hb]
    refine ⟨?_, fin _ _ _ h hall⟩
    cases hr : Region.ready .any l.toArray listed with
    | nil => rfl
    | cons x xs =>
      have hx : x ∈ Region.ready .any l.toArray listed := by rw [hr]; exact List.mem_cons_self
      obtain ⟨hl, o, hi, _⟩ := mem_ready.1 hx
      have hlt : x < l.toArray.size := (Array.getElem?_eq_some_iff.1 hi).1
      have := hall x hlt
      have hxl : x < listed.size := by rw [h.size]; simpa using hlt
      simp [hxl] at hl this
      rw [hl] at this; cases this
  | succ fuel ih =>
    intro listed a W h hc
    refine ⟨fun hr => fin _ _ _ h (all_listed hok (by simpa using h.size) hr), fun i hi => one fuel listed a W _ i h hi fun a' W' h' => ih _ _ _ h' ?_⟩
    obtain ⟨hl, o, ho, _⟩ := mem_ready.1 hi
    have hil : i < listed.size := by rw [h.size]; have := (Array.getElem?_eq_some_iff.1 ho).1; simpa using this
    have := count_set listed.toList i (by
      simp [hil] at hl ⊢; exact hl)
    rw [Array.toList_setIfInBounds]
    omega


/-- What is to be shown of the operations, one after the other. -/
def gobs (P : Program) (ops : Array Oper) (acts : List Nat) (J : Nat → World → Prop) (R : List (GFact G)) (D : List (List (Nat × Nat))) (w : World) (a0 : Act) : Nat → List Oper → Prop
  | _, [] => True
  | i, o :: r => (if acts.contains i then ∀ W, Only G w W → J (rank acts i) W → ggiven R W (fun a1 => wpList P ops (ActPost G J (rank acts i + 1) a0.defers W o (gfactAt R i)) [o] a1 W) (D.getD i []) a0
      else ∀ p W, Only G w W → J p W → ggiven R W (fun a1 => wpList P ops (ActPost G J p a0.defers W o (gfactAt R i)) [o] a1 W) (D.getD i []) a0) ∧ gobs P ops acts J R D w a0 (i + 1) r
theorem gobs_at {ops : Array Oper} : ∀ (l : List Oper) (k : Nat), gobs P ops acts J R D w a0 k l → ∀ j o, l[j]? = some o →
    if acts.contains (k + j) then ∀ W, Only G w W → J (rank acts (k + j)) W → ggiven R W (fun a1 => wpList P ops (ActPost G J (rank acts (k + j) + 1) a0.defers W o (gfactAt R (k + j))) [o] a1 W) (D.getD (k + j) []) a0
      else ∀ p W, Only G w W → J p W → ggiven R W (fun a1 => wpList P ops (ActPost G J p a0.defers W o (gfactAt R (k + j))) [o] a1 W) (D.getD (k + j) []) a0
  | [], _, _, j, o, h => by simp at h
  | x :: l, k, ho, 0, o, h => by
    simp at h; subst h
    exact ho.1
  | x :: l, k, ho, j + 1, o, h => by
    have := gobs_at l (k + 1) ho.2 j o (by simpa using h)
    rw [show k + (j + 1) = k + 1 + j by omega]
    exact this

theorem gobs_nil {ops : Array Oper} {i : Nat} : gobs P ops acts J R D w a0 i [] := trivial
theorem gobs_calm {ops : Array Oper} {i : Nat} {o : Oper} {r : List Oper} (hn : acts.contains i = false) (h : ∀ p W, Only G w W → J p W → ggiven R W (fun a1 => wpList P ops (ActPost G J p a0.defers W o (gfactAt R i)) [o] a1 W) (D.getD i []) a0) (hr : gobs P ops acts J R D w a0 (i + 1) r) : gobs P ops acts J R D w a0 i (o :: r) :=
  ⟨by rw [if_neg (by rw [hn]; decide)]; exact h, hr⟩
theorem gobs_act {ops : Array Oper} {i : Nat} {o : Oper} {r : List Oper} (q : Nat) (hq : rank acts i = q) (hn : acts.contains i = true) (h : ∀ W, Only G w W → J q W → ggiven R W (fun a1 => wpList P ops (ActPost G J (q + 1) a0.defers W o (gfactAt R i)) [o] a1 W) (D.getD i []) a0) (hr : gobs P ops acts J R D w a0 (i + 1) r) : gobs P ops acts J R D w a0 i (o :: r) :=
  ⟨by rw [if_pos hn, hq]; exact h, hr⟩
/-- The world of each phase. -/
def phs (l : List (World → Prop)) (p : Nat) (W : World) : Prop := l.getD p (fun _ => True) W

/-- THE RULE. -/
theorem region_acts {id : Nat} (G : Nat → Prop) (acts : List Nat) (J : Nat → World → Prop) (R : List (GFact G)) (D : List (List (Nat × Nat))) (every : List (Nat × Nat)) (hm : P.follows .mixedOrders = true) (hok : partsOk l.toArray D every a0.tmps.size = true)
    (hacts : actsOk l acts = true) (hnd : acts.Nodup) (h0 : J 0 w.drew) (hob : gobs P l.toArray acts J R D w a0 0 l) (hend : ∀ W, Only G w W → J acts.length W → ggiven R W (fun a => Q .normal a W) every a0) : (Code.region id l.toArray true).wp P Q a0 w := by
  unfold partsOk at hok
  simp only [Bool.and_eq_true] at hok
  have ok : ∀ i o, l.toArray[i]? = some o → OpOk l.toArray D every a0.tmps.size i o := fun i o hi => OpOk.of (by
    have := List.all_eq_true.1 hok.1 i (List.mem_range.2 (Array.getElem?_eq_some_iff.1 hi).1)
    rw [hi] at this
    exact this)
  have hev : ∀ p ∈ every, ∃ oj, l.toArray[p.1]? = some oj ∧ oj.dst = some p.2 := fun p hp => by
    have := List.all_eq_true.1 hok.2 p hp
    obtain ⟨oj, h6, h7⟩ := Option.bind_eq_some_iff.1 (beq_iff_eq.1 this)
    exact ⟨oj, h6, h7⟩
  have hacts2 : ∀ i ∈ acts, i < l.length := fun i hi => by
    have := List.all_eq_true.1 hacts i hi
    rw [Bool.and_eq_true] at this
    simpa using this.1
  have hback : ∀ i o, l[i]? = some o → ∀ e ∈ o.after, Region.binds .any e = true → e.on < i := fun i o hi => (ok i o (by simpa using hi)).back
  refine wp_region_any hm (acts_any hacts2 ok hev (fun i o hi listed a W h hr => ?_) hend l.toArray.size _ a0 _ ⟨by simp, ⟨rfl, rfl, rfl, Nat.le_refl _, fun _ _ _ => rfl⟩, ?_, rfl, rfl, fun j oj d hj _ hl => ?_, fun _ _ => rfl, fun j oj hj hl => ?_⟩ (by simp))
  · have h1 := gobs_at l 0 hob i o (by simpa using hi)
    rw [Nat.zero_add] at h1
    obtain ⟨hl, o', hi', hall'⟩ := mem_ready.1 hr
    have hall : ∀ e ∈ o.after, Region.binds .any e = true → listed.getD e.on false = true := by
      rw [hi] at hi'; cases hi'; exact hall'
    have hilt : i < listed.size := by rw [h.size]; have := (Array.getElem?_eq_some_iff.1 hi).1; simpa using this
    have hlf : listed.getD i false = false := by
      simp [hilt] at hl ⊢; exact hl
    by_cases ha : i ∈ acts
    · rw [if_pos (by simpa using ha)] at h1
      have hp := act_ready hback hacts (by simpa using hi) ha h hall hlf
      rw [phase_next hnd ha hilt hlf, hp]
      exact h1 W h.ext (by rw [← hp]; exact h.ph)
    · rw [if_neg (by simpa using ha)] at h1
      rw [phase_other acts listed i ha]
      exact h1 _ W h.ext h.ph
  · have : phase acts (Array.replicate l.toArray.size false) = 0 := by
      unfold phase
      refine List.countP_eq_zero.2 fun j hj => ?_
      have := hacts2 j hj
      simp [this]
    rw [this]; exact h0
  all_goals
    exfalso
    have hlt : j < l.toArray.size := (Array.getElem?_eq_some_iff.1 hj).1
    have hlt2 : j < l.length := by simpa using hlt
    simp [hlt2] at hl
end

/-- The end of an operation that only computes. -/
theorem calm_post {G : Nat → Prop} {J : Nat → World → Prop} {p : Nat} {D : List Deferred} {W : World} {o : Oper} {d : Nat} {c : Value} {a : Act} (ho : o.dst = some d) (hs : a.tmps.toList[d]? = some c) (hd : a.defers = D) (hj : J p W) : ActPost G J p D W o (GFact.is c) .normal a W := by
  refine ⟨hd, Only.refl _ _, hj, ?_⟩
  show slotOf o a = c
  have h : a.tmps[d]? = some c := by simpa using hs
  simp [slotOf, ho, Array.getD_eq_getD_getElem?, h]
/-- The end of one that acts. -/
theorem act_post {G : Nat → Prop} {J : Nat → World → Prop} {p : Nat} {D : List Deferred} {W W' : World} {o : Oper} {d : Nat} {c : Value} {R : GFact G} {a : Act} (ho : o.dst = some d) (hs : a.tmps.toList[d]? = some c) (hd : a.defers = D) (hb : Only G W W') (hj : J p W') (hr : R.holds c W') : ActPost G J p D W o R .normal a W' := by
  refine ⟨hd, hb, hj, ?_⟩
  have h : a.tmps[d]? = some c := by simpa using hs
  simp only [slotOf, ho, Array.getD_eq_getD_getElem?, h, Option.getD_some]
  exact hr
end Go.Proofs.YtiojobajcnifpaaDoor

/- A statement of several orders that stores behind all that it reads, but for a few plain moves which may come up later (base/XActs' rule, with operations that all acting ones wait for: they see the first phase). -/
namespace Go.Proofs.YtiojobajcnifpaaDoor
open Go.RowKit

/-- All acting ones wait for each of these. -/
def earlyOk (l : List Oper) (acts E : List Nat) : Bool := acts.all fun a => decide (a < l.length) && E.all fun i => ((masks l).getD a 0).testBit i

section
variable {P : Program} {l : List Oper} {Q : Exit → Act → World → Prop} {a0 : Act} {w : World} {G : Nat → Prop} {R : List (GFact G)} {J : Nat → World → Prop} {acts E : List Nat} {D : List (List (Nat × Nat))} {every : List (Nat × Nat)}

theorem early_phase (hok : ∀ i o, l[i]? = some o → ∀ e ∈ o.after, Region.binds .any e = true → e.on < i) (he : earlyOk l acts E = true) {listed : Array Bool} {a : Act} {W : World} {i : Nat} (hi : i ∈ E)
    (h : GInv l acts J R a0 w listed a W) (hlf : listed.getD i false = false) : phase acts listed = 0 := by
  unfold phase
  refine List.countP_eq_zero.2 fun j hj => ?_
  intro hlj
  have h1 := List.all_eq_true.1 he j hj
  rw [Bool.and_eq_true] at h1
  have hjl : j < l.length := by simpa using h1.1
  have h2 := List.all_eq_true.1 h1.2 i hi
  have hshut : ∀ j oj, l[j]? = some oj → listed.getD j false = true → ∀ e ∈ oj.after, Region.binds .any e = true → listed.getD e.on false = true := fun j oj hj => h.shut j oj (by simpa using hj)
  have hjo : l[j]? = some l[j] := List.getElem?_eq_getElem hjl
  have := mask_listed hok hshut j _ hjo (hshut j _ hjo hlj) i h2
  rw [hlf] at this; cases this

/-- What is to be shown of the operations, one after the other. -/
def eobs (P : Program) (ops : Array Oper) (acts E : List Nat) (J : Nat → World → Prop) (R : List (GFact G)) (D : List (List (Nat × Nat))) (w : World) (a0 : Act) : Nat → List Oper → Prop
  | _, [] => True
  | i, o :: r => (if acts.contains i then ∀ W, Only G w W → J (rank acts i) W → ggiven R W (fun a1 => wpList P ops (ActPost G J (rank acts i + 1) a0.defers W o (gfactAt R i)) [o] a1 W) (D.getD i []) a0
      else if E.contains i then ∀ W, Only G w W → J 0 W → ggiven R W (fun a1 => wpList P ops (ActPost G J 0 a0.defers W o (gfactAt R i)) [o] a1 W) (D.getD i []) a0
      else ∀ p W, Only G w W → J p W → ggiven R W (fun a1 => wpList P ops (ActPost G J p a0.defers W o (gfactAt R i)) [o] a1 W) (D.getD i []) a0) ∧ eobs P ops acts E J R D w a0 (i + 1) r
theorem eobs_at {ops : Array Oper} : ∀ (l : List Oper) (k : Nat), eobs P ops acts E J R D w a0 k l → ∀ j o, l[j]? = some o →
    if acts.contains (k + j) then ∀ W, Only G w W → J (rank acts (k + j)) W → ggiven R W (fun a1 => wpList P ops (ActPost G J (rank acts (k + j) + 1) a0.defers W o (gfactAt R (k + j))) [o] a1 W) (D.getD (k + j) []) a0
      else if E.contains (k + j) then ∀ W, Only G w W → J 0 W → ggiven R W (fun a1 => wpList P ops (ActPost G J 0 a0.defers W o (gfactAt R (k + j))) [o] a1 W) (D.getD (k + j) []) a0
      else ∀ p W, Only G w W → J p W → ggiven R W (fun a1 => wpList P ops (ActPost G J p a0.defers W o (gfactAt R (k + j))) [o] a1 W) (D.getD (k + j) []) a0
  | [], _, _, j, o, h => by simp at h
  | x :: l, k, ho, 0, o, h => by
    simp at h; subst h
    exact ho.1
  | x :: l, k, ho, j + 1, o, h => by
    have := eobs_at l (k + 1) ho.2 j o (by simpa using h)
    rw [show k + (j + 1) = k + 1 + j by omega]
    exact this
theorem eobs_nil {ops : Array Oper} {i : Nat} : eobs P ops acts E J R D w a0 i [] := trivial
theorem eobs_calm {ops : Array Oper} {i : Nat} {o : Oper} {r : List Oper} (hn : acts.contains i = false) (he : E.contains i = false) (h : ∀ p W, Only G w W → J p W → ggiven R W (fun a1 => wpList P ops (ActPost G J p a0.defers W o (gfactAt R i)) [o] a1 W) (D.getD i []) a0) (hr : eobs P ops acts E J R D w a0 (i + 1) r) : eobs P ops acts E J R D w a0 i (o :: r) :=
  ⟨by rw [if_neg (by rw [hn]; decide), if_neg (by rw [he]; decide)]; exact h, hr⟩
theorem eobs_early {ops : Array Oper} {i : Nat} {o : Oper} {r : List Oper} (hn : acts.contains i = false) (he : E.contains i = true) (h : ∀ W, Only G w W → J 0 W → ggiven R W (fun a1 => wpList P ops (ActPost G J 0 a0.defers W o (gfactAt R i)) [o] a1 W) (D.getD i []) a0) (hr : eobs P ops acts E J R D w a0 (i + 1) r) : eobs P ops acts E J R D w a0 i (o :: r) :=
  ⟨by rw [if_neg (by rw [hn]; decide), if_pos he]; exact h, hr⟩
theorem eobs_act {ops : Array Oper} {i : Nat} {o : Oper} {r : List Oper} (q : Nat) (hq : rank acts i = q) (hn : acts.contains i = true) (h : ∀ W, Only G w W → J q W → ggiven R W (fun a1 => wpList P ops (ActPost G J (q + 1) a0.defers W o (gfactAt R i)) [o] a1 W) (D.getD i []) a0) (hr : eobs P ops acts E J R D w a0 (i + 1) r) : eobs P ops acts E J R D w a0 i (o :: r) :=
  ⟨by rw [if_pos hn, hq]; exact h, hr⟩

/-- THE RULE. -/
theorem region_early {id : Nat} (G : Nat → Prop) (acts E : List Nat) (J : Nat → World → Prop) (R : List (GFact G)) (D : List (List (Nat × Nat))) (every : List (Nat × Nat)) (hm : P.follows .mixedOrders = true) (hok : partsOk l.toArray D every a0.tmps.size = true)
    (hacts : actsOk l acts = true) (hearly : earlyOk l acts E = true) (hnd : acts.Nodup) (h0 : J 0 w.drew) (hob : eobs P l.toArray acts E J R D w a0 0 l) (hend : ∀ W, Only G w W → J acts.length W → ggiven R W (fun a => Q .normal a W) every a0) : (Code.region id l.toArray true).wp P Q a0 w := by
  unfold partsOk at hok
  simp only [Bool.and_eq_true] at hok
  have ok : ∀ i o, l.toArray[i]? = some o → OpOk l.toArray D every a0.tmps.size i o := fun i o hi => OpOk.of (by
    have := List.all_eq_true.1 hok.1 i (List.mem_range.2 (Array.getElem?_eq_some_iff.1 hi).1)
    rw [hi] at this
    exact this)
  have hev : ∀ p ∈ every, ∃ oj, l.toArray[p.1]? = some oj ∧ oj.dst = some p.2 := fun p hp => by
    have := List.all_eq_true.1 hok.2 p hp
    obtain ⟨oj, h6, h7⟩ := Option.bind_eq_some_iff.1 (beq_iff_eq.1 this)
    exact ⟨oj, h6, h7⟩
  have hacts2 : ∀ i ∈ acts, i < l.length := fun i hi => by
    have := List.all_eq_true.1 hacts i hi
    rw [Bool.and_eq_true] at this
    simpa using this.1
  have hback : ∀ i o, l[i]? = some o → ∀ e ∈ o.after, Region.binds .any e = true → e.on < i := fun i o hi => (ok i o (by simpa using hi)).back
  refine wp_region_any hm (acts_any hacts2 ok hev (fun i o hi listed a W h hr => ?_) hend l.toArray.size _ a0 _ ⟨by simp, ⟨rfl, rfl, rfl, Nat.le_refl _, fun _ _ _ => rfl⟩, ?_, rfl, rfl, fun j oj d hj _ hl => ?_, fun _ _ => rfl, fun j oj hj hl => ?_⟩ (by simp))
  · have h1 := eobs_at l 0 hob i o (by simpa using hi)
    rw [Nat.zero_add] at h1
    obtain ⟨hl, o', hi', hall'⟩ := mem_ready.1 hr
    have hall : ∀ e ∈ o.after, Region.binds .any e = true → listed.getD e.on false = true := by
      rw [hi] at hi'; cases hi'; exact hall'
    have hilt : i < listed.size := by rw [h.size]; have := (Array.getElem?_eq_some_iff.1 hi).1; simpa using this
    have hlf : listed.getD i false = false := by
      simp [hilt] at hl ⊢; exact hl
    by_cases ha : i ∈ acts
    · rw [if_pos (by simpa using ha)] at h1
      have hp := act_ready hback hacts (by simpa using hi) ha h hall hlf
      rw [phase_next hnd ha hilt hlf, hp]
      exact h1 W h.ext (by rw [← hp]; exact h.ph)
    · rw [if_neg (by simpa using ha)] at h1
      rw [phase_other acts listed i ha]
      by_cases hE : i ∈ E
      · rw [if_pos (by simpa using hE)] at h1
        have hp0 := early_phase hback hearly hE h hlf
        rw [hp0]
        exact h1 W h.ext (by rw [← hp0]; exact h.ph)
      · rw [if_neg (by simpa using hE)] at h1
        exact h1 _ W h.ext h.ph
  · have : phase acts (Array.replicate l.toArray.size false) = 0 := by
      unfold phase
      refine List.countP_eq_zero.2 fun j hj => ?_
      have := hacts2 j hj
      simp [this]
    rw [this]; exact h0
  all_goals
    exfalso
    have hlt : j < l.toArray.size := (Array.getElem?_eq_some_iff.1 hj).1
    have hlt2 : j < l.length := by simpa using hlt
    simp [hlt2] at hl
end

/-- The end of an operation that acts and has no slot. -/
theorem act_post0 {G : Nat → Prop} {J : Nat → World → Prop} {p : Nat} {D : List Deferred} {W W' : World} {o : Oper} {a : Act} (hd : a.defers = D) (hb : Only G W W') (hj : J p W') : ActPost G J p D W o (GFact.any G) .normal a W' := ⟨hd, hb, hj, trivial⟩
theorem Only.set {G : Nat → Prop} {W : World} {g k : Nat} {v : Value} (hg : G g) : Only G W (W.setCell ⟨g, k, none⟩ v) := Only.of_grown (g := g) (grown_set (grown_refl _ _)) hg
end Go.Proofs.YtiojobajcnifpaaDoor
