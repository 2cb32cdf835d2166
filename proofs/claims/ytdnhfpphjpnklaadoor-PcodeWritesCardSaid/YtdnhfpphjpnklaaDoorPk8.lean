/- PcodeMath, PcodeMath2, PcodeMath3, in one text. -/
import Derived.Test.YtdnhfpphjpnklaaDoorPk2
import Derived.Test.YtdnhfpphjpnklaaDoorWireP4
import Derived.Test.YtdnhfpphjpnklaaDoorPk6
import Derived.Test.YtdnhfpphjpnklaaDoorPk9
/- Programs as bytes, on plain data: nothing here speaks of the program. -/
namespace Go.Proofs.YtdnhfpphjpnklaaDoor.C

/-- What is told of a kind, in that order: 0 Arg, 1 Next, 2 Alt. -/
def tl (k : Int) : List Nat := if k = 0 then 1 :: [] else if k = 5 then 0 :: 1 :: 2 :: [] else if k = 8 then 1 :: 2 :: [] else if k = 9 then [] else 0 :: 1 :: []
def fld (x : Nd) (j : Nat) : Int := if j = 0 then x.arg else if j = 1 then x.next else x.alt
def set (x : Nd) (j : Nat) (v : Int) : Nd := if j = 0 then ⟨x.kind, v, x.next, x.alt⟩ else if j = 1 then ⟨x.kind, x.arg, v, x.alt⟩ else ⟨x.kind, x.arg, x.next, v⟩
theorem tl_le (k : Int) : ∀ j ∈ tl k, j ≤ 2 := by unfold tl; split <;> (try split) <;> (try split) <;> (try split) <;> simp
theorem tl_nodup (k : Int) : (tl k).Nodup := by unfold tl; split <;> (try split) <;> (try split) <;> (try split) <;> simp
theorem tl_len (k : Int) : (tl k).length ≤ 3 := by unfold tl; split <;> (try split) <;> (try split) <;> (try split) <;> simp
theorem set_kind (x : Nd) (j : Nat) (v : Int) : (set x j v).kind = x.kind := by unfold set; split <;> (try split) <;> rfl
theorem fld_set (x : Nd) (j : Nat) (v : Int) : fld (set x j v) j = v := by
  unfold fld set
  by_cases h0 : j = 0
  · simp [h0]
  · by_cases h1 : j = 1 <;> simp [h0, h1]
theorem fld_other (x : Nd) {i j : Nat} (v : Int) (hi : i ≤ 2) (hj : j ≤ 2) (h : i ≠ j) : fld (set x j v) i = fld x i := by
  unfold fld set
  by_cases h0 : j = 0
  · subst h0
    by_cases hi1 : i = 1
    · subst hi1; simp
    · have : i = 2 := by omega
      subst this; simp
  · by_cases h1 : j = 1
    · subst h1
      by_cases hi0 : i = 0
      · subst hi0; simp
      · have : i = 2 := by omega
        subst this; simp
    · have : j = 2 := by omega
      subst this
      by_cases hi0 : i = 0
      · subst hi0; simp
      · have : i = 1 := by omega
        subst this; simp
theorem nd_ext {x y : Nd} (hk : x.kind = y.kind) (h : ∀ j, j ≤ 2 → fld x j = fld y j) : x = y := by
  obtain ⟨k, a, n, t⟩ := x
  obtain ⟨k', a', n', t'⟩ := y
  have h0 := h 0 (by omega)
  have h1 := h 1 (by omega)
  have h2 := h 2 (by omega)
  simp [fld] at h0 h1 h2 hk
  simp [h0, h1, h2, hk]

/-- What a program's bytes are. -/
def nums (l : List Int) : List Nat := l.flatMap fun n => V.put (low32 n)
def told (x : Nd) : List Int := (tl x.kind).map (fld x)
def ndB (x : Nd) : List Nat := V.put (low32 x.kind) ++ nums (told x)
def ndsB (l : List Nd) : List Nat := l.flatMap ndB
def fnB (l : List Nd) : List Nat := V.put (low32 (l.length : Int)) ++ ndsB l
def fnsB (L : List (List Nd)) : List Nat := L.flatMap fnB
def mark : List Nat := 97 :: 108 :: 112 :: 49 :: []
structure PD where
  g : Int
  l : Int
  s : Int
  L : List (List Nd)
def tailB (d : PD) : List Nat := nums (d.g :: d.l :: d.s :: []) ++ (V.put (low32 (d.L.length : Int)) ++ fnsB d.L)
def pgB (d : PD) : List Nat := mark ++ tailB d
theorem nums_cons (n : Int) (l : List Int) : nums (n :: l) = V.put (low32 n) ++ nums l := rfl
theorem nums_nil : nums [] = [] := rfl
theorem nums_snoc (l : List Int) (n : Int) : nums (l ++ [n]) = nums l ++ V.put (low32 n) := by simp [nums]
theorem ndsB_cons (x : Nd) (l : List Nd) : ndsB (x :: l) = ndB x ++ ndsB l := rfl
theorem fnsB_cons (x : List Nd) (l : List (List Nd)) : fnsB (x :: l) = fnB x ++ fnsB l := rfl
theorem ndsB_snoc (l : List Nd) (x : Nd) : ndsB (l ++ [x]) = ndsB l ++ ndB x := by simp [ndsB]
theorem fnsB_snoc (l : List (List Nd)) (x : List Nd) : fnsB (l ++ [x]) = fnsB l ++ fnB x := by simp [fnsB]

/-- Reading. -/
def rdF (bs : List Nat) : List Nat → Nd → R.St → Nd × R.St
  | [], x, s => (x, s)
  | j :: r, x, s => rdF bs r (set x j ((R.num bs s 64).1 : Int)) (R.num bs s 64).2
def nd0 (k : Nat) : Nd := ⟨(k : Int), 0, 0, 0⟩
def rdNd (bs : List Nat) (s : R.St) : Nd × R.St := rdF bs (tl ((R.num bs s 9).1 : Int)) (nd0 (R.num bs s 9).1) (R.num bs s 9).2
def rdNds (bs : List Nat) : Nat → List Nd → R.St → List Nd × R.St
  | 0, l, s => (l, s)
  | k + 1, l, s => rdNds bs k (l ++ [(rdNd bs s).1]) (rdNd bs s).2
def rdFn (bs : List Nat) (s : R.St) : List Nd × R.St := rdNds bs (R.num bs s 64).1 [] (R.num bs s 64).2
def rdFns (bs : List Nat) : Nat → List (List Nd) → R.St → List (List Nd) × R.St
  | 0, L, s => (L, s)
  | k + 1, L, s => rdFns bs k (L ++ [(rdFn bs s).1]) (rdFn bs s).2
def hd1 (bs : List Nat) (s : R.St) : Nat × R.St := R.num bs s 16
def hd2 (bs : List Nat) (s : R.St) : Nat × R.St := R.num bs (hd1 bs s).2 16
def hd3 (bs : List Nat) (s : R.St) : Nat × R.St := R.num bs (hd2 bs s).2 8
def hd4 (bs : List Nat) (s : R.St) : Nat × R.St := R.num bs (hd3 bs s).2 16
def rdPg (bs : List Nat) (s : R.St) : PD × R.St :=
  (⟨((hd1 bs s).1 : Int), ((hd2 bs s).1 : Int), ((hd3 bs s).1 : Int), (rdFns bs (hd4 bs s).1 [] (hd4 bs s).2).1⟩, (rdFns bs (hd4 bs s).1 [] (hd4 bs s).2).2)

section
variable {bs : List Nat} {P : R.St → Prop}
theorem rdF_keeps (hP : ∀ s most, P s → P (R.num bs s most).2) : ∀ (js : List Nat) (x : Nd) (s : R.St), P s → P (rdF bs js x s).2
  | [], _, _, h => h
  | _ :: r, _, _, h => rdF_keeps hP r _ _ (hP _ _ h)
theorem rdNd_keeps (hP : ∀ s most, P s → P (R.num bs s most).2) (s : R.St) (h : P s) : P (rdNd bs s).2 := rdF_keeps hP _ _ _ (hP _ _ h)
theorem rdNds_keeps (hP : ∀ s most, P s → P (R.num bs s most).2) : ∀ (k : Nat) (l : List Nd) (s : R.St), P s → P (rdNds bs k l s).2
  | 0, _, _, h => h
  | k + 1, _, _, h => rdNds_keeps hP k _ _ (rdNd_keeps hP _ h)
theorem rdFn_keeps (hP : ∀ s most, P s → P (R.num bs s most).2) (s : R.St) (h : P s) : P (rdFn bs s).2 := rdNds_keeps hP _ _ _ (hP _ _ h)
theorem rdFns_keeps (hP : ∀ s most, P s → P (R.num bs s most).2) : ∀ (k : Nat) (l : List (List Nd)) (s : R.St), P s → P (rdFns bs k l s).2
  | 0, _, _, h => h
  | k + 1, _, _, h => rdFns_keeps hP k _ _ (rdFn_keeps hP _ h)
theorem rdPg_keeps (hP : ∀ s most, P s → P (R.num bs s most).2) (s : R.St) (h : P s) : P (rdPg bs s).2 := rdFns_keeps hP _ _ _ (hP _ _ (hP _ _ (hP _ _ (hP _ _ h))))
end

theorem stays_num (bs : List Nat) (s0 : R.St) (h0 : s0.why ≠ 0) : ∀ s most, s = s0 → (R.num bs s most).2 = s0 := by rintro s most rfl; rw [R.num_why h0]
theorem ups_num (bs : List Nat) (n : Nat) : ∀ (s : R.St) most, n ≤ s.at_ → n ≤ (R.num bs s most).2.at_ := by
  intro s most h
  unfold R.num R.fail
  repeat' split
  all_goals simp_all <;> omega

/-- A node that was read is one. -/
theorem rdF_kind (bs : List Nat) : ∀ (js : List Nat) (x : Nd) (s : R.St), (rdF bs js x s).1.kind = x.kind
  | [], _, _ => rfl
  | _ :: r, _, _ => by unfold rdF; rw [rdF_kind bs r, set_kind]
theorem rdF_fld (bs : List Nat) : ∀ (js : List Nat) (x : Nd) (s : R.St) (i : Nat), i ≤ 2 → (∀ j ∈ js, j ≤ 2) → i ∉ js → fld (rdF bs js x s).1 i = fld x i
  | [], _, _, _, _, _, _ => rfl
  | j :: r, x, s, i, hi, hj, hn => by
    unfold rdF
    rw [rdF_fld bs r _ _ i hi (fun k hk => hj k (List.mem_cons_of_mem _ hk)) (fun h => hn (List.mem_cons_of_mem _ h))]
    exact fld_other x _ hi (hj j List.mem_cons_self) (fun e => hn (e ▸ List.mem_cons_self))
theorem set_ok {x : Nd} (h : x.Ok) (j : Nat) {v : Int} (hv : I64 v) : (set x j v).Ok := by
  unfold set
  split
  · exact ⟨h.kind, hv, h.next, h.alt⟩
  · split
    · exact ⟨h.kind, h.arg, hv, h.alt⟩
    · exact ⟨h.kind, h.arg, h.next, hv⟩
theorem num_i64 {bs : List Nat} (s : R.St) {most : Int} (h0 : 0 ≤ most) (h1 : most ≤ 64) : I64 (((R.num bs s most).1 : Nat) : Int) := by
  have := R.num_le (bs := bs) (s := s) h0
  unfold I64; omega
theorem rdF_ok (bs : List Nat) : ∀ (js : List Nat) (x : Nd) (s : R.St), x.Ok → (rdF bs js x s).1.Ok
  | [], _, _, h => h
  | j :: r, _, s, h => rdF_ok bs r _ _ (set_ok h j (num_i64 s (by omega) (by omega)))
theorem nd0_ok {k : Nat} (h : k ≤ 64) : (nd0 k).Ok := ⟨by unfold nd0 I64; simp; omega, by unfold nd0 I64; simp, by unfold nd0 I64; simp, by unfold nd0 I64; simp⟩
theorem rdNd_ok (bs : List Nat) (s : R.St) : (rdNd bs s).1.Ok := rdF_ok bs _ _ _ (nd0_ok (by have := R.num_le (bs := bs) (s := s) (most := 9) (by omega); omega))
theorem rdNds_len (bs : List Nat) : ∀ (k : Nat) (l : List Nd) (s : R.St), (rdNds bs k l s).1.length = l.length + k
  | 0, _, _ => rfl
  | k + 1, l, s => by unfold rdNds; rw [rdNds_len bs k, List.length_append]; simp; omega
theorem rdFns_len (bs : List Nat) : ∀ (k : Nat) (l : List (List Nd)) (s : R.St), (rdFns bs k l s).1.length = l.length + k
  | 0, _, _ => rfl
  | k + 1, l, s => by unfold rdFns; rw [rdFns_len bs k, List.length_append]; simp; omega
theorem rdFn_len (bs : List Nat) (s : R.St) : (rdFn bs s).1.length ≤ 64 := by
  unfold rdFn; rw [rdNds_len]
  have := R.num_le (bs := bs) (s := s) (most := 64) (by omega)
  simp; omega
theorem rdFns_small (bs : List Nat) : ∀ (k : Nat) (L : List (List Nd)) (s : R.St), (∀ l ∈ L, l.length ≤ 64) → ∀ l ∈ (rdFns bs k L s).1, l.length ≤ 64
  | 0, _, _, h => h
  | k + 1, L, s, h => rdFns_small bs k _ _ fun l hl => by
    rcases List.mem_append.1 hl with h1 | h1
    · exact h l h1
    · rw [List.mem_singleton] at h1; subst h1; exact rdFn_len bs s

/-- What is read has just these bytes. -/
theorem num_eats {bs : List Nat} (hb : ∀ x ∈ bs, x < 256) {s : R.St} {most : Int} (h : (R.num bs s most).2.why = 0) :
    s.why = 0 ∧ bs.drop s.at_ = V.put (R.num bs s most).1 ++ bs.drop (R.num bs s most).2.at_ ∧ (R.num bs s most).1 < 4294967296 := by
  have hbd : ∀ x ∈ bs.drop s.at_, x < 256 := fun x hx => hb x (List.mem_of_mem_drop hx)
  by_cases hs : s.why = 0
  · refine ⟨hs, ?_⟩
    unfold R.num at h ⊢
    rw [if_pos hs] at h ⊢
    by_cases h0 : (V.get (bs.drop s.at_)).2.2 = 0
    · rw [if_pos h0] at h ⊢
      by_cases h1 : most < ((V.get (bs.drop s.at_)).1 : Int)
      · rw [if_pos h1] at h
        unfold R.fail at h
        rw [if_pos hs] at h
        simp at h
      · rw [if_neg h1]
        refine ⟨?_, (V.get_small _ hbd).1⟩
        have ho := (V.get_once _ hbd h0).1
        simp only
        rw [ho, ← List.drop_drop, List.take_append_drop]
    · rw [if_neg h0] at h
      unfold R.fail at h
      rw [if_pos hs] at h
      exact absurd h h0
  · rw [R.num_why hs] at h
    exact absurd h hs
theorem low_nat {n : Nat} (h : n < 4294967296) : low32 (n : Int) = n := low32_nat n h
theorem rdF_eats {bs : List Nat} (hb : ∀ x ∈ bs, x < 256) : ∀ (js : List Nat) (x : Nd) (s : R.St), js.Nodup → (∀ j ∈ js, j ≤ 2) → (rdF bs js x s).2.why = 0 →
    s.why = 0 ∧ bs.drop s.at_ = nums (js.map (fld (rdF bs js x s).1)) ++ bs.drop (rdF bs js x s).2.at_
  | [], _, _, _, _, h => ⟨h, rfl⟩
  | j :: r, x, s, hn, hj, h => by
    have hn2 := List.nodup_cons.1 hn
    unfold rdF at h ⊢
    have hj2 : ∀ k ∈ r, k ≤ 2 := fun k hk => hj k (List.mem_cons_of_mem _ hk)
    obtain ⟨h1, h2⟩ := rdF_eats hb r _ _ hn2.2 hj2 h
    obtain ⟨h3, h4, h5⟩ := num_eats hb h1
    refine ⟨h3, ?_⟩
    rw [List.map_cons, nums_cons, rdF_fld bs r _ _ j (hj j List.mem_cons_self) hj2 hn2.1, fld_set, low_nat h5, List.append_assoc, ← h2]
    exact h4
theorem rdNd_eats {bs : List Nat} (hb : ∀ x ∈ bs, x < 256) (s : R.St) (h : (rdNd bs s).2.why = 0) :
    s.why = 0 ∧ bs.drop s.at_ = ndB (rdNd bs s).1 ++ bs.drop (rdNd bs s).2.at_ := by
  unfold rdNd at h ⊢
  obtain ⟨h1, h2⟩ := rdF_eats hb _ _ _ (tl_nodup _) (tl_le _) h
  obtain ⟨h3, h4, h5⟩ := num_eats hb h1
  refine ⟨h3, ?_⟩
  unfold ndB told
  have hk := rdF_kind bs (tl ((R.num bs s 9).1 : Int)) (nd0 (R.num bs s 9).1) (R.num bs s 9).2
  rw [hk]
  show _ = V.put (low32 ((R.num bs s 9).1 : Int)) ++ nums ((tl ((R.num bs s 9).1 : Int)).map _) ++ _
  rw [low_nat h5, List.append_assoc, ← h2]
  exact h4
theorem rdNds_eats {bs : List Nat} (hb : ∀ x ∈ bs, x < 256) : ∀ (k : Nat) (l : List Nd) (s : R.St), (rdNds bs k l s).2.why = 0 →
    s.why = 0 ∧ ∃ m, (rdNds bs k l s).1 = l ++ m ∧ bs.drop s.at_ = ndsB m ++ bs.drop (rdNds bs k l s).2.at_
  | 0, l, s, h => ⟨h, [], (List.append_nil l).symm, rfl⟩
  | k + 1, l, s, h => by
    unfold rdNds at h ⊢
    obtain ⟨h1, m, h2, h3⟩ := rdNds_eats hb k _ _ h
    obtain ⟨h4, h5⟩ := rdNd_eats hb s h1
    refine ⟨h4, (rdNd bs s).1 :: m, by rw [h2, List.append_assoc]; rfl, ?_⟩
    rw [ndsB_cons, List.append_assoc, ← h3]
    exact h5
theorem rdFn_eats {bs : List Nat} (hb : ∀ x ∈ bs, x < 256) (s : R.St) (h : (rdFn bs s).2.why = 0) :
    s.why = 0 ∧ bs.drop s.at_ = fnB (rdFn bs s).1 ++ bs.drop (rdFn bs s).2.at_ := by
  have hl := rdNds_len bs (R.num bs s 64).1 [] (R.num bs s 64).2
  unfold rdFn at h ⊢
  obtain ⟨h1, m, h2, h3⟩ := rdNds_eats hb _ _ _ h
  obtain ⟨h4, h5, h6⟩ := num_eats hb h1
  refine ⟨h4, ?_⟩
  rw [List.nil_append] at h2
  unfold fnB
  rw [hl, h2, List.length_nil, Nat.zero_add, low_nat h6, List.append_assoc, ← h3]
  exact h5
theorem rdFns_eats {bs : List Nat} (hb : ∀ x ∈ bs, x < 256) : ∀ (k : Nat) (l : List (List Nd)) (s : R.St), (rdFns bs k l s).2.why = 0 →
    s.why = 0 ∧ ∃ m, (rdFns bs k l s).1 = l ++ m ∧ bs.drop s.at_ = fnsB m ++ bs.drop (rdFns bs k l s).2.at_
  | 0, l, s, h => ⟨h, [], (List.append_nil l).symm, rfl⟩
  | k + 1, l, s, h => by
    unfold rdFns at h ⊢
    obtain ⟨h1, m, h2, h3⟩ := rdFns_eats hb k _ _ h
    obtain ⟨h4, h5⟩ := rdFn_eats hb s h1
    refine ⟨h4, (rdFn bs s).1 :: m, by rw [h2, List.append_assoc]; rfl, ?_⟩
    rw [fnsB_cons, List.append_assoc, ← h3]
    exact h5
theorem rdPg_eats {bs : List Nat} (hb : ∀ x ∈ bs, x < 256) (s : R.St) (h : (rdPg bs s).2.why = 0) :
    s.why = 0 ∧ bs.drop s.at_ = tailB (rdPg bs s).1 ++ bs.drop (rdPg bs s).2.at_ := by
  have hl := rdFns_len bs (hd4 bs s).1 [] (hd4 bs s).2
  unfold rdPg at h ⊢
  obtain ⟨h1, m, h2, h3⟩ := rdFns_eats hb _ _ _ h
  obtain ⟨a1, a2, a3⟩ := num_eats hb (show (R.num bs (hd3 bs s).2 16).2.why = 0 from h1)
  obtain ⟨b1, b2, b3⟩ := num_eats hb (show (R.num bs (hd2 bs s).2 8).2.why = 0 from a1)
  obtain ⟨c1, c2, c3⟩ := num_eats hb (show (R.num bs (hd1 bs s).2 16).2.why = 0 from b1)
  obtain ⟨d1, d2, d3⟩ := num_eats hb (show (R.num bs s 16).2.why = 0 from c1)
  refine ⟨d1, ?_⟩
  rw [List.nil_append] at h2
  unfold tailB
  simp only
  rw [hl, h2, List.length_nil, Nat.zero_add]
  show _ = (V.put (low32 ((R.num bs s 16).1 : Int)) ++ (V.put (low32 ((R.num bs (hd1 bs s).2 16).1 : Int)) ++ (V.put (low32 ((R.num bs (hd2 bs s).2 8).1 : Int)) ++ []))) ++ (V.put (low32 ((R.num bs (hd3 bs s).2 16).1 : Int)) ++ fnsB m) ++ _
  rw [low_nat a3, low_nat b3, low_nat c3, low_nat d3]
  simp only [List.append_assoc, List.append_nil]
  rw [d2, show (R.num bs s 16).2 = (hd1 bs s).2 from rfl, c2, show (R.num bs (hd1 bs s).2 16).2 = (hd2 bs s).2 from rfl, b2, show (R.num bs (hd2 bs s).2 8).2 = (hd3 bs s).2 from rfl, a2, show (R.num bs (hd3 bs s).2 16).2 = (hd4 bs s).2 from rfl, h3]
end Go.Proofs.YtdnhfpphjpnklaaDoor.C

/- What is written is read as it was, and each front of it is too short, on plain data. -/
namespace Go.Proofs.YtdnhfpphjpnklaaDoor.C

/-- A number that is read: from 0 to some. -/
def In (m : Int) (n : Int) : Prop := 0 ≤ n ∧ n ≤ m
theorem num_back {bs post : List Nat} {s : R.St} {n most : Int} (hn : In most n) (hm : most ≤ 64) (hd : bs.drop s.at_ = V.put (low32 n) ++ post) (hw : s.why = 0) :
    R.num bs s most = (n.toNat, ⟨s.at_ + (V.put (low32 n)).length, s.wh, 0⟩) := by
  obtain ⟨h1, h2⟩ := hn
  have e : low32 n = n.toNat := by unfold low32; omega
  rw [e] at hd ⊢
  exact R.num_at hd (by omega) (by omega) hw
theorem drop_on {bs a b : List Nat} {k : Nat} (h : bs.drop k = a ++ b) : bs.drop (k + a.length) = b := by
  rw [← List.drop_drop, h, List.drop_left']
  rfl
theorem st_add (a b c : Nat) (s : R.St) (h : a + b = c) : (⟨s.at_ + a + b, s.wh, 0⟩ : R.St) = ⟨s.at_ + c, s.wh, 0⟩ := by rw [← h, Nat.add_assoc]

theorem rdF_back {bs post : List Nat} (y : Nd) : ∀ (js : List Nat) (x : Nd) (s : R.St), js.Nodup → (∀ j ∈ js, j ≤ 2 ∧ In 64 (fld y j)) → s.why = 0 → bs.drop s.at_ = nums (js.map (fld y)) ++ post →
    ∃ z, rdF bs js x s = (z, ⟨s.at_ + (nums (js.map (fld y))).length, s.wh, 0⟩) ∧ z.kind = x.kind ∧ (∀ j ∈ js, fld z j = fld y j) ∧ ∀ j, j ≤ 2 → j ∉ js → fld z j = fld x j
  | [], x, s, _, _, hw, _ => by
    obtain ⟨a, b, c⟩ := s
    simp only at hw
    subst hw
    exact ⟨x, rfl, rfl, by simp, fun _ _ _ => rfl⟩
  | j :: r, x, s, hn, hj, hw, hd => by
    have hn2 := List.nodup_cons.1 hn
    rw [List.map_cons, nums_cons, List.append_assoc] at hd
    have hb := num_back (hj j List.mem_cons_self).2 (by omega) hd hw
    have hjr : ∀ k ∈ r, k ≤ 2 ∧ In 64 (fld y k) := fun k hk => hj k (List.mem_cons_of_mem _ hk)
    have hv : (((fld y j).toNat : Nat) : Int) = fld y j := Int.toNat_of_nonneg (hj j List.mem_cons_self).2.1
    obtain ⟨z, h1, h2, h3, h4⟩ := rdF_back y r (set x j (fld y j)) ⟨s.at_ + (V.put (low32 (fld y j))).length, s.wh, 0⟩ hn2.2 hjr rfl (drop_on hd)
    refine ⟨z, ?_, by rw [h2, set_kind], ?_, ?_⟩
    · unfold rdF
      rw [hb]
      simp only
      rw [hv, h1, List.map_cons, nums_cons, List.length_append, st_add _ _ _ _ rfl]
    · intro k hk
      rcases List.mem_cons.1 hk with e | hk
      · subst e
        rw [h4 k (hj k List.mem_cons_self).1 hn2.1, fld_set]
      · exact h3 k hk
    · intro k hk hnk
      rw [h4 k hk (fun h => hnk (List.mem_cons_of_mem _ h))]
      exact fld_other x _ hk (hj j List.mem_cons_self).1 (fun e => hnk (e ▸ List.mem_cons_self))
/-- A node whose numbers can be read, and which has nothing that is not told. -/
structure NdOk (x : Nd) : Prop where
  kind : In 9 x.kind
  fields : ∀ j, j ≤ 2 → In 64 (fld x j)
  rest : ∀ j, j ≤ 2 → j ∉ tl x.kind → fld x j = 0
theorem fld_nd0 (k j : Nat) : fld (nd0 k) j = 0 := by unfold fld nd0; split <;> (try split) <;> rfl
theorem rdNd_back {bs post : List Nat} {x : Nd} (hx : NdOk x) {s : R.St} (hw : s.why = 0) (hd : bs.drop s.at_ = ndB x ++ post) : rdNd bs s = (x, ⟨s.at_ + (ndB x).length, s.wh, 0⟩) := by
  unfold ndB told at hd ⊢
  rw [List.append_assoc] at hd
  have hb := num_back hx.kind (by omega) hd hw
  have hv : ((x.kind.toNat : Nat) : Int) = x.kind := Int.toNat_of_nonneg hx.kind.1
  obtain ⟨z, h1, h2, h3, h4⟩ := rdF_back (bs := bs) (post := post) x (tl x.kind) (nd0 x.kind.toNat) ⟨s.at_ + (V.put (low32 x.kind)).length, s.wh, 0⟩ (tl_nodup _) (fun j hj => ⟨tl_le _ j hj, hx.fields j (tl_le _ j hj)⟩) rfl (drop_on hd)
  have hz : z = x := by
    refine nd_ext (by rw [h2]; exact hv) fun j hj => ?_
    by_cases hm : j ∈ tl x.kind
    · exact h3 j hm
    · rw [h4 j hj hm, fld_nd0, hx.rest j hj hm]
  subst hz
  unfold rdNd
  rw [hb]
  simp only
  rw [hv, h1, List.length_append, st_add _ _ _ _ rfl]
theorem rdNds_back {bs post : List Nat} : ∀ (m l : List Nd) (s : R.St), (∀ x ∈ m, NdOk x) → s.why = 0 → bs.drop s.at_ = ndsB m ++ post → rdNds bs m.length l s = (l ++ m, ⟨s.at_ + (ndsB m).length, s.wh, 0⟩)
  | [], l, s, _, hw, _ => by
    obtain ⟨a, b, c⟩ := s
    simp only at hw
    subst hw
    rw [List.append_nil]; rfl
  | x :: m, l, s, hx, hw, hd => by
    rw [ndsB_cons, List.append_assoc] at hd
    have h1 := rdNd_back (hx x List.mem_cons_self) hw hd
    rw [List.length_cons]
    unfold rdNds
    rw [h1]
    simp only
    rw [rdNds_back m _ ⟨s.at_ + (ndB x).length, s.wh, 0⟩ (fun y hy => hx y (List.mem_cons_of_mem _ hy)) rfl (drop_on hd), ndsB_cons, List.length_append, st_add _ _ _ _ rfl, List.append_assoc]
    rfl
structure FnOk (l : List Nd) : Prop where
  len : l.length ≤ 64
  nodes : ∀ x ∈ l, NdOk x
theorem rdFn_back {bs post : List Nat} {l : List Nd} (hl : FnOk l) {s : R.St} (hw : s.why = 0) (hd : bs.drop s.at_ = fnB l ++ post) : rdFn bs s = (l, ⟨s.at_ + (fnB l).length, s.wh, 0⟩) := by
  unfold fnB at hd ⊢
  rw [List.append_assoc] at hd
  have h64 := hl.len
  have hb := num_back (most := 64) (n := (l.length : Int)) ⟨by omega, by omega⟩ (by omega) hd hw
  unfold rdFn
  rw [hb]
  simp only
  rw [Int.toNat_natCast, rdNds_back l [] ⟨s.at_ + (V.put (low32 (l.length : Int))).length, s.wh, 0⟩ hl.nodes rfl (drop_on hd), List.length_append, st_add _ _ _ _ rfl]
  rfl
theorem rdFns_back {bs post : List Nat} : ∀ (m l : List (List Nd)) (s : R.St), (∀ x ∈ m, FnOk x) → s.why = 0 → bs.drop s.at_ = fnsB m ++ post → rdFns bs m.length l s = (l ++ m, ⟨s.at_ + (fnsB m).length, s.wh, 0⟩)
  | [], l, s, _, hw, _ => by
    obtain ⟨a, b, c⟩ := s
    simp only at hw
    subst hw
    rw [List.append_nil]; rfl
  | x :: m, l, s, hx, hw, hd => by
    rw [fnsB_cons, List.append_assoc] at hd
    have h1 := rdFn_back (hx x List.mem_cons_self) hw hd
    rw [List.length_cons]
    unfold rdFns
    rw [h1]
    simp only
    rw [rdFns_back m _ ⟨s.at_ + (fnB x).length, s.wh, 0⟩ (fun y hy => hx y (List.mem_cons_of_mem _ hy)) rfl (drop_on hd), fnsB_cons, List.length_append, st_add _ _ _ _ rfl, List.append_assoc]
    rfl
/-- A program that can be read. -/
structure PDOk (d : PD) : Prop where
  g : In 16 d.g
  l : In 16 d.l
  s : In 8 d.s
  len : d.L.length ≤ 16
  fns : ∀ x ∈ d.L, FnOk x
theorem rdPg_back {bs post : List Nat} {d : PD} (hd0 : PDOk d) {s : R.St} (hw : s.why = 0) (hd : bs.drop s.at_ = tailB d ++ post) : rdPg bs s = (d, ⟨s.at_ + (tailB d).length, s.wh, 0⟩) := by
  unfold tailB at hd ⊢
  rw [nums_cons, nums_cons, nums_cons, nums_nil] at hd ⊢
  simp only [List.append_assoc, List.append_nil] at hd
  have hl := hd0.len
  have e1 : hd1 bs s = (d.g.toNat, ⟨s.at_ + (V.put (low32 d.g)).length, s.wh, 0⟩) := num_back hd0.g (by omega) hd hw
  have k1 := drop_on hd
  have e2 : hd2 bs s = (d.l.toNat, ⟨s.at_ + (V.put (low32 d.g)).length + (V.put (low32 d.l)).length, s.wh, 0⟩) := by
    unfold hd2; rw [e1]
    exact num_back (s := ⟨s.at_ + (V.put (low32 d.g)).length, s.wh, 0⟩) hd0.l (by omega) k1 rfl
  have k2 := drop_on k1
  have e3 : hd3 bs s = (d.s.toNat, ⟨s.at_ + (V.put (low32 d.g)).length + (V.put (low32 d.l)).length + (V.put (low32 d.s)).length, s.wh, 0⟩) := by
    unfold hd3; rw [e2]
    exact num_back (s := ⟨s.at_ + (V.put (low32 d.g)).length + (V.put (low32 d.l)).length, s.wh, 0⟩) hd0.s (by omega) k2 rfl
  have k3 := drop_on k2
  have e4 : hd4 bs s = (d.L.length, ⟨s.at_ + (V.put (low32 d.g)).length + (V.put (low32 d.l)).length + (V.put (low32 d.s)).length + (V.put (low32 (d.L.length : Int))).length, s.wh, 0⟩) := by
    unfold hd4; rw [e3]
    exact num_back (s := ⟨s.at_ + (V.put (low32 d.g)).length + (V.put (low32 d.l)).length + (V.put (low32 d.s)).length, s.wh, 0⟩) (n := (d.L.length : Int)) ⟨by omega, by omega⟩ (by omega) k3 rfl
  have k4 := drop_on k3
  have e5 := rdFns_back d.L [] ⟨s.at_ + (V.put (low32 d.g)).length + (V.put (low32 d.l)).length + (V.put (low32 d.s)).length + (V.put (low32 (d.L.length : Int))).length, s.wh, 0⟩ hd0.fns rfl k4
  unfold rdPg
  rw [e4]
  simp only
  rw [e5, e1, e2, e3]
  simp only
  rw [Int.toNat_of_nonneg hd0.g.1, Int.toNat_of_nonneg hd0.l.1, Int.toNat_of_nonneg hd0.s.1, List.nil_append]
  simp only [List.length_append, List.append_assoc, List.append_nil, Nat.add_assoc]

/-- A reader of a front, beside one of the whole. -/
def Cut (n : Nat) (s t : R.St) : Prop := (t = s ∧ s.at_ ≤ n ∧ s.why = 0) ∨ (t.why = 2 ∧ t.wh ≤ n ∧ n < s.at_)
theorem get_front {l : List Nat} (hb : ∀ x ∈ l, x < 256) (h : (V.get l).2.2 = 0) (n : Nat) : V.get (l.take n) = if (V.get l).2.1 ≤ n then V.get l else (0, 0, 2) := by
  obtain ⟨h1, h2, h3⟩ := V.get_once l hb h
  have h4 := (V.get_small l hb).1
  have hk : (V.get l).2.1 = V.size (V.get l).1 := by
    rw [← V.len_put _ h4, h1, List.length_take]; omega
  by_cases hle : (V.get l).2.1 ≤ n
  · rw [if_pos hle]
    have hl : l.take n = V.put (V.get l).1 ++ (l.take n).drop (V.get l).2.1 := by
      rw [h1]
      have : l.take (V.get l).2.1 = (l.take n).take (V.get l).2.1 := by rw [List.take_take, Nat.min_eq_left hle]
      rw [this, List.take_append_drop]
    rw [hl, V.get_put _ h4, ← hk, ← h]
  · rw [if_neg hle]
    have hl : l.take n = (V.put (V.get l).1).take n := by rw [h1, List.take_take, Nat.min_eq_left (by omega)]
    rw [hl]
    exact V.get_cut _ h4 _ (by omega)
theorem num_cut {bs : List Nat} (hb : ∀ x ∈ bs, x < 256) {n : Nat} {s t : R.St} {most : Int} (h : Cut n s t) (hw : (R.num bs s most).2.why = 0) :
    Cut n (R.num bs s most).2 (R.num (bs.take n) t most).2 ∧ ((R.num (bs.take n) t most).2.why = 0 → (R.num (bs.take n) t most).1 = (R.num bs s most).1) := by
  rcases h with ⟨rfl, h1, h2⟩ | ⟨h1, h2, h3⟩
  · have hbd : ∀ x ∈ bs.drop t.at_, x < 256 := fun x hx => hb x (List.mem_of_mem_drop hx)
    have hdt : (bs.take n).drop t.at_ = (bs.drop t.at_).take (n - t.at_) := List.drop_take ..
    unfold R.num at hw ⊢
    rw [if_pos h2] at hw ⊢
    rw [if_pos h2, hdt]
    by_cases h0 : (V.get (bs.drop t.at_)).2.2 = 0
    · rw [if_pos h0] at hw ⊢
      by_cases hm : most < ((V.get (bs.drop t.at_)).1 : Int)
      · rw [if_pos hm] at hw
        unfold R.fail at hw
        rw [if_pos h2] at hw
        simp at hw
      · rw [if_neg hm] at hw ⊢
        rw [get_front hbd h0]
        by_cases hle : (V.get (bs.drop t.at_)).2.1 ≤ n - t.at_
        · rw [if_pos hle, if_pos h0, if_neg hm]
          exact ⟨.inl ⟨rfl, by simp only; omega, rfl⟩, fun _ => rfl⟩
        · rw [if_neg hle, if_neg (by decide)]
          unfold R.fail
          rw [if_pos h2]
          refine ⟨.inr ⟨rfl, h1, by simp only; omega⟩, fun h => ?_⟩
          simp at h
    · rw [if_neg h0] at hw
      unfold R.fail at hw
      rw [if_pos h2] at hw
      exact absurd hw h0
  · rw [R.num_why (bs := bs.take n) (s := t) (by rw [h1]; decide)]
    refine ⟨.inr ⟨h1, h2, ?_⟩, fun h => ?_⟩
    · exact Nat.lt_of_lt_of_le h3 (ups_num bs s.at_ s most (Nat.le_refl _))
    · rw [h1] at h; cases h
/-- Whatever is read behind a fault leaves the reader as it is. -/
theorem cut_stays {n : Nat} {s s' t t' : R.St} (h : t.why = 2 ∧ t.wh ≤ n ∧ n < s.at_) (ht : t' = t) (hs : s.at_ ≤ s'.at_) : Cut n s' t' := by subst ht; exact .inr ⟨h.1, h.2.1, by omega⟩

theorem rdF_cut {bs : List Nat} (hb : ∀ x ∈ bs, x < 256) {n : Nat} : ∀ (js : List Nat) (x : Nd) (s t : R.St), Cut n s t → (rdF bs js x s).2.why = 0 →
    Cut n (rdF bs js x s).2 (rdF (bs.take n) js x t).2 ∧ ((rdF (bs.take n) js x t).2.why = 0 → (rdF (bs.take n) js x t).1 = (rdF bs js x s).1)
  | [], _, _, _, h, _ => ⟨h, fun _ => rfl⟩
  | j :: r, x, s, t, h, hw => by
    unfold rdF at hw ⊢
    have h1 : (R.num bs s 64).2.why = 0 := Classical.byContradiction fun hne => by
      have := rdF_keeps (bs := bs) (stays_num bs _ hne) r (set x j ((R.num bs s 64).1 : Int)) _ rfl
      rw [this] at hw; exact hne hw
    obtain ⟨h2, h3⟩ := num_cut hb h h1
    rcases h2 with h2 | h2
    · have hx := h3 (by rw [h2.1]; exact h1)
      rw [hx]
      exact rdF_cut hb r _ _ _ (.inl h2) hw
    · have hk := rdF_keeps (bs := bs.take n) (stays_num (bs.take n) (R.num (bs.take n) t 64).2 (by rw [h2.1]; decide)) r (set x j ((R.num (bs.take n) t 64).1 : Int)) _ rfl
      refine ⟨cut_stays h2 hk (rdF_keeps (ups_num bs _) r _ _ (Nat.le_refl _)), fun he => ?_⟩
      rw [hk, h2.1] at he; cases he
theorem rdNd_cut {bs : List Nat} (hb : ∀ x ∈ bs, x < 256) {n : Nat} (s t : R.St) (h : Cut n s t) (hw : (rdNd bs s).2.why = 0) :
    Cut n (rdNd bs s).2 (rdNd (bs.take n) t).2 ∧ ((rdNd (bs.take n) t).2.why = 0 → (rdNd (bs.take n) t).1 = (rdNd bs s).1) := by
  unfold rdNd at hw ⊢
  have h1 : (R.num bs s 9).2.why = 0 := Classical.byContradiction fun hne => by
    have := rdF_keeps (bs := bs) (stays_num bs _ hne) (tl ((R.num bs s 9).1 : Int)) (nd0 (R.num bs s 9).1) _ rfl
    rw [this] at hw; exact hne hw
  obtain ⟨h2, h3⟩ := num_cut hb h h1
  rcases h2 with h2 | h2
  · have hx := h3 (by rw [h2.1]; exact h1)
    rw [hx]
    exact rdF_cut hb _ _ _ _ (.inl h2) hw
  · have hk := rdF_keeps (bs := bs.take n) (stays_num (bs.take n) (R.num (bs.take n) t 9).2 (by rw [h2.1]; decide)) (tl ((R.num (bs.take n) t 9).1 : Int)) (nd0 (R.num (bs.take n) t 9).1) _ rfl
    refine ⟨cut_stays h2 hk (rdF_keeps (ups_num bs _) _ _ _ (Nat.le_refl _)), fun he => ?_⟩
    rw [hk, h2.1] at he; cases he
theorem rdNds_cut {bs : List Nat} (hb : ∀ x ∈ bs, x < 256) {n : Nat} : ∀ (k : Nat) (l : List Nd) (s t : R.St), Cut n s t → (rdNds bs k l s).2.why = 0 →
    Cut n (rdNds bs k l s).2 (rdNds (bs.take n) k l t).2 ∧ ((rdNds (bs.take n) k l t).2.why = 0 → (rdNds (bs.take n) k l t).1 = (rdNds bs k l s).1)
  | 0, _, _, _, h, _ => ⟨h, fun _ => rfl⟩
  | k + 1, l, s, t, h, hw => by
    unfold rdNds at hw ⊢
    have h1 : (rdNd bs s).2.why = 0 := Classical.byContradiction fun hne => by
      have := rdNds_keeps (bs := bs) (stays_num bs _ hne) k (l ++ [(rdNd bs s).1]) _ rfl
      rw [this] at hw; exact hne hw
    obtain ⟨h2, h3⟩ := rdNd_cut hb s t h h1
    rcases h2 with h2 | h2
    · have hx := h3 (by rw [h2.1]; exact h1)
      rw [hx]
      exact rdNds_cut hb k _ _ _ (.inl h2) hw
    · have hk := rdNds_keeps (bs := bs.take n) (stays_num (bs.take n) (rdNd (bs.take n) t).2 (by rw [h2.1]; decide)) k (l ++ [(rdNd (bs.take n) t).1]) _ rfl
      refine ⟨cut_stays h2 hk (rdNds_keeps (ups_num bs _) k _ _ (Nat.le_refl _)), fun he => ?_⟩
      rw [hk, h2.1] at he; cases he
theorem rdFn_cut {bs : List Nat} (hb : ∀ x ∈ bs, x < 256) {n : Nat} (s t : R.St) (h : Cut n s t) (hw : (rdFn bs s).2.why = 0) :
    Cut n (rdFn bs s).2 (rdFn (bs.take n) t).2 ∧ ((rdFn (bs.take n) t).2.why = 0 → (rdFn (bs.take n) t).1 = (rdFn bs s).1) := by
  unfold rdFn at hw ⊢
  have h1 : (R.num bs s 64).2.why = 0 := Classical.byContradiction fun hne => by
    have := rdNds_keeps (bs := bs) (stays_num bs _ hne) (R.num bs s 64).1 [] _ rfl
    rw [this] at hw; exact hne hw
  obtain ⟨h2, h3⟩ := num_cut hb h h1
  rcases h2 with h2 | h2
  · have hx := h3 (by rw [h2.1]; exact h1)
    rw [hx]
    exact rdNds_cut hb _ _ _ _ (.inl h2) hw
  · have hk := rdNds_keeps (bs := bs.take n) (stays_num (bs.take n) (R.num (bs.take n) t 64).2 (by rw [h2.1]; decide)) (R.num (bs.take n) t 64).1 [] _ rfl
    refine ⟨cut_stays h2 hk (rdNds_keeps (ups_num bs _) _ _ _ (Nat.le_refl _)), fun he => ?_⟩
    rw [hk, h2.1] at he; cases he
theorem rdFns_cut {bs : List Nat} (hb : ∀ x ∈ bs, x < 256) {n : Nat} : ∀ (k : Nat) (l : List (List Nd)) (s t : R.St), Cut n s t → (rdFns bs k l s).2.why = 0 →
    Cut n (rdFns bs k l s).2 (rdFns (bs.take n) k l t).2
  | 0, _, _, _, h, _ => h
  | k + 1, l, s, t, h, hw => by
    unfold rdFns at hw ⊢
    have h1 : (rdFn bs s).2.why = 0 := Classical.byContradiction fun hne => by
      have := rdFns_keeps (bs := bs) (stays_num bs _ hne) k (l ++ [(rdFn bs s).1]) _ rfl
      rw [this] at hw; exact hne hw
    obtain ⟨h2, h3⟩ := rdFn_cut hb s t h h1
    rcases h2 with h2 | h2
    · have hx := h3 (by rw [h2.1]; exact h1)
      rw [hx]
      exact rdFns_cut hb k _ _ _ (.inl h2) hw
    · exact cut_stays h2 (rdFns_keeps (bs := bs.take n) (stays_num (bs.take n) (rdFn (bs.take n) t).2 (by rw [h2.1]; decide)) k _ _ rfl) (rdFns_keeps (ups_num bs _) k _ _ (Nat.le_refl _))
theorem rdPg_cut {bs : List Nat} (hb : ∀ x ∈ bs, x < 256) {n : Nat} (s t : R.St) (h : Cut n s t) (hw : (rdPg bs s).2.why = 0) : Cut n (rdPg bs s).2 (rdPg (bs.take n) t).2 := by
  unfold rdPg at hw ⊢
  simp only at hw ⊢
  have h4 : (hd4 bs s).2.why = 0 := Classical.byContradiction fun hne => by
    have := rdFns_keeps (bs := bs) (stays_num bs _ hne) (hd4 bs s).1 [] _ rfl
    rw [this] at hw; exact hne hw
  have h3 := (num_eats hb (show (R.num bs (hd3 bs s).2 16).2.why = 0 from h4)).1
  have h2 := (num_eats hb (show (R.num bs (hd2 bs s).2 8).2.why = 0 from h3)).1
  have h1 := (num_eats hb (show (R.num bs (hd1 bs s).2 16).2.why = 0 from h2)).1
  have c1 := (num_cut hb h (show (R.num bs s 16).2.why = 0 from h1)).1
  have c2 := (num_cut hb c1 (show (R.num bs (hd1 bs s).2 16).2.why = 0 from h2)).1
  have c3 := (num_cut hb c2 (show (R.num bs (hd2 bs s).2 8).2.why = 0 from h3)).1
  obtain ⟨c4, hx⟩ := num_cut hb c3 (show (R.num bs (hd3 bs s).2 16).2.why = 0 from h4)
  rcases c4 with c4 | c4
  · have hx1 := hx (by rw [c4.1]; exact h4)
    have hx2 : (hd4 (bs.take n) t).1 = (hd4 bs s).1 := hx1
    rw [hx2]
    exact rdFns_cut hb _ _ _ _ (.inl c4) hw
  · exact cut_stays c4 (rdFns_keeps (bs := bs.take n) (stays_num (bs.take n) (hd4 (bs.take n) t).2 (by rw [show (hd4 (bs.take n) t).2.why = 2 from c4.1]; decide)) _ _ _ rfl) (rdFns_keeps (ups_num bs _) _ _ _ (Nat.le_refl _))
end Go.Proofs.YtdnhfpphjpnklaaDoor.C

/- Which bytes are read, what a program that may be comes to, on plain data. -/
namespace Go.Proofs.YtdnhfpphjpnklaaDoor.C

/-- What is wrong with a program hangs on its data alone. -/
theorem nodes_at {p q : Pg} (h : Q.Same p q) {f : Nat} {fn : Fn} (hf : p.fns[f]? = some fn) : ∃ fn', q.fns[f]? = some fn' ∧ fn'.nodes = fn.nodes := by
  have := congrArg (·[f]?) h.2.2.2
  simp only [List.getElem?_map, hf, Option.map_some] at this
  cases hq : q.fns[f]? with
  | none => rw [hq] at this; cases this
  | some fn' => rw [hq] at this; exact ⟨fn', rfl, by simpa using this.symm⟩
theorem same_symm {p q : Pg} (h : Q.Same p q) : Q.Same q p := ⟨h.1.symm, h.2.1.symm, h.2.2.1.symm, h.2.2.2.symm⟩
theorem fault_same {p q : Pg} (h : Q.Same p q) (hl : p.len = q.len) {fn fn' : Fn} (hn : fn'.nodes = fn.nodes) : Q.fnFault p fn = Q.fnFault q fn' := by
  have hb : Q.badNode p fn = Q.badNode q fn' := by
    funext i
    unfold Q.badNode
    rw [h.1, h.2.1, h.2.2.1, hl, hn]
  unfold Q.fnFault
  rw [hn, hb]
theorem badFn_imp {p q : Pg} (h : Q.Same p q) (hl : p.len = q.len) {f : Nat} (hb : Q.badFn p f) : Q.badFn q f := by
  obtain ⟨fn, h1, h2⟩ := hb
  obtain ⟨fn', h3, h4⟩ := nodes_at h h1
  exact ⟨fn', h3, by rw [← fault_same h hl h4]; exact h2⟩
theorem calls_imp {p q : Pg} (h : Q.Same p q) {x y : Nat} (hc : Q.calls p x y) : Q.calls q x y := by
  obtain ⟨fn, h1, nd, h2, h3⟩ := hc
  obtain ⟨fn', h4, h5⟩ := nodes_at h h1
  exact ⟨fn', h4, nd, by rw [h5]; exact h2, h3⟩
theorem calls_same {p q : Pg} (h : Q.Same p q) : Q.calls p = Q.calls q := by
  funext x y
  exact propext ⟨calls_imp h, calls_imp (same_symm h)⟩
theorem round_imp {p q : Pg} (h : Q.Same p q) {f i : Nat} (hr : Q.roundAt p f i) : Q.roundAt q f i := by
  obtain ⟨fn, nd, h1, h2, h3, k, h4, h5, h6⟩ := hr
  obtain ⟨fn', h7, h8⟩ := nodes_at h h1
  refine ⟨fn', nd, h7, by rw [h8]; exact h2, h3, k, h4, by rw [← h.len]; exact h5, ?_⟩
  rw [← calls_same h, ← h.len]; exact h6
theorem round_same {p q : Pg} (h : Q.Same p q) : Q.roundAt p = Q.roundAt q := by
  funext f i
  exact propext ⟨round_imp h, round_imp (same_symm h)⟩
theorem check_same {p q : Pg} (h : Q.Same p q) (hl : p.len = q.len) : Q.check p = Q.check q := by
  have hb : Q.badFn p = Q.badFn q := funext fun f => propext ⟨badFn_imp h hl, badFn_imp (same_symm h) hl.symm⟩
  have hr : Q.badRound p = Q.badRound q := by unfold Q.badRound; rw [round_same h]
  have hi : Q.roundIn p = Q.roundIn q := by funext f; unfold Q.roundIn; rw [round_same h]
  unfold Q.check
  rw [h.1, h.2.1, h.2.2.1, h.len, hb, hr, hi]
  split
  · rfl
  · split
    · rfl
    · cases hf : Q.firstIdx (Q.badFn q) q.fns.length with
      | none => rfl
      | some f =>
        obtain ⟨hlt, hbad⟩ := firstIdx_is hf
        have hlp : f < p.fns.length := by rw [h.len]; exact hlt
        have hp : p.fns[f]? = some p.fns[f] := List.getElem?_eq_getElem hlp
        obtain ⟨fn', h3, h4⟩ := nodes_at h hp
        simp only
        rw [List.getD_eq_getElem?_getD, List.getD_eq_getElem?_getD, hp, h3, Option.getD_some, Option.getD_some, fault_same h hl h4]

/-- A program as data, and data as a program. -/
def dataOf (p : Pg) : PD := ⟨p.g, p.l, p.s, p.fns.map (·.nodes)⟩
def pgOf (d : PD) : Pg := ⟨d.g, d.l, d.s, none, d.L.length, d.L.length, d.L.map fun l => ⟨none, l.length, l.length, l⟩⟩
theorem data_pgOf (d : PD) : dataOf (pgOf d) = d := by
  unfold dataOf pgOf
  obtain ⟨g, l, s, L⟩ := d
  simp only [PD.mk.injEq, true_and, List.map_map]
  exact List.map_id' L
theorem same_iff {p q : Pg} : Q.Same p q ↔ dataOf p = dataOf q := by
  unfold dataOf Q.Same
  simp only [PD.mk.injEq]
theorem check_data {p : Pg} (hl : p.fns.length = p.len) : Q.check p = Q.check (pgOf (dataOf p)) :=
  check_same (same_iff.2 (data_pgOf _).symm) (by rw [← hl]; unfold pgOf dataOf; simp)

theorem may_ok {g l s f : Int} {x : Nd} {nodes : Nat} (hg : g ≤ 16) (hl : l ≤ 16) (hs : s ≤ 8) (hf : f ≤ 16) (hn : nodes ≤ 64) (h : Q.may g l s f x nodes = true) : NdOk x := by
  obtain ⟨k, a, n, t⟩ := x
  unfold Q.may at h
  rw [Bool.and_eq_true, decide_eq_true_iff] at h
  obtain ⟨h1, h2⟩ := h
  have hk : 0 ≤ k ∧ k ≤ 9 := by
    refine Classical.byContradiction fun hc => h1 ?_
    unfold Q.row
    exact if_pos (by simp only; omega)
  have h3 := List.all_eq_true.1 h2
  have f0 := of_decide_eq_true (h3 0 (by decide))
  have f1 := of_decide_eq_true (h3 1 (by decide))
  have f2 := of_decide_eq_true (h3 2 (by decide))
  clear h1 h2 h3
  have hcase : k = 0 ∨ k = 1 ∨ k = 2 ∨ k = 3 ∨ k = 4 ∨ k = 5 ∨ k = 6 ∨ k = 7 ∨ k = 8 ∨ k = 9 := by omega
  rcases hcase with rfl | rfl | rfl | rfl | rfl | rfl | rfl | rfl | rfl | rfl <;>
  · simp only [Q.row, Q.rows, Q.size, Q.fields] at f0 f1 f2
    simp at f0 f1 f2
    refine ⟨⟨by simp, by simp⟩, fun j hj => ?_, fun j hj hm => ?_⟩
    · have : j = 0 ∨ j = 1 ∨ j = 2 := by omega
      rcases this with rfl | rfl | rfl
      · show 0 ≤ a ∧ a ≤ 64; omega
      · show 0 ≤ n ∧ n ≤ 64; omega
      · show 0 ≤ t ∧ t ≤ 64; omega
    · have : j = 0 ∨ j = 1 ∨ j = 2 := by omega
      rcases this with rfl | rfl | rfl
      · first
          | (exfalso; simp [tl] at hm; done)
          | (show a = 0; omega)
      · first
          | (exfalso; simp [tl] at hm; done)
          | (show n = 0; omega)
      · first
          | (exfalso; simp [tl] at hm; done)
          | (show t = 0; omega)
theorem fine_ok {p : Pg} (hl : p.fns.length = p.len) (h : Fine p) : PDOk (dataOf p) := by
  obtain ⟨c1, c2, c3, c4⟩ := h.counts
  refine ⟨⟨by show 0 ≤ p.g; omega, by show p.g ≤ 16; omega⟩, ⟨by show 0 ≤ p.l; omega, by show p.l ≤ 16; omega⟩, ⟨by show 0 ≤ p.s; omega, by show p.s ≤ 8; omega⟩, by unfold dataOf; simp; omega, ?_⟩
  intro x hx
  obtain ⟨fn, hfn, rfl⟩ := List.mem_map.1 hx
  obtain ⟨i, hi, rfl⟩ := List.getElem_of_mem hfn
  obtain ⟨h1, h2, h3⟩ := Q.fine_fn (List.getElem?_eq_getElem hi) (h.nodes i hi)
  refine ⟨h2, fun y hy => ?_⟩
  obtain ⟨j, hj, rfl⟩ := List.getElem_of_mem hy
  exact may_ok (by omega) (by omega) (by omega) (by omega) h2 (h3 j _ (List.getElem?_eq_getElem hj))

/-- Sizes of bytes. -/
theorem put5 (n : Int) : (V.put (low32 n)).length ≤ 5 := by rw [V.len_put _ (low32_lt n)]; exact V.size_le _
theorem nums_le (l : List Int) : (nums l).length ≤ 5 * l.length := by
  induction l with
  | nil => simp [nums]
  | cons n l ih => rw [nums_cons, List.length_append, List.length_cons]; have := put5 n; omega
theorem ndB_le (x : Nd) : (ndB x).length ≤ 20 := by
  unfold ndB
  rw [List.length_append]
  have h1 := put5 x.kind
  have h2 := nums_le (told x)
  have h3 : (told x).length ≤ 3 := by unfold told; rw [List.length_map]; exact tl_len _
  omega
theorem ndsB_le (l : List Nd) : (ndsB l).length ≤ 20 * l.length := by
  induction l with
  | nil => simp [ndsB]
  | cons n l ih => rw [ndsB_cons, List.length_append, List.length_cons]; have := ndB_le n; omega
theorem fnB_le {l : List Nd} (h : l.length ≤ 64) : (fnB l).length ≤ 1285 := by
  unfold fnB
  rw [List.length_append]
  have h1 := put5 (l.length : Int)
  have h2 := ndsB_le l
  omega
theorem fnsB_le : ∀ (L : List (List Nd)), (∀ l ∈ L, l.length ≤ 64) → (fnsB L).length ≤ 1285 * L.length
  | [], _ => by simp [fnsB]
  | l :: L, h => by
    rw [fnsB_cons, List.length_append, List.length_cons]
    have h1 := fnB_le (h l List.mem_cons_self)
    have h2 := fnsB_le L fun x hx => h x (List.mem_cons_of_mem _ hx)
    omega
theorem pgB_le {d : PD} (h : PDOk d) : (pgB d).length ≤ 20584 := by
  unfold pgB tailB
  have h1 := nums_le (d.g :: d.l :: d.s :: [])
  have h2 := put5 (d.L.length : Int)
  have h3 := fnsB_le d.L fun l hl => (h.fns l hl).len
  have h4 := h.len
  have h5 : mark.length = 4 := rfl
  have h6 : (d.g :: d.l :: d.s :: []).length = 3 := rfl
  rw [List.length_append, List.length_append, List.length_append]
  omega
theorem put_small (n : Int) : ∀ x ∈ V.put (low32 n), x < 256 := V.put_byte _ (low32_lt n)
theorem nums_small (l : List Int) : ∀ x ∈ nums l, x < 256 := by
  intro x hx
  obtain ⟨n, _, h⟩ := List.mem_flatMap.1 hx
  exact put_small n x h
theorem ndB_small (y : Nd) : ∀ x ∈ ndB y, x < 256 := by
  intro x hx
  rcases List.mem_append.1 hx with h | h
  · exact put_small _ x h
  · exact nums_small _ x h
theorem fnB_small (l : List Nd) : ∀ x ∈ fnB l, x < 256 := by
  intro x hx
  rcases List.mem_append.1 hx with h | h
  · exact put_small _ x h
  · obtain ⟨n, _, h⟩ := List.mem_flatMap.1 h
    exact ndB_small n x h
theorem pgB_small (d : PD) : ∀ x ∈ pgB d, x < 256 := by
  intro x hx
  rcases List.mem_append.1 hx with h | h
  · have hall : ∀ x ∈ mark, x < 256 := by decide
    exact hall x h
  · rcases List.mem_append.1 h with h | h
    · exact nums_small _ x h
    · rcases List.mem_append.1 h with h | h
      · exact put_small _ x h
      · obtain ⟨n, _, h⟩ := List.mem_flatMap.1 h
        exact fnB_small n x h

/-- What bytes are read as. -/
def s0 : R.St := ⟨0, 0, 0⟩
def h0 (bs : List Nat) : List Nat × R.St := R.raw bs s0 4
def body (bs : List Nat) : PD × R.St := rdPg bs (h0 bs).2
def endOf (n : Nat) (s : R.St) : R.St := if s.why = 0 ∧ s.at_ < n then R.fail s 7 else s
def none_ : PD := ⟨0, 0, 0, []⟩
noncomputable def read (bs : List Nat) : PD × Nat × Nat :=
  if 65536 < bs.length then (none_, 0, 4)
  else if (h0 bs).2.why = 0 ∧ (h0 bs).1 ≠ mark then (none_, 0, 3)
  else if (endOf bs.length (body bs).2).why ≠ 0 then (none_, (endOf bs.length (body bs).2).wh, (endOf bs.length (body bs).2).why)
  else if (Q.check (pgOf (body bs).1)).2.2 ≠ 0 then (none_, bs.length, (Q.check (pgOf (body bs).1)).2.2)
  else ((body bs).1, 0, 0)
theorem h0_mark (t : List Nat) : h0 (mark ++ t) = (mark, ⟨4, 0, 0⟩) := R.raw_at (bs := mark ++ t) (q := mark) (post := t) (s := s0) (Nat.zero_le _) rfl rfl
theorem h0_once {bs : List Nat} (h : (h0 bs).2.why = 0) : (h0 bs).1 = bs.take 4 ∧ (h0 bs).2.at_ = 4 ∧ 4 ≤ bs.length := by
  unfold h0 R.raw at h ⊢
  rw [if_pos (show s0.why = 0 from rfl), if_neg (show ¬ ((4 : Int) < 0) by decide)] at h ⊢
  by_cases h6 : (bs.length : Int) - (s0.at_ : Int) < 4
  · rw [if_pos h6] at h
    exact absurd h (by decide)
  · rw [if_neg h6]
    have : (s0.at_ : Int) = 0 := rfl
    exact ⟨rfl, rfl, by omega⟩
theorem endOf_at {n : Nat} {s : R.St} (h : ¬ (s.why = 0 ∧ s.at_ < n)) : endOf n s = s := if_neg h
theorem endOf_left {n : Nat} {s : R.St} (h : s.why = 0 ∧ s.at_ < n) : endOf n s = ⟨s.at_, s.at_, 7⟩ := by
  unfold endOf R.fail
  rw [if_pos h, if_pos h.1]
theorem read_long {bs : List Nat} (h : 65536 < bs.length) : read bs = (none_, 0, 4) := by unfold read; rw [if_pos h]
theorem read_form {bs : List Nat} (h : ¬ 65536 < bs.length) (h2 : (h0 bs).2.why = 0 ∧ (h0 bs).1 ≠ mark) : read bs = (none_, 0, 3) := by unfold read; rw [if_neg h, if_pos h2]
theorem read_fault {bs : List Nat} (h : ¬ 65536 < bs.length) (h2 : ¬ ((h0 bs).2.why = 0 ∧ (h0 bs).1 ≠ mark)) (h3 : (endOf bs.length (body bs).2).why ≠ 0) :
    read bs = (none_, (endOf bs.length (body bs).2).wh, (endOf bs.length (body bs).2).why) := by unfold read; rw [if_neg h, if_neg h2, if_pos h3]
theorem read_wrong {bs : List Nat} (h : ¬ 65536 < bs.length) (h2 : ¬ ((h0 bs).2.why = 0 ∧ (h0 bs).1 ≠ mark)) (h3 : (endOf bs.length (body bs).2).why = 0) (h4 : (Q.check (pgOf (body bs).1)).2.2 ≠ 0) :
    read bs = (none_, bs.length, (Q.check (pgOf (body bs).1)).2.2) := by unfold read; rw [if_neg h, if_neg h2, if_neg (by omega), if_pos h4]
theorem read_fine {bs : List Nat} (h : ¬ 65536 < bs.length) (h2 : ¬ ((h0 bs).2.why = 0 ∧ (h0 bs).1 ≠ mark)) (h3 : (endOf bs.length (body bs).2).why = 0) (h4 : (Q.check (pgOf (body bs).1)).2.2 = 0) :
    read bs = ((body bs).1, 0, 0) := by unfold read; rw [if_neg h, if_neg h2, if_neg (by omega), if_neg (by omega)]
theorem body_back {d : PD} (h : PDOk d) (post : List Nat) : body (pgB d ++ post) = (d, ⟨(pgB d).length, 0, 0⟩) := by
  unfold body
  have h1 : h0 (pgB d ++ post) = (mark, ⟨4, 0, 0⟩) := by unfold pgB; rw [List.append_assoc]; exact h0_mark _
  rw [h1]
  have h2 := rdPg_back (bs := pgB d ++ post) (post := post) h (s := ⟨4, 0, 0⟩) rfl (by unfold pgB; rw [List.append_assoc]; rfl)
  rw [h2]
  unfold pgB
  rw [List.length_append]
  rfl
theorem not_form (t : List Nat) : ¬ ((h0 (mark ++ t)).2.why = 0 ∧ (h0 (mark ++ t)).1 ≠ mark) := fun h => h.2 (by rw [h0_mark])
theorem read_back {d : PD} (h : PDOk d) (hc : (Q.check (pgOf d)).2.2 = 0) : read (pgB d) = (d, 0, 0) := by
  have h1 := body_back h []
  rw [List.append_nil] at h1
  have hle := pgB_le h
  have he : endOf (pgB d).length (body (pgB d)).2 = (body (pgB d)).2 := endOf_at (by rw [h1]; simp)
  rw [read_fine (by omega) (by unfold pgB; exact not_form _) (by rw [he, h1]) (by rw [h1]; exact hc), h1]
theorem read_more {d : PD} (h : PDOk d) (m : Nat) : read (pgB d ++ [m]) = (none_, (pgB d).length, 7) := by
  have h1 := body_back h [m]
  have hle := pgB_le h
  have he : endOf (pgB d ++ [m]).length (body (pgB d ++ [m])).2 = ⟨(pgB d).length, (pgB d).length, 7⟩ := by rw [endOf_left (by rw [h1]; simp), h1]
  have hf : ¬ ((h0 (pgB d ++ [m])).2.why = 0 ∧ (h0 (pgB d ++ [m])).1 ≠ mark) := by unfold pgB; rw [List.append_assoc]; exact not_form _
  rw [read_fault (by simp; omega) hf (by rw [he]; exact (show (7 : Nat) ≠ 0 by decide)), he]
theorem read_cut {d : PD} (h : PDOk d) {n : Nat} (hn : n < (pgB d).length) : ∃ at_, at_ ≤ n ∧ read ((pgB d).take n) = (none_, at_, 2) := by
  have h1 := body_back h []
  rw [List.append_nil] at h1
  have hle := pgB_le h
  have hlen : ((pgB d).take n).length = n := by rw [List.length_take]; omega
  have hfin : ∀ (x : List Nat × R.St), h0 ((pgB d).take n) = x → (x.2.why ≠ 0 ∨ x.1 = mark) → (body ((pgB d).take n)).2.why = 2 → (body ((pgB d).take n)).2.wh ≤ n → ∃ at_, at_ ≤ n ∧ read ((pgB d).take n) = (none_, at_, 2) := by
    intro x hx hor hw hwh
    have he : endOf ((pgB d).take n).length (body ((pgB d).take n)).2 = (body ((pgB d).take n)).2 := endOf_at (by rw [hw]; simp)
    refine ⟨(body ((pgB d).take n)).2.wh, hwh, ?_⟩
    rw [read_fault (by omega) (by rw [hx]; rintro ⟨a, b⟩; rcases hor with hor | hor; exact hor a; exact b hor) (by rw [he, hw]; decide), he, hw]
  by_cases h4 : n < 4
  · have hr : h0 ((pgB d).take n) = ([], ⟨0, 0, 2⟩) := by
      unfold h0 R.raw
      rw [if_pos (by rfl), if_neg (by decide), if_pos (by rw [hlen]; show (n : Int) - 0 < 4; omega)]
      rfl
    have hb : (body ((pgB d).take n)).2 = ⟨0, 0, 2⟩ := by
      unfold body
      rw [hr]
      exact rdPg_keeps (stays_num _ ⟨0, 0, 2⟩ (by decide)) _ rfl
    exact hfin _ hr (.inl (by decide)) (by rw [hb]) (by rw [hb]; exact Nat.zero_le _)
  · have ht : (pgB d).take n = mark ++ (tailB d).take (n - 4) := by
      unfold pgB
      rw [List.take_append, List.take_of_length_le (show mark.length ≤ n by show 4 ≤ n; omega)]
      rfl
    have hr : h0 ((pgB d).take n) = (mark, ⟨4, 0, 0⟩) := by rw [ht]; exact h0_mark _
    have hr0 : h0 (pgB d) = (mark, ⟨4, 0, 0⟩) := h0_mark _
    have hc := rdPg_cut (bs := pgB d) (pgB_small d) (n := n) ⟨4, 0, 0⟩ ⟨4, 0, 0⟩ (.inl ⟨rfl, by show 4 ≤ n; omega, rfl⟩) (by have := congrArg (·.2.why) h1; unfold body at this; rw [hr0] at this; exact this)
    have hb1 : (rdPg (pgB d) ⟨4, 0, 0⟩).2 = ⟨(pgB d).length, 0, 0⟩ := by have := congrArg (·.2) h1; unfold body at this; rw [hr0] at this; exact this
    have hb2 : body ((pgB d).take n) = rdPg ((pgB d).take n) ⟨4, 0, 0⟩ := by unfold body; rw [hr]
    rw [hb1] at hc
    rcases hc with ⟨_, e, _⟩ | ⟨e1, e2, _⟩
    · exact absurd e (by show ¬ (pgB d).length ≤ n; omega)
    · exact hfin _ hr (.inr rfl) (by rw [hb2]; exact e1) (by rw [hb2]; exact e2)
theorem read_once {bs : List Nat} (hb : ∀ x ∈ bs, x < 256) {d : PD} {a : Nat} (h : read bs = (d, a, 0)) : pgB d = bs ∧ (Q.check (pgOf d)).2.2 = 0 ∧ a = 0 ∧ bs.length ≤ 65536 := by
  by_cases h1 : 65536 < bs.length
  · rw [read_long h1] at h; cases h
  · by_cases h2 : (h0 bs).2.why = 0 ∧ (h0 bs).1 ≠ mark
    · rw [read_form h1 h2] at h; cases h
    · by_cases h3 : (endOf bs.length (body bs).2).why = 0
      · by_cases h4 : (Q.check (pgOf (body bs).1)).2.2 = 0
        · rw [read_fine h1 h2 h3 h4] at h
          have hd := (Prod.mk.inj h).1
          have ha := (Prod.mk.inj (Prod.mk.inj h).2).1
          rw [← hd]
          refine ⟨?_, h4, ha.symm, by omega⟩
          have hw : (body bs).2.why = 0 ∧ bs.length ≤ (body bs).2.at_ := by
            by_cases h5 : (body bs).2.why = 0 ∧ (body bs).2.at_ < bs.length
            · rw [endOf_left h5] at h3
              exact absurd h3 (show (7 : Nat) ≠ 0 by decide)
            · rw [endOf_at h5] at h3
              exact ⟨h3, by omega⟩
          obtain ⟨e1, e2⟩ := rdPg_eats hb (h0 bs).2 hw.1
          have hm : (h0 bs).1 = mark := Classical.byContradiction fun hne => h2 ⟨e1, hne⟩
          obtain ⟨k1, k2, _⟩ := h0_once e1
          rw [k2] at e2
          have e3 : bs.drop (body bs).2.at_ = [] := List.drop_eq_nil_of_le hw.2
          have e4 : bs.drop 4 = tailB (body bs).1 := by
            rw [e2, show (rdPg bs (h0 bs).2) = body bs from rfl, e3, List.append_nil]
          unfold pgB
          rw [← e4, ← hm, k1, List.take_append_drop]
        · rw [read_wrong h1 h2 h3 h4] at h
          exact absurd (Prod.mk.inj (Prod.mk.inj h).2).2 h4
      · rw [read_fault h1 h2 h3] at h
        exact absurd (Prod.mk.inj (Prod.mk.inj h).2).2 h3
/-- Programs that may be have the same bytes just if they are the same. -/
theorem bytes_same {d e : PD} (hd : PDOk d) (he : PDOk e) : pgB d = pgB e ↔ d = e := by
  refine ⟨fun h => ?_, fun h => by rw [h]⟩
  have h1 := body_back hd []
  have h2 := body_back he []
  rw [h, h2] at h1
  exact (congrArg (·.1) h1).symm
end Go.Proofs.YtdnhfpphjpnklaaDoor.C
