/- Reading and writing bytes, call by call, on plain numbers: nothing here speaks of the program. -/
import Derived.Test.YtgdnimhhhllgaaaDoorMath1
import Derived.Test.YtgdnimhhhllgaaaDoorSetMath2
namespace Go.Proofs.YtgdnimhhhllgaaaDoor.R

/-- Where a reader stands, and its fault. -/
structure St where
  at_ : Nat
  wh : Nat
  why : Nat

def fail (s : St) (e : Nat) : St := if s.why = 0 then ⟨s.at_, s.at_, e⟩ else s
/-- A number up to most. -/
def num (bs : List Nat) (s : St) (most : Int) : Nat × St :=
  if s.why = 0 then
    if (V.get (bs.drop s.at_)).2.2 = 0 then
      if most < ((V.get (bs.drop s.at_)).1 : Int) then (0, fail s 4)
      else ((V.get (bs.drop s.at_)).1, ⟨s.at_ + (V.get (bs.drop s.at_)).2.1, s.wh, 0⟩)
    else (0, fail s (V.get (bs.drop s.at_)).2.2)
  else (0, s)
/-- So many bytes. -/
def raw (bs : List Nat) (s : St) (n : Int) : List Nat × St :=
  if s.why = 0 then
    if n < 0 then ([], fail s 1)
    else if (bs.length : Int) - (s.at_ : Int) < n then ([], fail s 2)
    else ((bs.drop s.at_).take n.toNat, ⟨s.at_ + n.toNat, s.wh, 0⟩)
  else ([], s)
/-- Ids, one by one. -/
def ids (bs : List Nat) (most : Int) : Nat → List Nat → St → Nat × St
  | 0, l, s => (if s.why = 0 then S.mask l % 4294967296 else 0, s)
  | k + 1, l, s =>
    if (num bs s most).2.why = 0 then
      if l ≠ [] ∧ (num bs s most).1 ≤ l.getLastD 0 then (0, fail ⟨s.at_, (num bs s most).2.wh, (num bs s most).2.why⟩ 5)
      else ids bs most k (l ++ [(num bs s most).1]) (num bs s most).2
    else (0, (num bs s most).2)
def clip (size : Int) : Int := if size < 0 then 0 else if 32 < size then 32 else size
/-- A set of ids below a size. -/
def set (bs : List Nat) (s : St) (size : Int) : Nat × St :=
  ids bs (clip size - 1) (num bs s (clip size)).1 [] (num bs s (clip size)).2

/-- It stands within the bytes. -/
def Ok (bs : List Nat) (s : St) : Prop := s.at_ ≤ bs.length ∧ s.wh ≤ bs.length ∧ s.why ≤ 7
theorem fail_ok {bs : List Nat} {s : St} (h : Ok bs s) (e : Nat) (he : e ≤ 7) : Ok bs (fail s e) := by
  unfold fail; split
  · exact ⟨h.1, h.1, he⟩
  · exact h
theorem num_ok {bs : List Nat} (hb : ∀ x ∈ bs, x < 256) {s : St} (h : Ok bs s) (most : Int) : Ok bs (num bs s most).2 ∧ (num bs s most).1 < 4294967296 := by
  have hbd : ∀ x ∈ bs.drop s.at_, x < 256 := fun x hx => hb x (List.mem_of_mem_drop hx)
  obtain ⟨h1, h2, h3⟩ := V.get_small (bs.drop s.at_) hbd
  unfold num
  split
  · split
    · rename_i h0
      have ho := (V.get_once (bs.drop s.at_) hbd h0).2.2
      rw [List.length_drop] at ho
      split
      · exact ⟨fail_ok h 4 (by omega), by show 0 < 4294967296; decide⟩
      · exact ⟨⟨by show s.at_ + _ ≤ _; have := h.1; omega, h.2.1, by show 0 ≤ 7; decide⟩, h1⟩
    · exact ⟨fail_ok h _ (by omega), by show 0 < 4294967296; decide⟩
  · exact ⟨h, by show 0 < 4294967296; decide⟩
theorem num_why {bs : List Nat} {s : St} {most : Int} (h : s.why ≠ 0) : num bs s most = (0, s) := by unfold num; rw [if_neg h]
theorem raw_ok {bs : List Nat} {s : St} (h : Ok bs s) (n : Int) : Ok bs (raw bs s n).2 := by
  unfold raw
  split
  · split
    · exact fail_ok h 1 (by omega)
    · split
      · exact fail_ok h 2 (by omega)
      · exact ⟨by show s.at_ + _ ≤ _; have := h.1; omega, h.2.1, by show 0 ≤ 7; decide⟩
  · exact h
theorem ids_ok {bs : List Nat} (hb : ∀ x ∈ bs, x < 256) (most : Int) : ∀ (k : Nat) (l : List Nat) (s : St), Ok bs s → Ok bs (ids bs most k l s).2 ∧ (ids bs most k l s).1 < 4294967296
  | 0, l, s, h => ⟨h, by unfold ids; split <;> (try exact Nat.mod_lt _ (by decide)) <;> (show 0 < 4294967296; decide)⟩
  | k + 1, l, s, h => by
    have h1 := num_ok hb h most
    unfold ids
    split
    · split
      · have h2 : Ok bs ⟨s.at_, (num bs s most).2.wh, (num bs s most).2.why⟩ := ⟨h.1, h1.1.2.1, h1.1.2.2⟩
        exact ⟨fail_ok h2 5 (by omega), by show 0 < 4294967296; decide⟩
      · exact ids_ok hb most k _ _ h1.1
    · exact ⟨h1.1, by show 0 < 4294967296; decide⟩
theorem set_ok {bs : List Nat} (hb : ∀ x ∈ bs, x < 256) {s : St} (h : Ok bs s) (size : Int) : Ok bs (set bs s size).2 ∧ (set bs s size).1 < 4294967296 :=
  ids_ok hb _ _ _ _ (num_ok hb h _).1

theorem num_le {bs : List Nat} {s : St} {most : Int} (h0 : 0 ≤ most) : ((num bs s most).1 : Int) ≤ most := by
  unfold num
  split
  · split
    · split
      · exact h0
      · show ((V.get (bs.drop s.at_)).1 : Int) ≤ most
        omega
    · exact h0
  · exact h0
theorem ids_zero (bs : List Nat) (most : Int) (l : List Nat) (s : St) : ids bs most 0 l s = (if s.why = 0 then S.mask l % 4294967296 else 0, s) := rfl
theorem ids_bad {bs : List Nat} {most : Int} {k x : Nat} {l : List Nat} {s s1 : St} (h : num bs s most = (x, s1)) (hw : s1.why ≠ 0) : ids bs most (k + 1) l s = (0, s1) := by
  unfold ids; rw [h]; exact if_neg hw
theorem ids_order {bs : List Nat} {most : Int} {k x : Nat} {l : List Nat} {s s1 : St} (h : num bs s most = (x, s1)) (hw : s1.why = 0) (hl : l ≠ [] ∧ x ≤ l.getLastD 0) : ids bs most (k + 1) l s = (0, fail ⟨s.at_, s1.wh, s1.why⟩ 5) := by
  unfold ids; rw [h]; simp only; rw [if_pos hw, if_pos hl]
theorem ids_on {bs : List Nat} {most : Int} {k x : Nat} {l : List Nat} {s s1 : St} (h : num bs s most = (x, s1)) (hw : s1.why = 0) (hl : ¬ (l ≠ [] ∧ x ≤ l.getLastD 0)) : ids bs most (k + 1) l s = ids bs most k (l ++ [x]) s1 := by
  conv => lhs; unfold ids
  rw [h]; simp only; rw [if_pos hw, if_neg hl]
theorem last_at (l : List Nat) (i : Nat) (hl : l.length = i + 1) : l[i]? = some (l.getLastD 0) := by
  have hi : i < l.length := by omega
  rw [List.getLastD_eq_getLast?, List.getLast?_eq_getElem?, hl, Nat.add_sub_cancel, List.getElem?_eq_getElem hi]
  rfl

/-- A set's bytes. -/
def setB (m : Nat) : List Nat := V.put (S.count m) ++ V.row (S.ids m 32)
end Go.Proofs.YtgdnimhhhllgaaaDoor.R
