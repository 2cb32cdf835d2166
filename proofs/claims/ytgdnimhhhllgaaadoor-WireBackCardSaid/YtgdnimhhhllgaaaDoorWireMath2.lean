/- What is written is read as it was, on plain numbers. -/
import Derived.Test.YtgdnimhhhllgaaaDoorWireItem
import Derived.Test.YtgdnimhhhllgaaaDoorWireMath
namespace Go.Proofs.YtgdnimhhhllgaaaDoor

theorem R.num_at {bs post : List Nat} {s : R.St} {x : Nat} {most : Int} (hd : bs.drop s.at_ = V.put x ++ post) (hx : x < 4294967296) (hm : (x : Int) ≤ most) (hw : s.why = 0) : R.num bs s most = (x, ⟨s.at_ + (V.put x).length, s.wh, 0⟩) := by
  unfold R.num
  rw [hd, V.get_put x hx post, if_pos hw, if_pos rfl, if_neg (by show ¬ most < (x : Int); omega), V.len_put x hx]
theorem R.raw_at {bs q post : List Nat} {s : R.St} (hat : s.at_ ≤ bs.length) (hd : bs.drop s.at_ = q ++ post) (hw : s.why = 0) : R.raw bs s (q.length : Int) = (q, ⟨s.at_ + q.length, s.wh, 0⟩) := by
  have hl : bs.length - s.at_ = q.length + post.length := by rw [← List.length_drop, hd, List.length_append]
  unfold R.raw
  rw [if_pos hw, if_neg (by omega), if_neg (by omega), Int.toNat_natCast, hd, List.take_left']
  rfl

theorem ids_pairwise (m n : Nat) : (S.ids m n).Pairwise (· < ·) := List.Pairwise.filter _ List.pairwise_lt_range
theorem last_lt {l r : List Nat} {x : Nat} (h : (l ++ x :: r).Pairwise (· < ·)) : ¬ (l ≠ [] ∧ x ≤ l.getLastD 0) := by
  rintro ⟨h1, h2⟩
  rw [List.pairwise_append] at h
  have := h.2.2 (l.getLast h1) (List.getLast_mem h1) x List.mem_cons_self
  rw [List.getLastD_eq_getLast?, List.getLast?_eq_some_getLast h1] at h2
  simp at h2
  omega
theorem R.ids_at {bs post : List Nat} {most : Int} : ∀ (rest l : List Nat) (s : R.St), (l ++ rest).Pairwise (· < ·) → (∀ x ∈ rest, x < 4294967296 ∧ (x : Int) ≤ most) → bs.drop s.at_ = V.row rest ++ post → s.why = 0 →
    R.ids bs most rest.length l s = (S.mask (l ++ rest) % 4294967296, ⟨s.at_ + (V.row rest).length, s.wh, 0⟩)
  | [], l, s, _, _, _, hw => by
    obtain ⟨a, b, c⟩ := s
    simp only at hw
    subst hw
    rw [List.length_nil, R.ids_zero, if_pos rfl, List.append_nil]; rfl
  | x :: r, l, s, hp, hx, hd, hw => by
    have hrow : V.row (x :: r) = V.put x ++ V.row r := by simp [V.row]
    obtain ⟨h1, h2⟩ := hx x List.mem_cons_self
    rw [hrow, List.append_assoc] at hd
    have hn := R.num_at hd h1 h2 hw
    rw [List.length_cons, R.ids_on hn rfl (last_lt hp)]
    have hd2 : bs.drop (s.at_ + (V.put x).length) = V.row r ++ post := by
      rw [← List.drop_drop, hd, List.drop_left']
      rfl
    rw [R.ids_at r (l ++ [x]) ⟨s.at_ + (V.put x).length, s.wh, 0⟩ (by rw [List.append_assoc]; exact hp) (fun y hy => hx y (List.mem_cons_of_mem _ hy)) hd2 rfl, List.append_assoc, hrow, List.length_append, Nat.add_assoc]
    rfl
theorem R.set_at {bs post : List Nat} {s : R.St} {m : Nat} (hm : m < 4294967296) (hd : bs.drop s.at_ = R.setB m ++ post) (hw : s.why = 0) : R.set bs s 32 = (m, ⟨s.at_ + (R.setB m).length, s.wh, 0⟩) := by
  have hle : S.count m ≤ 32 := S.ids_len m 32
  have hcl : R.clip 32 = 32 := by unfold R.clip; rw [if_neg (by omega), if_neg (by omega)]
  have hd1 : bs.drop s.at_ = V.put (S.count m) ++ (V.row (S.ids m 32) ++ post) := by rw [hd]; unfold R.setB; rw [List.append_assoc]
  have hn := R.num_at (most := 32) hd1 (by omega) (by omega) hw
  have hd2 : bs.drop (s.at_ + (V.put (S.count m)).length) = V.row (S.ids m 32) ++ post := by
    rw [← List.drop_drop, hd1, List.drop_left']
    rfl
  unfold R.set
  rw [hcl, hn]
  have h3 := R.ids_at (bs := bs) (post := post) (most := 32 - 1) (S.ids m 32) [] ⟨s.at_ + (V.put (S.count m)).length, s.wh, 0⟩ (by rw [List.nil_append]; exact ids_pairwise m 32)
    (fun x hx => by have := ((S.ids_mem m 32 x).1 hx).1; omega) hd2 rfl
  have hc : S.count m = (S.ids m 32).length := rfl
  show R.ids bs (32 - 1) (S.count m) [] ⟨s.at_ + (V.put (S.count m)).length, s.wh, 0⟩ = _
  rw [← hc] at h3
  rw [h3, List.nil_append, S.mask_ids]
  have h4 : m % 2 ^ 32 % 4294967296 = m := by omega
  rw [h4]
  unfold R.setB
  rw [List.length_append, Nat.add_assoc]

/-- What is left of a number by 2^16. -/
def low16 (n : Int) : Nat := (n % 65536).toNat
theorem low16_lt (n : Int) : low16 n < 65536 := by unfold low16; omega
/-- The bytes of a call. -/
def itemB (x : Item) : List Nat :=
  if x.do_ % 4 = 0 then V.put (low16 x.n) else if x.do_ % 4 = 1 then x.bs else if x.do_ % 4 = 2 then V.put x.len ++ x.bs else R.setB x.m
def allB (l : List Item) : List Nat := l.flatMap itemB
theorem allB_snoc (l : List Item) (i : Nat) (x : Item) (h : l[i]? = some x) : allB (l.take (i + 1)) = allB (l.take i) ++ itemB x := by
  unfold allB
  rw [List.take_add_one, h, List.flatMap_append]
  simp
theorem allB_part (l : List Item) (i : Nat) (x : Item) (h : l[i]? = some x) (more : List Nat) : ∃ post, (allB l ++ more).drop (allB (l.take i)).length = itemB x ++ post := by
  have hi := (List.getElem?_eq_some_iff.1 h).1
  have e : l = l.take (i + 1) ++ l.drop (i + 1) := (List.take_append_drop _ _).symm
  have e2 : allB l = allB (l.take i) ++ (itemB x ++ allB (l.drop (i + 1))) := by
    conv => lhs; rw [e]
    unfold allB
    rw [List.flatMap_append]
    have := allB_snoc l i x h
    unfold allB at this
    rw [this, List.append_assoc]
  refine ⟨allB (l.drop (i + 1)) ++ more, ?_⟩
  rw [e2, List.append_assoc, List.drop_left', List.append_assoc]
  rfl
end Go.Proofs.YtgdnimhhhllgaaaDoor
