/- WireMath, WireMath2, Arr, Arr2, in one text. -/
import Derived.Test.YtiojobajcnifpaaDoorPk3
import Derived.Test.YtiojobajcnifpaaDoorPk2
import Derived.Test.YtiojobajcnifpaaDoorPk1
import Derived.Laws.CopyOwn
import Derived.Laws.MakeOwn
/- Reading and writing bytes, call by call, on plain numbers: nothing here speaks of the program. -/
namespace Go.Proofs.YtiojobajcnifpaaDoor.R

/-- Where a reader stands, and its fault. -/
structure St where
  at_ : Nat
  wh : Nat
  why : Nat

def fail (s : St) (e : Nat) : St := if s.why = 0 then ⟨s.at_, s.at_, e⟩ else s
/-- A number up to most. -/
def num (bs : List Nat) (s : St) (most : Int) : Nat × St :=
  if s.why = 0 then
    if (V.get (bs.drop s.at_)).2.2 = 0 then
      if most < ((V.get (bs.drop s.at_)).1 : Int) then (0, fail s 4)
      else ((V.get (bs.drop s.at_)).1, ⟨s.at_ + (V.get (bs.drop s.at_)).2.1, s.wh, 0⟩)
    else (0, fail s (V.get (bs.drop s.at_)).2.2)
  else (0, s)
/-- So many bytes. -/
def raw (bs : List Nat) (s : St) (n : Int) : List Nat × St :=
  if s.why = 0 then
    if n < 0 then ([], fail s 1)
    else if (bs.length : Int) - (s.at_ : Int) < n then ([], fail s 2)
    else ((bs.drop s.at_).take n.toNat, ⟨s.at_ + n.toNat, s.wh, 0⟩)
  else ([], s)
/-- Ids, one by one. -/
def ids (bs : List Nat) (most : Int) : Nat → List Nat → St → Nat × St
  | 0, l, s => (if s.why = 0 then S.mask l % 4294967296 else 0, s)
  | k + 1, l, s =>
    if (num bs s most).2.why = 0 then
      if l ≠ [] ∧ (num bs s most).1 ≤ l.getLastD 0 then (0, fail ⟨s.at_, (num bs s most).2.wh, (num bs s most).2.why⟩ 5)
      else ids bs most k (l ++ [(num bs s most).1]) (num bs s most).2
    else (0, (num bs s most).2)
def clip (size : Int) : Int := if size < 0 then 0 else if 32 < size then 32 else size
/-- A set of ids below a size. -/
def set (bs : List Nat) (s : St) (size : Int) : Nat × St :=
  ids bs (clip size - 1) (num bs s (clip size)).1 [] (num bs s (clip size)).2

/-- It stands within the bytes. -/
def Ok (bs : List Nat) (s : St) : Prop := s.at_ ≤ bs.length ∧ s.wh ≤ bs.length ∧ s.why ≤ 7
theorem fail_ok {bs : List Nat} {s : St} (h : Ok bs s) (e : Nat) (he : e ≤ 7) : Ok bs (fail s e) := by
  unfold fail; split
  · exact ⟨h.1, h.1, he⟩
  · exact h
theorem num_ok {bs : List Nat} (hb : ∀ x ∈ bs, x < 256) {s : St} (h : Ok bs s) (most : Int) : Ok bs (num bs s most).2 ∧ (num bs s most).1 < 4294967296 := by
  have hbd : ∀ x ∈ bs.drop s.at_, x < 256 := fun x hx => hb x (List.mem_of_mem_drop hx)
  obtain ⟨h1, h2, h3⟩ := V.get_small (bs.drop s.at_) hbd
  unfold num
  split
  · split
    · rename_i h0
      have ho := (V.get_once (bs.drop s.at_) hbd h0).2.2
      rw [List.length_drop] at ho
      split
      · exact ⟨fail_ok h 4 (by omega), by show 0 < 4294967296; decide⟩
      · exact ⟨⟨by show s.at_ + _ ≤ _; have := h.1; omega, h.2.1, by show 0 ≤ 7; decide⟩, h1⟩
    · exact ⟨fail_ok h _ (by omega), by show 0 < 4294967296; decide⟩
  · exact ⟨h, by show 0 < 4294967296; decide⟩
theorem num_why {bs : List Nat} {s : St} {most : Int} (h : s.why ≠ 0) : num bs s most = (0, s) := by unfold num; rw [if_neg h]
theorem raw_ok {bs : List Nat} {s : St} (h : Ok bs s) (n : Int) : Ok bs (raw bs s n).2 := by
  unfold raw
  split
  · split
    · exact fail_ok h 1 (by omega)
    · split
      · exact fail_ok h 2 (by omega)
      · exact ⟨by show s.at_ + _ ≤ _; have := h.1; omega, h.2.1, by show 0 ≤ 7; decide⟩
  · exact h
theorem ids_ok {bs : List Nat} (hb : ∀ x ∈ bs, x < 256) (most : Int) : ∀ (k : Nat) (l : List Nat) (s : St), Ok bs s → Ok bs (ids bs most k l s).2 ∧ (ids bs most k l s).1 < 4294967296
  | 0, l, s, h => ⟨h, by unfold ids; split <;> (try exact Nat.mod_lt _ (by decide)) <;> (show 0 < 4294967296; decide)⟩
  | k + 1, l, s, h => by
    have h1 := num_ok hb h most
    unfold ids
    split
    · split
      · have h2 : Ok bs ⟨s.at_, (num bs s most).2.wh, (num bs s most).2.why⟩ := ⟨h.1, h1.1.2.1, h1.1.2.2⟩
        exact ⟨fail_ok h2 5 (by omega), by show 0 < 4294967296; decide⟩
      · exact ids_ok hb most k _ _ h1.1
    · exact ⟨h1.1, by show 0 < 4294967296; decide⟩
theorem set_ok {bs : List Nat} (hb : ∀ x ∈ bs, x < 256) {s : St} (h : Ok bs s) (size : Int) : Ok bs (set bs s size).2 ∧ (set bs s size).1 < 4294967296 :=
  ids_ok hb _ _ _ _ (num_ok hb h _).1

theorem num_le {bs : List Nat} {s : St} {most : Int} (h0 : 0 ≤ most) : ((num bs s most).1 : Int) ≤ most := by
  unfold num
  split
  · split
    · split
      · exact h0
      · show ((V.get (bs.drop s.at_)).1 : Int) ≤ most
        omega
    · exact h0
  · exact h0
theorem ids_zero (bs : List Nat) (most : Int) (l : List Nat) (s : St) : ids bs most 0 l s = (if s.why = 0 then S.mask l % 4294967296 else 0, s) := rfl
theorem ids_bad {bs : List Nat} {most : Int} {k x : Nat} {l : List Nat} {s s1 : St} (h : num bs s most = (x, s1)) (hw : s1.why ≠ 0) : ids bs most (k + 1) l s = (0, s1) := by
  unfold ids; rw [h]; exact if_neg hw
theorem ids_order {bs : List Nat} {most : Int} {k x : Nat} {l : List Nat} {s s1 : St} (h : num bs s most = (x, s1)) (hw : s1.why = 0) (hl : l ≠ [] ∧ x ≤ l.getLastD 0) : ids bs most (k + 1) l s = (0, fail ⟨s.at_, s1.wh, s1.why⟩ 5) := by
  unfold ids; rw [h]; simp only; rw [if_pos hw, if_pos hl]
theorem ids_on {bs : List Nat} {most : Int} {k x : Nat} {l : List Nat} {s s1 : St} (h : num bs s most = (x, s1)) (hw : s1.why = 0) (hl : ¬ (l ≠ [] ∧ x ≤ l.getLastD 0)) : ids bs most (k + 1) l s = ids bs most k (l ++ [x]) s1 := by
  conv => lhs; unfold ids
  rw [h]; simp only; rw [if_pos hw, if_neg hl]
theorem last_at (l : List Nat) (i : Nat) (hl : l.length = i + 1) : l[i]? = some (l.getLastD 0) := by
  have hi : i < l.length := by omega
  rw [List.getLastD_eq_getLast?, List.getLast?_eq_getElem?, hl, Nat.add_sub_cancel, List.getElem?_eq_getElem hi]
  rfl

/-- A set's bytes. -/
def setB (m : Nat) : List Nat := V.put (S.count m) ++ V.row (S.ids m 32)
end Go.Proofs.YtiojobajcnifpaaDoor.R

/- What is written is read as it was, on plain numbers. -/
namespace Go.Proofs.YtiojobajcnifpaaDoor

theorem R.num_at {bs post : List Nat} {s : R.St} {x : Nat} {most : Int} (hd : bs.drop s.at_ = V.put x ++ post) (hx : x < 4294967296) (hm : (x : Int) ≤ most) (hw : s.why = 0) : R.num bs s most = (x, ⟨s.at_ + (V.put x).length, s.wh, 0⟩) := by
  unfold R.num
  rw [hd, V.get_put x hx post, if_pos hw, if_pos rfl, if_neg (by show ¬ most < (x : Int); omega), V.len_put x hx]
theorem R.raw_at {bs q post : List Nat} {s : R.St} (hat : s.at_ ≤ bs.length) (hd : bs.drop s.at_ = q ++ post) (hw : s.why = 0) : R.raw bs s (q.length : Int) = (q, ⟨s.at_ + q.length, s.wh, 0⟩) := by
  have hl : bs.length - s.at_ = q.length + post.length := by rw [← List.length_drop, hd, List.length_append]
  unfold R.raw
  rw [if_pos hw, if_neg (by omega), if_neg (by omega), Int.toNat_natCast, hd, List.take_left']
  rfl

theorem ids_pairwise (m n : Nat) : (S.ids m n).Pairwise (· < ·) := List.Pairwise.filter _ List.pairwise_lt_range
theorem last_lt {l r : List Nat} {x : Nat} (h : (l ++ x :: r).Pairwise (· < ·)) : ¬ (l ≠ [] ∧ x ≤ l.getLastD 0) := by
  rintro ⟨h1, h2⟩
  rw [List.pairwise_append] at h
  have := h.2.2 (l.getLast h1) (List.getLast_mem h1) x List.mem_cons_self
  rw [List.getLastD_eq_getLast?, List.getLast?_eq_some_getLast h1] at h2
  simp at h2
  omega
theorem R.ids_at {bs post : List Nat} {most : Int} : ∀ (rest l : List Nat) (s : R.St), (l ++ rest).Pairwise (· < ·) → (∀ x ∈ rest, x < 4294967296 ∧ (x : Int) ≤ most) → bs.drop s.at_ = V.row rest ++ post → s.why = 0 →
    R.ids bs most rest.length l s = (S.mask (l ++ rest) % 4294967296, ⟨s.at_ + (V.row rest).length, s.wh, 0⟩)
  | [], l, s, _, _, _, hw => by
    obtain ⟨a, b, c⟩ := s
    simp only at hw
    subst hw
    rw [List.length_nil, R.ids_zero, if_pos rfl, List.append_nil]; rfl
  | x :: r, l, s, hp, hx, hd, hw => by
    have hrow : V.row (x :: r) = V.put x ++ V.row r := by simp [V.row]
    obtain ⟨h1, h2⟩ := hx x List.mem_cons_self
    rw [hrow, List.append_assoc] at hd
    have hn := R.num_at hd h1 h2 hw
    rw [List.length_cons, R.ids_on hn rfl (last_lt hp)]
    have hd2 : bs.drop (s.at_ + (V.put x).length) = V.row r ++ post := by
      rw [← List.drop_drop, hd, List.drop_left']
      rfl
    rw [R.ids_at r (l ++ [x]) ⟨s.at_ + (V.put x).length, s.wh, 0⟩ (by rw [List.append_assoc]; exact hp) (fun y hy => hx y (List.mem_cons_of_mem _ hy)) hd2 rfl, List.append_assoc, hrow, List.length_append, Nat.add_assoc]
    rfl
theorem R.set_at {bs post : List Nat} {s : R.St} {m : Nat} (hm : m < 4294967296) (hd : bs.drop s.at_ = R.setB m ++ post) (hw : s.why = 0) : R.set bs s 32 = (m, ⟨s.at_ + (R.setB m).length, s.wh, 0⟩) := by
  have hle : S.count m ≤ 32 := S.ids_len m 32
  have hcl : R.clip 32 = 32 := by unfold R.clip; rw [if_neg (by omega), if_neg (by omega)]
  have hd1 : bs.drop s.at_ = V.put (S.count m) ++ (V.row (S.ids m 32) ++ post) := by rw [hd]; unfold R.setB; rw [List.append_assoc]
  have hn := R.num_at (most := 32) hd1 (by omega) (by omega) hw
  have hd2 : bs.drop (s.at_ + (V.put (S.count m)).length) = V.row (S.ids m 32) ++ post := by
    rw [← List.drop_drop, hd1, List.drop_left']
    rfl
  unfold R.set
  rw [hcl, hn]
  have h3 := R.ids_at (bs := bs) (post := post) (most := 32 - 1) (S.ids m 32) [] ⟨s.at_ + (V.put (S.count m)).length, s.wh, 0⟩ (by rw [List.nil_append]; exact ids_pairwise m 32)
    (fun x hx => by have := ((S.ids_mem m 32 x).1 hx).1; omega) hd2 rfl
  have hc : S.count m = (S.ids m 32).length := rfl
  show R.ids bs (32 - 1) (S.count m) [] ⟨s.at_ + (V.put (S.count m)).length, s.wh, 0⟩ = _
  rw [← hc] at h3
  rw [h3, List.nil_append, S.mask_ids]
  have h4 : m % 2 ^ 32 % 4294967296 = m := by omega
  rw [h4]
  unfold R.setB
  rw [List.length_append, Nat.add_assoc]

/-- What is left of a number by 2^16. -/
def low16 (n : Int) : Nat := (n % 65536).toNat
theorem low16_lt (n : Int) : low16 n < 65536 := by unfold low16; omega
/-- The bytes of a call. -/
def itemB (x : Item) : List Nat :=
  if x.do_ % 4 = 0 then V.put (low16 x.n) else if x.do_ % 4 = 1 then x.bs else if x.do_ % 4 = 2 then V.put x.len ++ x.bs else R.setB x.m
def allB (l : List Item) : List Nat := l.flatMap itemB
theorem allB_snoc (l : List Item) (i : Nat) (x : Item) (h : l[i]? = some x) : allB (l.take (i + 1)) = allB (l.take i) ++ itemB x := by
  unfold allB
  rw [List.take_add_one, h, List.flatMap_append]
  simp
theorem allB_part (l : List Item) (i : Nat) (x : Item) (h : l[i]? = some x) (more : List Nat) : ∃ post, (allB l ++ more).drop (allB (l.take i)).length = itemB x ++ post := by
  have hi := (List.getElem?_eq_some_iff.1 h).1
  have e : l = l.take (i + 1) ++ l.drop (i + 1) := (List.take_append_drop _ _).symm
  have e2 : allB l = allB (l.take i) ++ (itemB x ++ allB (l.drop (i + 1))) := by
    conv => lhs; rw [e]
    unfold allB
    rw [List.flatMap_append]
    have := allB_snoc l i x h
    unfold allB at this
    rw [this, List.append_assoc]
  refine ⟨allB (l.drop (i + 1)) ++ more, ?_⟩
  rw [e2, List.append_assoc, List.drop_left', List.append_assoc]
  rfl
end Go.Proofs.YtiojobajcnifpaaDoor

/- Arrays and structs of many cells, made whole: no cell of them is looked at. -/
namespace Go.Proofs.YtiojobajcnifpaaDoor
open Go.RowKit

/-- A new variable of many cells, all zero. -/
theorem wpList_alloc_zero {P : Program} {ops : Array Oper} {rest : List Oper} {o : Oper} {a : Act} {w : World} {Q : Exit → Act → World → Prop} (hgd : o.guard = none) (ty : TypeId) (ho : o.op = .alloc ty)
    (cs : List Value) (hz : (P.info? ty).map (·.zero) = some (some (.agg cs.toArray)))
    (h : ∀ g w', w.heap.size ≤ g → Blk w' g ty cs → Below w.heap.size w w' → wpList P ops Q rest (a.put o.dst (.pointer (some ⟨g, 0, none⟩))) w') : wpList P ops Q (o :: rest) a w := by
  refine wpList_plain hgd fun K hK => ?_
  cases hq : P.info? ty with
  | none => simp [hq] at hz
  | some i =>
    have hz' : i.zero = some (.agg cs.toArray) := by simpa [hq] using hz
    unfold Oper.wp
    simp [execOp, ho, Instr.alloc, zeroValue, typeInfo, hq, hz', newVar, newRow, Value.cells, Result.andThen]
    exact hK _ _ (h _ _ (Nat.le_refl _) (Blk.newAt rfl rfl) ((Below.refl _ _).alloc (Nat.le_refl _) _))
/-- A zero array as a value. -/
theorem wpList_build_zero {P : Program} {ops : Array Oper} {rest : List Oper} {o : Oper} {a : Act} {w : World} {Q : Exit → Act → World → Prop} (hgd : o.guard = none) (ty : TypeId) (ho : o.op = .build ty #[])
    (cs : List Value) (n : Nat) (e : TypeId) (hu : P.underlying ty = some (.array n e)) (he : ((P.info? e).map (·.size)).isSome = true) (hz : (P.info? ty).map (·.zero) = some (some (.agg cs.toArray)))
    (h : wpList P ops Q rest (a.put o.dst (.agg cs.toArray)) w) : wpList P ops Q (o :: rest) a w := by
  refine wpList_plain hgd fun K hK => ?_
  cases hq : P.info? ty with
  | none => simp [hq] at hz
  | some i =>
    have hz' : i.zero = some (.agg cs.toArray) := by simpa [hq] using hz
    cases hqe : P.info? e with
    | none => simp [hqe] at he
    | some ie =>
      unfold Oper.wp
      simp [execOp, ho, Instr.build, zeroValue, typeInfo, sizeOf, hq, hqe, hz', run_underlying hu, Instr.fill, Value.cells, Result.andThen]
      exact hK _ _ h
/-- A value of many cells in a variable of its own. -/
theorem wpList_box_agg {P : Program} {ops : Array Oper} {rest : List Oper} {o : Oper} {a : Act} {w : World} {Q : Exit → Act → World → Prop} (hgd : o.guard = none) (ty : TypeId) (x : Operand) (ho : o.op = .box ty x)
    (cs : List Value) (hx : a.eval x = .agg cs.toArray)
    (h : ∀ g w', w.heap.size ≤ g → Blk w' g ty cs → Below w.heap.size w w' → wpList P ops Q rest (a.put o.dst (.pointer (some ⟨g, 0, none⟩))) w') : wpList P ops Q (o :: rest) a w := by
  refine wpList_plain hgd fun K hK => ?_
  unfold Oper.wp
  simp [execOp, ho, hx, Instr.box, newVar, newRow, Value.cells, Result.andThen]
  exact hK _ _ (h _ _ (Nat.le_refl _) (Blk.newAt rfl rfl) ((Below.refl _ _).alloc (Nat.le_refl _) _))
/-- An element of an array that is a value. -/
theorem wpList_index_agg {P : Program} {ops : Array Oper} {rest : List Oper} {o : Oper} {a : Act} {w : World} {Q : Exit → Act → World → Prop} (hgd : o.guard = none) (ty : TypeId) (x ix : Operand) (ho : o.op = .index ty x ix)
    (n : Nat) (e : TypeId) (hu : P.underlying ty = some (.array n e)) (d : TypeDesc) (hd : P.underlying e = some d) (hna : (match d with | .struct _ | .array _ _ => false | _ => true) = true) (hsz : (P.info? e).map (·.size) = some 1)
    (cs : List Value) (hx : a.eval x = .agg cs.toArray) (i : Nat) (hi : a.eval ix = .int .i64 (i : Int)) (hin : i < n) (v : Value) (hv : cs[i]? = some v)
    (h : wpList P ops Q rest (a.put o.dst v) w) : wpList P ops Q (o :: rest) a w := by
  refine wpList_plain hgd fun K hK => ?_
  have hagg : (isAgg e).run P w = .ok false w := by
    unfold isAgg
    rw [Sem.run_bind, run_underlying hd w]
    cases d <;> simp_all
  cases hq : P.info? e with
  | none => simp [hq] at hsz
  | some ie =>
    have hs : ie.size = 1 := by simpa [hq] using hsz
    unfold Oper.wp
    simp [execOp, ho, Instr.index, hx, hi, asIntOf, run_underlying hu, hin, sizeOf, typeInfo, hq, hs, part, hagg, hv, Result.andThen]
    exact hK _ _ h
end Go.Proofs.YtiojobajcnifpaaDoor

/- More of rows: copy into a block, make with room behind, a value built by its own run. -/
namespace Go.Proofs.YtiojobajcnifpaaDoor
open Go.RowKit

/-- copy into the middle of a block; something is copied. -/
theorem wpList_copy_blk {P : Program} {w : World} {ops : Array Oper} {rest : List Oper} {o : Oper} {a : Act} {Q : Exit → Act → World → Prop} (hgd : o.guard = none) (d s : Operand) (dT sT : TypeId)
    (ho : o.op = .call { callee := .builtin .copy, args := #[d, s], argTypes := #[dT, sT] }) (elem : TypeId) (hu : P.underlying dT = some (.slice elem)) (hsz : (P.info? elem).map (·.size) = some 1)
    (g off dLen dCap : Nat) (ad : Addr) (sLen sCap : Nat) (hd : a.eval d = .slice (some ⟨g, off, none⟩) dLen dCap) (hs : a.eval s = .slice (some ad) sLen sCap)
    (t : TypeId) (cur : List Value) (hg : Blk w g t cur) (cs : List Value) (m : Nat) (hm : cs.length = m) (hn : m = Nat.min sLen dLen)
    (hsrc : ∀ j v, cs[j]? = some v → w.cell? (ad.add j) = some v) (hfit : off + m ≤ cur.length) (h1 : ∀ v ∈ cs, v.oneCell' = true)
    (h : ∀ w', Blk w' g t (splice cur off cs) → w.grownBy w' (some g) → wpList P ops Q rest (a.put o.dst (goInt m)) w') : wpList P ops Q (o :: rest) a w := by
  subst hm
  exact wpList_copy_own hgd d s dT sT ho elem hu hsz g off dLen dCap ad sLen sCap hd hs cur.toArray t hg cs hn hsrc (by simpa using hfit) h1
    (h _ (by have := setRow_heap w g _ (splice cur off cs).toArray t _ hg; simpa [Blk, splice] using this) ⟨rfl, rfl, rfl, by simp, fun i _ hne => setRow_other w g i _ (by intro e; exact hne (by rw [e]))⟩)
/-- A new slice of one-cell elements, all zero, with room behind. -/
theorem wpList_make_blk {P : Program} {ops : Array Oper} {rest : List Oper} {o : Oper} {a : Act} {w : World} {Q : Exit → Act → World → Prop} (hgd : o.guard = none) (t : TypeId) (l c : Operand) (ho : o.op = .makeSlice t l c)
    (e : TypeId) (z : Value) (bytes : Nat) (ht : P.underlying t = some (.slice e)) (hi : (P.info? e).map (fun i => (i.zero, i.size, i.bytes)) = some (some z, 1, bytes)) (hz1 : z.cells = #[z])
    (kl kc : IntKind) (n m : Nat) (hl : a.eval l = .int kl (n : Int)) (hc : a.eval c = .int kc (m : Int)) (hnm : n ≤ m) (hb : bytes * m ≤ 281474976710656) (h63 : m ≤ 9223372036854775807)
    (h : ∀ g w', w.heap.size ≤ g → Blk w' g e (List.replicate m z) → Below w.heap.size w w' → wpList P ops Q rest (a.put o.dst (.slice (some ⟨g, 0, none⟩) n m)) w') : wpList P ops Q (o :: rest) a w := by
  refine wpList_plain hgd fun K hK => ?_
  obtain ⟨i, hi0, hzz⟩ := Option.map_eq_some_iff.1 hi
  simp only [Prod.mk.injEq] at hzz
  obtain ⟨hz, hs, hbb⟩ := hzz
  have hb' : (i.bytes : Int) * (m : Int) ≤ 281474976710656 := by
    have h : ((i.bytes * m : Nat) : Int) ≤ 281474976710656 := by rw [hbb]; omega
    rwa [Int.natCast_mul] at h
  have hr := run_make (P := P) w t e i z ht hi0 hz kl kc n m (by omega) (by omega) hb' (by omega)
  simp only [Int.toNat_natCast, hs, Nat.mul_one, hz1] at hr
  have hmc : madeCells #[z] m = (List.replicate m z).toArray := by
    apply Array.ext
    · simp [madeCells]
    · intro k h1 h2
      simp [madeCells, Nat.mod_one]
  unfold Oper.wp
  simp [execOp, ho, hl, hc, hr, Result.andThen]
  exact hK _ _ (h _ _ (Nat.le_refl _) (Blk.newAt hmc rfl) ((Below.refl _ _).alloc (Nat.le_refl _) _))
/-- A value that is built, by its own run. -/
theorem wpList_build_run {P : Program} {ops : Array Oper} {rest : List Oper} {o : Oper} {a : Act} {w : World} {Q : Exit → Act → World → Prop} (hgd : o.guard = none) (t : TypeId) (ps : Array (Nat × Operand)) (ho : o.op = .build t ps)
    (qs : Array (Nat × Value)) (hq : ps.map (fun (i, x) => (i, a.eval x)) = qs) (v : Value) (hrun : ∀ w, (Instr.build t qs).run P w = .ok v w)
    (h : wpList P ops Q rest (a.put o.dst v) w) : wpList P ops Q (o :: rest) a w := by
  refine wpList_plain hgd fun K hK => ?_
  subst hq
  unfold Oper.wp execOp
  simp only [ho, hrun, Sem.run_bind, Sem.run_pure, Result.andThen_ok]
  exact hK _ _ h
/-- A block that the call made, as a slice of its own. -/
theorem Blk.own {w : World} {g B : Nat} {e : TypeId} {cs xs : List Value} {cap : Nat} (h : Blk w g e cs) (hB : B ≤ g) (hc : cs.length = cap) (hn : xs.length ≤ cap) (hm : cap ≤ maxLen) (hx : cs.take xs.length = xs) :
    Own w B e (.slice (some ⟨g, 0, none⟩) xs.length cap) xs :=
  ⟨by simp, .inr ⟨g, cap, cs.toArray, rfl, hB, h, hn, hm, by simpa using hc, by simpa using hx⟩⟩
end Go.Proofs.YtiojobajcnifpaaDoor
