/- Slice, Own, in one text. -/
import Derived.Test.YtfifnahcobjjdaaArr2
import Derived.Laws.Slices
/- Slice expressions, whatever the bounds: what the part reads as. -/
namespace Go.Proofs.Ytfifnahcobjjdaa
open Go.RowKit

/-- The address A2 stands in A's block, if anywhere. -/
def InBlock (A A2 : Option Addr) : Prop := ∀ ad, A2 = some ad → ∃ a0, A = some a0 ∧ ad.block = a0.block

/-- x[l:] of a slice of one-cell elements. -/
theorem wpList_slice_from {P : Program} {ops : Array Oper} {rest : List Oper} {o : Oper} {a : Act} {w : World} {Q : Exit → Act → World → Prop} (hgd : o.guard = none) (ty : TypeId) (x lo : Operand) (ho : o.op = .slice ty x (some lo) none none)
    (e : TypeId) (hu : P.underlying ty = some (.slice e)) (hsz : (P.info? e).map (·.size) = some 1) (A : Option Addr) (n c : Nat) (hx : a.eval x = .slice A n c) (k : IntKind) (l : Nat) (hl : a.eval lo = .int k (l : Int)) (hln : l ≤ n) (hnc : n ≤ c)
    (h : ∀ A2, InBlock A A2 → (∀ {α : Type} (f : α → Value) (w2 : World) (B : Nat) (xs : List α), Row f w2 B A n xs → Row f w2 B A2 (n - l) (xs.drop l)) → wpList P ops Q rest (a.put o.dst (.slice A2 (n - l) (c - l))) w) : wpList P ops Q (o :: rest) a w := by
  refine wpList_plain hgd fun K hK => ?_
  have hel : P.elem ty = e := by simp [Program.elem, hu]
  have h1 := run_slice_l (P := P) w ty A n c (by rw [hel]; exact hu) k (l : Int) (by omega) (by omega)
  have h2 := run_sliceAt_slice (P := P) w ty (.slice A n c) (some (.int k (l : Int))) none none (by rw [hel]; exact hu)
  rw [h1] at h2
  cases hq : P.info? e with
  | none => simp [hq] at hsz
  | some ie =>
    have hs : ie.size = 1 := by simpa [hq] using hsz
    have hso : (sizeOf e).run P w = .ok 1 w := by simp [sizeOf, typeInfo, hq, hs]
    have hk := hK _ _ (h (if c = l then A else A.map (·.add l)) (by
      intro ad had
      split at had
      · exact ⟨ad, had, rfl⟩
      · cases A with
        | none => cases had
        | some a0 => cases had; exact ⟨a0, rfl, add_block a0 l⟩) (by
      intro α f w2 B xs hr
      split
      · rename_i hcl
        exact Row.none_ (List.drop_of_length_le (by rw [hr.len]; omega)) (by omega)
      · cases A with
        | none =>
          have hn0 : n = 0 := by
            rcases Nat.eq_zero_or_pos n with h0 | h0
            · exact h0
            · obtain ⟨_, h, _⟩ := hr.cells h0; cases h
          exact Row.none_ (List.drop_of_length_le (by rw [hr.len]; omega)) (by omega)
        | some a0 => exact hr.cutAt hln))
    unfold Oper.wp execOp
    simp only [ho, hx, hl, Option.map_some, Option.map_none, h2, Sem.run_bind, Sem.run_pure, hel, hso, sliced, Result.andThen_ok, Int.toNat_natCast, Nat.mul_one]
    exact hk

/-- x[:h] of a slice of one-cell elements. -/
theorem wpList_slice_to {P : Program} {ops : Array Oper} {rest : List Oper} {o : Oper} {a : Act} {w : World} {Q : Exit → Act → World → Prop} (hgd : o.guard = none) (ty : TypeId) (x hi : Operand) (ho : o.op = .slice ty x none (some hi) none)
    (e : TypeId) (hu : P.underlying ty = some (.slice e)) (hsz : (P.info? e).map (·.size) = some 1) (A : Option Addr) (n c : Nat) (hx : a.eval x = .slice A n c) (k : IntKind) (m : Nat) (hl : a.eval hi = .int k (m : Int)) (hmc : m ≤ c)
    (h : ∀ A2, InBlock A A2 → (∀ {α : Type} (f : α → Value) (w2 : World) (B : Nat) (xs : List α), m ≤ n → Row f w2 B A n xs → Row f w2 B A2 m (xs.take m)) → wpList P ops Q rest (a.put o.dst (.slice A2 m c)) w) : wpList P ops Q (o :: rest) a w := by
  refine wpList_plain hgd fun K hK => ?_
  have hel : P.elem ty = e := by simp [Program.elem, hu]
  have h1 := run_slice_h (P := P) w ty A n c (by rw [hel]; exact hu) k (m : Int) (by omega) (by omega)
  have h2 := run_sliceAt_slice (P := P) w ty (.slice A n c) none (some (.int k (m : Int))) none (by rw [hel]; exact hu)
  rw [h1] at h2
  cases hq : P.info? e with
  | none => simp [hq] at hsz
  | some ie =>
    have hs : ie.size = 1 := by simpa [hq] using hsz
    have hso : (sizeOf e).run P w = .ok 1 w := by simp [sizeOf, typeInfo, hq, hs]
    have hk := hK _ _ (h (if c = 0 then A else A.map (·.add 0)) (by
      intro ad had
      split at had
      · exact ⟨ad, had, rfl⟩
      · cases A with
        | none => cases had
        | some a0 => cases had; exact ⟨a0, rfl, add_block a0 0⟩) (by
      intro α f w2 B xs hmn hr
      have e0 : (if c = 0 then A else A.map (·.add 0)) = A := by
        split
        · rfl
        · cases A <;> simp [Addr.add]
      rw [e0]
      exact hr.take hmn))
    unfold Oper.wp execOp
    simp only [ho, hx, hl, Option.map_some, Option.map_none, h2, Sem.run_bind, Sem.run_pure, hel, hso, sliced, Result.andThen_ok, Int.toNat_natCast, Nat.zero_mul, Nat.sub_zero]
    exact hk

/-- x[l:h] of a slice of one-cell elements. -/
theorem wpList_slice_both {P : Program} {ops : Array Oper} {rest : List Oper} {o : Oper} {a : Act} {w : World} {Q : Exit → Act → World → Prop} (hgd : o.guard = none) (ty : TypeId) (x lo hi : Operand) (ho : o.op = .slice ty x (some lo) (some hi) none)
    (e : TypeId) (hu : P.underlying ty = some (.slice e)) (hsz : (P.info? e).map (·.size) = some 1) (A : Option Addr) (n c : Nat) (hx : a.eval x = .slice A n c) (k k2 : IntKind) (l m : Nat) (hl : a.eval lo = .int k (l : Int)) (hh : a.eval hi = .int k2 (m : Int)) (hlm : l ≤ m) (hmn : m ≤ n) (hnc : n ≤ c)
    (h : ∀ A2, InBlock A A2 → (∀ {α : Type} (f : α → Value) (w2 : World) (B : Nat) (xs : List α), Row f w2 B A n xs → Row f w2 B A2 (m - l) ((xs.take m).drop l)) → wpList P ops Q rest (a.put o.dst (.slice A2 (m - l) (c - l))) w) : wpList P ops Q (o :: rest) a w := by
  refine wpList_plain hgd fun K hK => ?_
  have hel : P.elem ty = e := by simp [Program.elem, hu]
  have h1 := run_slice_lh (P := P) w ty A n c (by rw [hel]; exact hu) k k2 (l : Int) (m : Int) (by omega) (by omega) (by omega)
  have h2 := run_sliceAt_slice (P := P) w ty (.slice A n c) (some (.int k (l : Int))) (some (.int k2 (m : Int))) none (by rw [hel]; exact hu)
  rw [h1] at h2
  cases hq : P.info? e with
  | none => simp [hq] at hsz
  | some ie =>
    have hs : ie.size = 1 := by simpa [hq] using hsz
    have hso : (sizeOf e).run P w = .ok 1 w := by simp [sizeOf, typeInfo, hq, hs]
    have hk := hK _ _ (h (if c = l then A else A.map (·.add l)) (by
      intro ad had
      split at had
      · exact ⟨ad, had, rfl⟩
      · cases A with
        | none => cases had
        | some a0 => cases had; exact ⟨a0, rfl, add_block a0 l⟩) (by
      intro α f w2 B xs hr
      have hr2 := hr.take hmn
      split
      · rename_i hcl
        exact Row.none_ (List.drop_of_length_le (by rw [hr2.len]; omega)) (by omega)
      · cases A with
        | none =>
          have hn0 : n = 0 := by
            rcases Nat.eq_zero_or_pos n with h0 | h0
            · exact h0
            · obtain ⟨_, h, _⟩ := hr.cells h0; cases h
          exact Row.none_ (List.drop_of_length_le (by rw [hr2.len]; omega)) (by omega)
        | some a0 => exact hr2.cutAt hlm))
    unfold Oper.wp execOp
    simp only [ho, hx, hl, hh, Option.map_some, Option.map_none, h2, Sem.run_bind, Sem.run_pure, hel, hso, sliced, Result.andThen_ok, Int.toNat_natCast, Nat.mul_one]
    exact hk

/-- x[l:] of an array of one-cell elements in the midst of a block. -/
theorem wpList_slice_arr {P : Program} {ops : Array Oper} {rest : List Oper} {o : Oper} {a : Act} {w : World} {Q : Exit → Act → World → Prop} (hgd : o.guard = none) (ty : TypeId) (x lo : Operand) (ho : o.op = .slice ty x (some lo) none none)
    (n : Nat) (e : TypeId) (hu : P.underlying ty = some (.array n e)) (hsz : (P.info? e).map (·.size) = some 1) (g off : Nat) (hx : a.eval x = .pointer (some ⟨g, off, none⟩)) (k : IntKind) (l : Nat) (hl : a.eval lo = .int k (l : Int)) (hln : l < n)
    (h : wpList P ops Q rest (a.put o.dst (.slice (some ⟨g, off + l, none⟩) (n - l) (n - l))) w) : wpList P ops Q (o :: rest) a w := by
  refine wpList_plain hgd fun K hK => ?_
  have hel : P.elem ty = e := by simp [Program.elem, hu]
  have hal : P.arrayLen ty = n := by simp [Program.arrayLen, hu]
  have h2 := run_sliceAt_array_l (P := P) w ty ⟨g, off, none⟩ (by rw [hel, hal]; exact hu) k (l : Int) (by omega) (by rw [hal]; omega)
  cases hq : P.info? e with
  | none => simp [hq] at hsz
  | some ie =>
    have hs : ie.size = 1 := by simpa [hq] using hsz
    have hso : (sizeOf e).run P w = .ok 1 w := by simp [sizeOf, typeInfo, hq, hs]
    have hk := hK _ _ h
    unfold Oper.wp execOp
    simp only [ho, hx, hl, Option.map_some, Option.map_none, h2, Sem.run_bind, Sem.run_pure, hel, hal, hso, slicedAt, Result.andThen_ok, Int.toNat_natCast, Nat.mul_one]
    rw [if_neg (by omega), Addr.add_mid]
    exact hk
end Go.Proofs.Ytfifnahcobjjdaa

/- A slice of bytes that the call made: its block. -/
namespace Go.Proofs.Ytfifnahcobjjdaa
open Go.RowKit

theorem Own.split {w : World} {B n : Nat} {e : TypeId} {v : Value} {bs : List Nat} (h : Own w B e v (bs.map byteV)) (hn : bs.length = n) :
    ∃ (A : Option Addr) (c : Nat), v = .slice A n c ∧ n ≤ c ∧ c ≤ maxLen ∧ Row byteV w w.heap.size A n bs ∧ (∀ ad : Addr, A = some ad → B ≤ ad.block ∧ ad.block < w.heap.size) ∧
      (0 < n → ∃ (g : Nat) (cur : List Value), A = some ⟨g, 0, none⟩ ∧ Blk w g e cur ∧ n ≤ cur.length ∧ ∀ (k x : Nat), bs[k]? = some x → cur[k]? = some (byteV x)) := by
  obtain ⟨A, c, rfl, hc, hm, hr⟩ := h.bytesN hn
  refine ⟨A, c, rfl, hc, hm, hr, fun ad e1 => ?_, fun h0 => ?_⟩
  · subst e1
    exact h.block ad.block rfl
  · rcases h.2 with ⟨hv, hz⟩ | ⟨g, cap, cur, hv, _, hg, _, _, _, ht⟩
    · rw [List.length_map] at hz; omega
    · injection hv with e1 e2 e3
      subst e1
      refine ⟨g, cur.toList, rfl, by unfold Blk; simpa using hg, ?_, fun k x hx => ?_⟩
      · have := congrArg List.length ht
        rw [List.length_take, List.length_map] at this
        omega
      · have hk : k < n := by rw [← hn]; exact (List.getElem?_eq_some_iff.1 hx).1
        have h2 : (List.map byteV bs)[k]? = some (byteV x) := by rw [List.getElem?_map, hx]; rfl
        rw [← ht, List.getElem?_take, List.length_map, hn, Nat.mul_one, if_pos hk] at h2
        exact h2
/-- x[:h] of a slice of one-cell elements: the address stands. -/
theorem wpList_slice_front {P : Program} {ops : Array Oper} {rest : List Oper} {o : Oper} {a : Act} {w : World} {Q : Exit → Act → World → Prop} (hgd : Region.wanted o (yielded ops a.tmps) = true) (ty : TypeId) (x hi : Operand) (ho : o.op = .slice ty x none (some hi) none)
    (e : TypeId) (hu : P.underlying ty = some (.slice e)) (hsz : (P.info? e).map (·.size) = some 1) (A : Option Addr) (n c : Nat) (hx : a.eval x = .slice A n c) (k : IntKind) (m : Nat) (hl : a.eval hi = .int k (m : Int)) (hmc : m ≤ c)
    (h : wpList P ops Q rest (a.put o.dst (.slice A m c)) w) : wpList P ops Q (o :: rest) a w := by
  refine BigFrame.wpList_want hgd fun K hK => ?_
  have hel : P.elem ty = e := by simp [Program.elem, hu]
  have h1 := run_slice_h (P := P) w ty A n c (by rw [hel]; exact hu) k (m : Int) (by omega) (by omega)
  have h2 := run_sliceAt_slice (P := P) w ty (.slice A n c) none (some (.int k (m : Int))) none (by rw [hel]; exact hu)
  rw [h1] at h2
  cases hq : P.info? e with
  | none => simp [hq] at hsz
  | some ie =>
    have hs : ie.size = 1 := by simpa [hq] using hsz
    have hso : (sizeOf e).run P w = .ok 1 w := by simp [sizeOf, typeInfo, hq, hs]
    have hk := hK _ _ h
    have e0 : (if c = 0 then A else Option.map (fun x => x.add 0) A) = A := by
      split
      · rfl
      · cases A <;> simp [Addr.add]
    unfold Oper.wp execOp
    simp only [ho, hx, hl, Option.map_some, Option.map_none, h2, Sem.run_bind, Sem.run_pure, hel, hso, sliced, Result.andThen_ok, Int.toNat_natCast, Nat.zero_mul, Nat.sub_zero, e0]
    exact hk
/-- x[i:i+1] of a slice of one-cell elements. -/
theorem wpList_slice_one {P : Program} {ops : Array Oper} {rest : List Oper} {o : Oper} {a : Act} {w : World} {Q : Exit → Act → World → Prop} (hgd : o.guard = none) (ty : TypeId) (x lo hi : Operand) (ho : o.op = .slice ty x (some lo) (some hi) none)
    (e : TypeId) (hu : P.underlying ty = some (.slice e)) (hsz : (P.info? e).map (·.size) = some 1) (A : Option Addr) (n c : Nat) (hx : a.eval x = .slice A n c) (k k2 : IntKind) (l : Nat) (hl : a.eval lo = .int k (l : Int)) (hh : a.eval hi = .int k2 ((l + 1 : Nat) : Int)) (hln : l < n) (hnc : n ≤ c)
    (h : ∀ A2, InBlock A A2 → (∀ {α : Type} (f : α → Value) (w2 : World) (B : Nat) (xs : List α), Row f w2 B A n xs → Row f w2 B A2 1 ((xs.take (l + 1)).drop l)) → wpList P ops Q rest (a.put o.dst (.slice A2 1 (c - l))) w) : wpList P ops Q (o :: rest) a w := by
  have e1 : l + 1 - l = 1 := by omega
  refine wpList_slice_both hgd ty x lo hi ho e hu hsz A n c hx k k2 l (l + 1) hl hh (by omega) (by omega) hnc fun A2 hin hrow => ?_
  rw [e1]
  refine h A2 hin fun f w2 B xs hr => ?_
  have := hrow f w2 B xs hr
  rw [e1] at this
  exact this
end Go.Proofs.Ytfifnahcobjjdaa
