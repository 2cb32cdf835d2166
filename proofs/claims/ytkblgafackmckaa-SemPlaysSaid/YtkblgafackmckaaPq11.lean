/- Slice, Own, Held, in one text. -/
import Derived.Test.YtkblgafackmckaaPq5
import Derived.Laws.Slices
import Derived.Test.YtkblgafackmckaaPq2
/- Slice expressions, whatever the bounds: what the part reads as. -/
namespace Go.Proofs.Ytkblgafackmckaa
open Go.RowKit

/-- The address A2 stands in A's block, if anywhere. -/
def InBlock (A A2 : Option Addr) : Prop := ∀ ad, A2 = some ad → ∃ a0, A = some a0 ∧ ad.block = a0.block

/-- x[l:] of a slice of one-cell elements. -/
theorem wpList_slice_from {P : Program} {ops : Array Oper} {rest : List Oper} {o : Oper} {a : Act} {w : World} {Q : Exit → Act → World → Prop} (hgd : o.guard = none) (ty : TypeId) (x lo : Operand) (ho : o.op = .slice ty x (some lo) none none)
    (e : TypeId) (hu : P.underlying ty = some (.slice e)) (hsz : (P.info? e).map (·.size) = some 1) (A : Option Addr) (n c : Nat) (hx : a.eval x = .slice A n c) (k : IntKind) (l : Nat) (hl : a.eval lo = .int k (l : Int)) (hln : l ≤ n) (hnc : n ≤ c)
    (h : ∀ A2, InBlock A A2 → (∀ {α : Type} (f : α → Value) (w2 : World) (B : Nat) (xs : List α), Row f w2 B A n xs → Row f w2 B A2 (n - l) (xs.drop l)) → wpList P ops Q rest (a.put o.dst (.slice A2 (n - l) (c - l))) w) : wpList P ops Q (o :: rest) a w := by
  refine wpList_plain hgd fun K hK => ?_
  have hel : P.elem ty = e := by simp [Program.elem, hu]
  have h1 := run_slice_l (P := P) w ty A n c (by rw [hel]; exact hu) k (l : Int) (by omega) (by omega)
  have h2 := run_sliceAt_slice (P := P) w ty (.slice A n c) (some (.int k (l : Int))) none none (by rw [hel]; exact hu)
  rw [h1] at h2
  cases hq : P.info? e with
  | none => simp [hq] at hsz
  | some ie =>
    have hs : ie.size = 1 := by simpa [hq] using hsz
    have hso : (sizeOf e).run P w = .ok 1 w := by simp [sizeOf, typeInfo, hq, hs]
    have hk := hK _ _ (h (if c = l then A else A.map (·.add l)) (by
      intro ad had
      split at had
      · exact ⟨ad, had, rfl⟩
      · cases A with
        | none => cases had
        | some a0 => cases had; exact ⟨a0, rfl, add_block a0 l⟩) (by
      intro α f w2 B xs hr
      split
      · rename_i hcl
        exact Row.none_ (List.drop_of_length_le (by rw [hr.len]; omega)) (by omega)
      · cases A with
        | none =>
          have hn0 : n = 0 := by
            rcases Nat.eq_zero_or_pos n with h0 | h0
            · exact h0
            · obtain ⟨_, h, _⟩ := hr.cells h0; cases h
          exact Row.none_ (List.drop_of_length_le (by rw [hr.len]; omega)) (by omega)
        | some a0 => exact hr.cutAt hln))
    unfold Oper.wp execOp
    simp only [ho, hx, hl, Option.map_some, Option.map_none, h2, Sem.run_bind, Sem.run_pure, hel, hso, sliced, Result.andThen_ok, Int.toNat_natCast, Nat.mul_one]
    exact hk

/-- x[:h] of a slice of one-cell elements. -/
theorem wpList_slice_to {P : Program} {ops : Array Oper} {rest : List Oper} {o : Oper} {a : Act} {w : World} {Q : Exit → Act → World → Prop} (hgd : o.guard = none) (ty : TypeId) (x hi : Operand) (ho : o.op = .slice ty x none (some hi) none)
    (e : TypeId) (hu : P.underlying ty = some (.slice e)) (hsz : (P.info? e).map (·.size) = some 1) (A : Option Addr) (n c : Nat) (hx : a.eval x = .slice A n c) (k : IntKind) (m : Nat) (hl : a.eval hi = .int k (m : Int)) (hmc : m ≤ c)
    (h : ∀ A2, InBlock A A2 → (∀ {α : Type} (f : α → Value) (w2 : World) (B : Nat) (xs : List α), m ≤ n → Row f w2 B A n xs → Row f w2 B A2 m (xs.take m)) → wpList P ops Q rest (a.put o.dst (.slice A2 m c)) w) : wpList P ops Q (o :: rest) a w := by
  refine wpList_plain hgd fun K hK => ?_
  have hel : P.elem ty = e := by simp [Program.elem, hu]
  have h1 := run_slice_h (P := P) w ty A n c (by rw [hel]; exact hu) k (m : Int) (by omega) (by omega)
  have h2 := run_sliceAt_slice (P := P) w ty (.slice A n c) none (some (.int k (m : Int))) none (by rw [hel]; exact hu)
  rw [h1] at h2
  cases hq : P.info? e with
  | none => simp [hq] at hsz
  | some ie =>
    have hs : ie.size = 1 := by simpa [hq] using hsz
    have hso : (sizeOf e).run P w = .ok 1 w := by simp [sizeOf, typeInfo, hq, hs]
    have hk := hK _ _ (h (if c = 0 then A else A.map (·.add 0)) (by
      intro ad had
      split at had
      · exact ⟨ad, had, rfl⟩
      · cases A with
        | none => cases had
        | some a0 => cases had; exact ⟨a0, rfl, add_block a0 0⟩) (by
      intro α f w2 B xs hmn hr
      have e0 : (if c = 0 then A else A.map (·.add 0)) = A := by
        split
        · rfl
        · cases A <;> simp [Addr.add]
      rw [e0]
      exact hr.take hmn))
    unfold Oper.wp execOp
    simp only [ho, hx, hl, Option.map_some, Option.map_none, h2, Sem.run_bind, Sem.run_pure, hel, hso, sliced, Result.andThen_ok, Int.toNat_natCast, Nat.zero_mul, Nat.sub_zero]
    exact hk

/-- x[l:h] of a slice of one-cell elements. -/
theorem wpList_slice_both {P : Program} {ops : Array Oper} {rest : List Oper} {o : Oper} {a : Act} {w : World} {Q : Exit → Act → World → Prop} (hgd : o.guard = none) (ty : TypeId) (x lo hi : Operand) (ho : o.op = .slice ty x (some lo) (some hi) none)
    (e : TypeId) (hu : P.underlying ty = some (.slice e)) (hsz : (P.info? e).map (·.size) = some 1) (A : Option Addr) (n c : Nat) (hx : a.eval x = .slice A n c) (k k2 : IntKind) (l m : Nat) (hl : a.eval lo = .int k (l : Int)) (hh : a.eval hi = .int k2 (m : Int)) (hlm : l ≤ m) (hmn : m ≤ n) (hnc : n ≤ c)
    (h : ∀ A2, InBlock A A2 → (∀ {α : Type} (f : α → Value) (w2 : World) (B : Nat) (xs : List α), Row f w2 B A n xs → Row f w2 B A2 (m - l) ((xs.take m).drop l)) → wpList P ops Q rest (a.put o.dst (.slice A2 (m - l) (c - l))) w) : wpList P ops Q (o :: rest) a w := by
  refine wpList_plain hgd fun K hK => ?_
  have hel : P.elem ty = e := by simp [Program.elem, hu]
  have h1 := run_slice_lh (P := P) w ty A n c (by rw [hel]; exact hu) k k2 (l : Int) (m : Int) (by omega) (by omega) (by omega)
  have h2 := run_sliceAt_slice (P := P) w ty (.slice A n c) (some (.int k (l : Int))) (some (.int k2 (m : Int))) none (by rw [hel]; exact hu)
  rw [h1] at h2
  cases hq : P.info? e with
  | none => simp [hq] at hsz
  | some ie =>
    have hs : ie.size = 1 := by simpa [hq] using hsz
    have hso : (sizeOf e).run P w = .ok 1 w := by simp [sizeOf, typeInfo, hq, hs]
    have hk := hK _ _ (h (if c = l then A else A.map (·.add l)) (by
      intro ad had
      split at had
      · exact ⟨ad, had, rfl⟩
      · cases A with
        | none => cases had
        | some a0 => cases had; exact ⟨a0, rfl, add_block a0 l⟩) (by
      intro α f w2 B xs hr
      have hr2 := hr.take hmn
      split
      · rename_i hcl
        exact Row.none_ (List.drop_of_length_le (by rw [hr2.len]; omega)) (by omega)
      · cases A with
        | none =>
          have hn0 : n = 0 := by
            rcases Nat.eq_zero_or_pos n with h0 | h0
            · exact h0
            · obtain ⟨_, h, _⟩ := hr.cells h0; cases h
          exact Row.none_ (List.drop_of_length_le (by rw [hr2.len]; omega)) (by omega)
        | some a0 => exact hr2.cutAt hlm))
    unfold Oper.wp execOp
    simp only [ho, hx, hl, hh, Option.map_some, Option.map_none, h2, Sem.run_bind, Sem.run_pure, hel, hso, sliced, Result.andThen_ok, Int.toNat_natCast, Nat.mul_one]
    exact hk

/-- x[l:] of an array of one-cell elements in the midst of a block. -/
theorem wpList_slice_arr {P : Program} {ops : Array Oper} {rest : List Oper} {o : Oper} {a : Act} {w : World} {Q : Exit → Act → World → Prop} (hgd : o.guard = none) (ty : TypeId) (x lo : Operand) (ho : o.op = .slice ty x (some lo) none none)
    (n : Nat) (e : TypeId) (hu : P.underlying ty = some (.array n e)) (hsz : (P.info? e).map (·.size) = some 1) (g off : Nat) (hx : a.eval x = .pointer (some ⟨g, off, none⟩)) (k : IntKind) (l : Nat) (hl : a.eval lo = .int k (l : Int)) (hln : l < n)
    (h : wpList P ops Q rest (a.put o.dst (.slice (some ⟨g, off + l, none⟩) (n - l) (n - l))) w) : wpList P ops Q (o :: rest) a w := by
  refine wpList_plain hgd fun K hK => ?_
  have hel : P.elem ty = e := by simp [Program.elem, hu]
  have hal : P.arrayLen ty = n := by simp [Program.arrayLen, hu]
  have h2 := run_sliceAt_array_l (P := P) w ty ⟨g, off, none⟩ (by rw [hel, hal]; exact hu) k (l : Int) (by omega) (by rw [hal]; omega)
  cases hq : P.info? e with
  | none => simp [hq] at hsz
  | some ie =>
    have hs : ie.size = 1 := by simpa [hq] using hsz
    have hso : (sizeOf e).run P w = .ok 1 w := by simp [sizeOf, typeInfo, hq, hs]
    have hk := hK _ _ h
    unfold Oper.wp execOp
    simp only [ho, hx, hl, Option.map_some, Option.map_none, h2, Sem.run_bind, Sem.run_pure, hel, hal, hso, slicedAt, Result.andThen_ok, Int.toNat_natCast, Nat.mul_one]
    rw [if_neg (by omega), Addr.add_mid]
    exact hk
end Go.Proofs.Ytkblgafackmckaa

/- A slice of bytes that the call made: its block. -/
namespace Go.Proofs.Ytkblgafackmckaa
open Go.RowKit

theorem Own.split {w : World} {B n : Nat} {e : TypeId} {v : Value} {bs : List Nat} (h : Own w B e v (bs.map byteV)) (hn : bs.length = n) :
    ∃ (A : Option Addr) (c : Nat), v = .slice A n c ∧ n ≤ c ∧ c ≤ maxLen ∧ Row byteV w w.heap.size A n bs ∧ (∀ ad : Addr, A = some ad → B ≤ ad.block ∧ ad.block < w.heap.size) ∧
      (0 < n → ∃ (g : Nat) (cur : List Value), A = some ⟨g, 0, none⟩ ∧ Blk w g e cur ∧ n ≤ cur.length ∧ ∀ (k x : Nat), bs[k]? = some x → cur[k]? = some (byteV x)) := by
  obtain ⟨A, c, rfl, hc, hm, hr⟩ := h.bytesN hn
  refine ⟨A, c, rfl, hc, hm, hr, fun ad e1 => ?_, fun h0 => ?_⟩
  · subst e1
    exact h.block ad.block rfl
  · rcases h.2 with ⟨hv, hz⟩ | ⟨g, cap, cur, hv, _, hg, _, _, _, ht⟩
    · rw [List.length_map] at hz; omega
    · injection hv with e1 e2 e3
      subst e1
      refine ⟨g, cur.toList, rfl, by unfold Blk; simpa using hg, ?_, fun k x hx => ?_⟩
      · have := congrArg List.length ht
        rw [List.length_take, List.length_map] at this
        omega
      · have hk : k < n := by rw [← hn]; exact (List.getElem?_eq_some_iff.1 hx).1
        have h2 : (List.map byteV bs)[k]? = some (byteV x) := by rw [List.getElem?_map, hx]; rfl
        rw [← ht, List.getElem?_take, List.length_map, hn, Nat.mul_one, if_pos hk] at h2
        exact h2
/-- x[:h] of a slice of one-cell elements: the address stands. -/
theorem wpList_slice_front {P : Program} {ops : Array Oper} {rest : List Oper} {o : Oper} {a : Act} {w : World} {Q : Exit → Act → World → Prop} (hgd : Region.wanted o (yielded ops a.tmps) = true) (ty : TypeId) (x hi : Operand) (ho : o.op = .slice ty x none (some hi) none)
    (e : TypeId) (hu : P.underlying ty = some (.slice e)) (hsz : (P.info? e).map (·.size) = some 1) (A : Option Addr) (n c : Nat) (hx : a.eval x = .slice A n c) (k : IntKind) (m : Nat) (hl : a.eval hi = .int k (m : Int)) (hmc : m ≤ c)
    (h : wpList P ops Q rest (a.put o.dst (.slice A m c)) w) : wpList P ops Q (o :: rest) a w := by
  refine BigFrame.wpList_want hgd fun K hK => ?_
  have hel : P.elem ty = e := by simp [Program.elem, hu]
  have h1 := run_slice_h (P := P) w ty A n c (by rw [hel]; exact hu) k (m : Int) (by omega) (by omega)
  have h2 := run_sliceAt_slice (P := P) w ty (.slice A n c) none (some (.int k (m : Int))) none (by rw [hel]; exact hu)
  rw [h1] at h2
  cases hq : P.info? e with
  | none => simp [hq] at hsz
  | some ie =>
    have hs : ie.size = 1 := by simpa [hq] using hsz
    have hso : (sizeOf e).run P w = .ok 1 w := by simp [sizeOf, typeInfo, hq, hs]
    have hk := hK _ _ h
    have e0 : (if c = 0 then A else Option.map (fun x => x.add 0) A) = A := by
      split
      · rfl
      · cases A <;> simp [Addr.add]
    unfold Oper.wp execOp
    simp only [ho, hx, hl, Option.map_some, Option.map_none, h2, Sem.run_bind, Sem.run_pure, hel, hso, sliced, Result.andThen_ok, Int.toNat_natCast, Nat.zero_mul, Nat.sub_zero, e0]
    exact hk
/-- x[i:i+1] of a slice of one-cell elements. -/
theorem wpList_slice_one {P : Program} {ops : Array Oper} {rest : List Oper} {o : Oper} {a : Act} {w : World} {Q : Exit → Act → World → Prop} (hgd : o.guard = none) (ty : TypeId) (x lo hi : Operand) (ho : o.op = .slice ty x (some lo) (some hi) none)
    (e : TypeId) (hu : P.underlying ty = some (.slice e)) (hsz : (P.info? e).map (·.size) = some 1) (A : Option Addr) (n c : Nat) (hx : a.eval x = .slice A n c) (k k2 : IntKind) (l : Nat) (hl : a.eval lo = .int k (l : Int)) (hh : a.eval hi = .int k2 ((l + 1 : Nat) : Int)) (hln : l < n) (hnc : n ≤ c)
    (h : ∀ A2, InBlock A A2 → (∀ {α : Type} (f : α → Value) (w2 : World) (B : Nat) (xs : List α), Row f w2 B A n xs → Row f w2 B A2 1 ((xs.take (l + 1)).drop l)) → wpList P ops Q rest (a.put o.dst (.slice A2 1 (c - l))) w) : wpList P ops Q (o :: rest) a w := by
  have e1 : l + 1 - l = 1 := by omega
  refine wpList_slice_both hgd ty x lo hi ho e hu hsz A n c hx k k2 l (l + 1) hl hh (by omega) (by omega) hnc fun A2 hin hrow => ?_
  rw [e1]
  refine h A2 hin fun f w2 B xs hr => ?_
  have := hrow f w2 B xs hr
  rw [e1] at this
  exact this
end Go.Proofs.Ytkblgafackmckaa

/- Blocks that stand, whatever else turns; a variable in a block of its own that holds a slice which the call made. -/
namespace Go.Proofs.Ytkblgafackmckaa
open Go.RowKit

/-- From w to w' no block of S has turned. -/
structure Held (S : Nat → Prop) (w w' : World) : Prop where
  os : w'.os = w.os
  tape : w'.tape = w.tape
  output : w'.output = w.output
  size : w.heap.size ≤ w'.heap.size
  block : ∀ k, S k → w'.heap[k]? = w.heap[k]?
theorem Held.refl (S : Nat → Prop) (w : World) : Held S w w := ⟨rfl, rfl, rfl, Nat.le_refl _, fun _ _ => rfl⟩
theorem Held.trans {S : Nat → Prop} {w w1 w2 : World} (h : Held S w w1) (k : Held S w1 w2) : Held S w w2 :=
  ⟨k.os.trans h.os, k.tape.trans h.tape, k.output.trans h.output, Nat.le_trans h.size k.size, fun i hi => (k.block i hi).trans (h.block i hi)⟩
theorem Held.less {S S' : Nat → Prop} {w w' : World} (h : Held S w w') (hS : ∀ k, S' k → S k) : Held S' w w' := ⟨h.os, h.tape, h.output, h.size, fun k hk => h.block k (hS k hk)⟩
theorem Held.below {B : Nat} {w w' : World} (h : Held (· < B) w w') : Below B w w' := ⟨h.os, h.tape, h.output, h.size, h.block⟩
theorem Held.of_below {S : Nat → Prop} {B : Nat} {w w' : World} (h : Below B w w') (hS : ∀ k, S k → k < B) : Held S w w' := ⟨h.os, h.tape, h.output, h.size, fun k hk => h.block k (hS k hk)⟩
theorem Held.of_grown {S : Nat → Prop} {row : Option Nat} {w w' : World} (h : w.grownBy w' row) (hS : ∀ k, S k → k < w.heap.size ∧ some k ≠ row) : Held S w w' :=
  ⟨h.os, h.tape, h.output, h.size, fun k hk => h.block k (hS k hk).1 (hS k hk).2⟩
theorem Held.cell {S : Nat → Prop} {w w' : World} (h : Held S w w') (p : Addr) (hp : S p.block) : w'.cell? p = w.cell? p := World.cell?_of_block (w := w) (h.block p.block hp)
theorem Held.drewN {S : Nat → Prop} {w w' : World} (h : Held S w w') (n : Nat) : Held S w (w'.drewN n) := ⟨h.os, h.tape, h.output, h.size, h.block⟩
theorem Row.heldAt {α : Type} {f : α → Value} {w w' : World} {B n : Nat} {A : Option Addr} {l : List α} {S : Nat → Prop} (h : Row f w B A n l) (hb : Held S w w') (hS : ∀ ad, 0 < n → A = some ad → S ad.block) : Row f w' B A n l :=
  ⟨h.len, fun hn => by
    obtain ⟨ad, e, hB, hc⟩ := h.cells hn
    exact ⟨ad, e, hB, fun k hlt => (hb.cell _ (by rw [add_block]; exact hS ad hn e)).trans (hc k hlt)⟩⟩
theorem Blk.held {S : Nat → Prop} {w w' : World} {g : Nat} {t : TypeId} {cs : List Value} (h : Blk w g t cs) (hb : Held S w w') (hg : S g) : Blk w' g t cs := by
  unfold Blk; rw [hb.block g hg]; exact h

theorem Own.heldAt {S : Nat → Prop} {w w' : World} {B : Nat} {e : TypeId} {v : Value} {xs : List Value} (h : Own w B e v xs) (hb : Held S w w') (hS : ∀ k, v.ownBlock = some k → S k) : Own w' B e v xs := by
  refine ⟨h.1, ?_⟩
  rcases h.2 with h1 | ⟨g, cap, cur, hv, hB, hg, rest⟩
  · exact .inl h1
  · exact .inr ⟨g, cap, cur, hv, hB, by rw [hb.block g (hS g (by rw [hv]; rfl))]; exact hg, rest⟩
/-- A slice that the call made, a part of its front. -/
theorem Own.front {w : World} {B : Nat} {e : TypeId} {A : Option Addr} {n c : Nat} {xs : List Value} (h : Own w B e (.slice A n c) xs) {m : Nat} (hm : m ≤ n) : Own w B e (.slice A m c) (xs.take m) := by
  have hl : xs.length = n := by
    rcases h.2 with ⟨hv, hz⟩ | ⟨g, cap, cur, hv, _, _, _, _, _, _⟩
    · injection hv with _ e2 _; omega
    · injection hv with _ e2 _; omega
  rcases h.2 with ⟨hv, hz⟩ | ⟨g, cap, cur, hv, hB, hg, hn, hcm, hs, ht⟩
  · injection hv with e1 e2 e3
    have h0 : m = 0 := by omega
    subst e1 e3 h0
    rw [List.take_zero]
    exact Own.nil w B e
  · injection hv with e1 e2 e3
    subst e1 e3
    refine ⟨by simp, .inr ⟨g, c, cur, ?_, hB, hg, ?_, hcm, hs, ?_⟩⟩
    · rw [List.length_take, Nat.min_eq_left (by omega)]
    · rw [List.length_take]; omega
    · rw [Nat.mul_one, List.length_take, Nat.min_eq_left (by omega)]
      rw [Nat.mul_one] at ht
      rw [← ht, List.take_take, Nat.min_eq_left (by omega)]
/-- Its block, if anything is in it. -/
theorem Own.blk {w : World} {B : Nat} {e : TypeId} {v : Value} {xs : List Value} (h : Own w B e v xs) (h0 : 0 < xs.length) :
    ∃ (r c : Nat) (cur : List Value), v = .slice (some ⟨r, 0, none⟩) xs.length c ∧ Blk w r e cur ∧ cur.length = c ∧ xs.length ≤ c ∧ c ≤ maxLen ∧ cur.take xs.length = xs ∧ B ≤ r := by
  rcases h.2 with ⟨_, hz⟩ | ⟨g, cap, cur, hv, hB, hg, hn, hcm, hs, ht⟩
  · omega
  · exact ⟨g, cap, cur.toList, hv, by unfold Blk; simpa using hg, by simpa using hs, hn, hcm, by simpa using ht, hB⟩

/-- A variable in its block g that holds a slice which the call made, of these elements; no block of S is its. -/
def Var (w : World) (S : Nat → Prop) (g : Nat) (t e : TypeId) (xs : List Value) : Prop :=
  ∃ v, Blk w g t [v] ∧ Own w 0 e v xs ∧ v.ownBlock ≠ some g ∧ ¬ S g ∧ (∀ k, v.ownBlock = some k → ¬ S k) ∧ ∀ k, S k → k < w.heap.size
theorem Var.kept {w w' : World} {S S' : Nat → Prop} {g : Nat} {t e : TypeId} {xs : List Value} {row : Option Nat} (h : Var w S g t e xs) (hg : w.grownBy w' row) (hr : ∀ k, row = some k → S k) (hS : ∀ k, S' k → S k ∨ (w.heap.size ≤ k ∧ k < w'.heap.size)) : Var w' S' g t e xs := by
  obtain ⟨v, h1, h2, h3, h4, h5, h6⟩ := h
  have hgl := h1.lt
  refine ⟨v, h1.grown hg (fun e1 => h4 (hr g e1.symm)), h2.far hg ?_, h3, fun hs => ?_, fun k hk hs => ?_, fun k hk => ?_⟩
  · cases hv : v.ownBlock with
    | none => exact .inl rfl
    | some k => exact .inr fun e1 => h5 k hv (hr k e1.symm)
  · rcases hS g hs with h | h
    · exact h4 h
    · omega
  · have := (h2.block k hk).2
    rcases hS k hs with h | h
    · exact h5 k hk h
    · omega
  · have := hg.size
    rcases hS k hk with h | h
    · have := h6 k h; omega
    · exact h.2
theorem Var.below {w w' : World} {S S' : Nat → Prop} {g : Nat} {t e : TypeId} {xs : List Value} (h : Var w S g t e xs) (hb : Below w.heap.size w w') (hS : ∀ k, S' k → S k ∨ (w.heap.size ≤ k ∧ k < w'.heap.size)) : Var w' S' g t e xs :=
  h.kept (grown_of_below hb none) (fun k hk => by cases hk) hS
theorem Var.less {w : World} {S S' : Nat → Prop} {g : Nat} {t e : TypeId} {xs : List Value} (h : Var w S g t e xs) (hS : ∀ k, S' k → S k) : Var w S' g t e xs := by
  obtain ⟨v, h1, h2, h3, h4, h5, h6⟩ := h
  exact ⟨v, h1, h2, h3, fun h => h4 (hS _ h), fun k hk h => h5 k hk (hS _ h), fun k h => h6 k (hS _ h)⟩
theorem Var.drewN {w : World} {S : Nat → Prop} {g : Nat} {t e : TypeId} {xs : List Value} (h : Var w S g t e xs) (n : Nat) : Var (w.drewN n) S g t e xs := h.below (below_drewN (Below.refl _ _) n) fun _ h => .inl h
theorem Var.not {w : World} {S : Nat → Prop} {g : Nat} {t e : TypeId} {xs : List Value} (h : Var w S g t e xs) : ¬ S g := by
  obtain ⟨v, _, _, _, h4, _⟩ := h
  exact h4
theorem Var.lt {w : World} {S : Nat → Prop} {g : Nat} {t e : TypeId} {xs : List Value} (h : Var w S g t e xs) : ∀ k, S k → k < w.heap.size := by
  obtain ⟨v, _, _, _, _, _, h6⟩ := h
  exact h6
theorem Var.glt {w : World} {S : Nat → Prop} {g : Nat} {t e : TypeId} {xs : List Value} (h : Var w S g t e xs) : g < w.heap.size := by
  obtain ⟨v, h1, _⟩ := h
  exact h1.lt
/-- What append has answered, put into the variable. -/
theorem Var.pushed {w w1 : World} {S : Nat → Prop} {g : Nat} {t e : TypeId} {ys : List Value} {v v1 : Value} (h1 : Blk w g t [v]) (h3 : v.ownBlock ≠ some g) (h4 : ¬ S g) (h5 : ∀ k, v.ownBlock = some k → ¬ S k) (h6 : ∀ k, S k → k < w.heap.size) (ho : Own w1 0 e v1 ys) (hg : Grew w w1 v v1) :
    Var (w1.setCell ⟨g, 0, none⟩ v1) S g t e ys ∧ Held S w (w1.setCell ⟨g, 0, none⟩ v1) := by
  have hgs := h1.lt
  have hsz := hg.size
  have hne1 : v1.ownBlock ≠ some g := by
    rcases hg.2 with h | h
    · rw [h]; exact h3
    · intro e
      have := h g e
      omega
  have hk1 := h1.grown hg.1 (fun e => h3 e.symm)
  refine ⟨⟨v1, hk1.set 0 _, ho.far (grown_set (g := g) (grown_refl _ _)) (.inr hne1), hne1, h4, fun k hk hs => ?_, fun k hk => ?_⟩, ?_⟩
  · rcases hg.2 with h | h
    · exact h5 k (by rw [← h]; exact hk) hs
    · have := h k hk
      have := h6 k hs
      omega
  · have := h6 k hk
    simp; omega
  · refine (Held.of_grown (row := v.ownBlock) hg.1 fun k hk => ⟨h6 k hk, fun e => h5 k e.symm hk⟩).trans (Held.of_grown (row := some g) (grown_set (grown_refl _ _)) fun k hk => ⟨?_, fun e => ?_⟩)
    · have := h6 k hk; omega
    · cases e; exact h4 hk
/-- Read as a list. -/
theorem Var.opens {α : Type} {f : α → Value} {w : World} {S : Nat → Prop} {g : Nat} {t e : TypeId} {l : List α} {n : Nat} (h : Var w S g t e (l.map f)) (hn : l.length = n) :
    ∃ A c, w.cell? ⟨g, 0, none⟩ = some (.slice A n c) ∧ Blk w g t [.slice A n c] ∧ n ≤ c ∧ c ≤ maxLen ∧ Row f w w.heap.size A n l ∧ Own w 0 e (.slice A n c) (l.map f) ∧
      (0 < n → ∃ r cur, A = some ⟨r, 0, none⟩ ∧ Blk w r e cur ∧ cur.length = c ∧ cur.take n = l.map f ∧ r ≠ g ∧ ¬ S r) := by
  obtain ⟨v, h1, h2, h3, h4, h5, h6⟩ := h
  obtain ⟨A, c, rfl, hc, hm, hr⟩ := h2.readsN hn
  refine ⟨A, c, h1.cell 0, h1, hc, hm, hr, h2, fun h0 => ?_⟩
  obtain ⟨r, c2, cur, hv, hb, hcl, _, _, ht, _⟩ := h2.blk (by rw [List.length_map]; omega)
  injection hv with e1 e2 e3
  subst e1 e3
  rw [List.length_map, hn] at ht
  exact ⟨r, cur, rfl, hb, hcl, ht, fun e1 => h3 (by rw [e1]; rfl), h5 r rfl⟩
end Go.Proofs.Ytkblgafackmckaa
