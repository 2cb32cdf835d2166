/- Make, Own, Held, Box, in one text. -/
import Derived.Test.YtkhfolpffjihgaaPk5
import Derived.Test.YtkhfolpffjihgaaPk12
import Derived.Test.YtkhfolpffjihgaaPk2
import Derived.Test.YtkhfolpffjihgaaPk3
namespace Go.Proofs.Ytkhfolpffjihgaa
open Go.RowKit
theorem j7 {P : Program} {ops : Array Oper} {rest : List Oper} {o : Oper} {a : Act} {w : World} {Q : Exit → Act → World → Prop} (hgd : o.guard = none) (ty : TypeId) (x y : Operand) (ho : o.op = .store ty x y)
    (g k : Nat) (v : Value) (hx : a.eval x = .pointer (some ⟨g, k, none⟩)) (hy : a.eval y = v) (h1 : v.oneCell' = true) (hc : v.cells = #[v])
    (t : TypeId) (cs : List Value) (hg : Blk w g t cs) (hk : k < cs.length) (hi : (P.info? ty).map (·.size) = some 1)
    (h : ∀ w', Blk w' g t (cs.set k v) → w.grownBy w' (some g) → w'.heap.size = w.heap.size → wpList P ops Q rest (a.put o.dst undef) w') : wpList P ops Q (o :: rest) a w := by
  refine wpList_plain hgd fun K hK => ?_
  have hrun : (storeVar ty ⟨g, k, none⟩ v).run P w = .ok () (w.setCells g k [v]) := by
    have hst := run_storeCells_cells (P := P) g k [v] 0 w (fun j hj => by
      have : j = 0 := by simp at hj; exact hj
      subst this
      show (w.cell? ⟨g, k, none⟩).isSome = true
      rw [hg.cell, List.getElem?_eq_getElem hk]; rfl) (fun j hj => by
      have : j = 0 := by simp at hj; exact hj
      subst this
      exact hg.frozen _) (fun u hu => by rw [List.mem_singleton] at hu; subst hu; exact h1)
    cases hq : P.info? ty with
    | none => simp [hq] at hi
    | some i =>
      have hs : i.size = 1 := by simpa [hq] using hi
      simp only [Nat.add_zero] at hst
      simp [storeVar, sizeOf, typeInfo, hq, hc, hs, hst]
  have hw : w.setCells g k [v] = w.setCell ⟨g, k, none⟩ v := rfl
  rw [hw] at hrun
  unfold Oper.wp execOp
  simp only [ho, hx, hy, Instr.storeAt, Instr.sureAddr, Sem.run_bind, Sem.run_pure, Result.andThen_ok, hrun]
  exact hK _ _ (h _ (hg.set k v) (xX (xG _ _)) (by simp))
theorem wpList_make_rep {P : Program} {ops : Array Oper} {rest : List Oper} {o : Oper} {a : Act} {w : World} {Q : Exit → Act → World → Prop} (hgd : o.guard = none) (t : TypeId) (l c : Operand) (ho : o.op = .makeSlice t l c)
    (e : TypeId) (z u : Value) (sz bytes : Nat) (ht : P.underlying t = some (.slice e)) (hi : (P.info? e).map (fun i => (i.zero, i.size, i.bytes)) = some (some z, sz, bytes)) (hz1 : z.cells = (List.replicate sz u).toArray) (hsz : 0 < sz)
    (kl kc : IntKind) (n m : Nat) (hl : a.eval l = .int kl (n : Int)) (hc : a.eval c = .int kc (m : Int)) (hnm : n ≤ m) (hb : bytes * m ≤ 281474976710656) (h63 : m ≤ 9223372036854775807)
    (h : ∀ g w', w.heap.size ≤ g → Blk w' g e (List.replicate (m * sz) u) → Below w.heap.size w w' → wpList P ops Q rest (a.put o.dst (.slice (some ⟨g, 0, none⟩) n m)) w') : wpList P ops Q (o :: rest) a w := by
  refine wpList_plain hgd fun K hK => ?_
  obtain ⟨i, hi0, hzz⟩ := Option.map_eq_some_iff.1 hi
  simp only [Prod.mk.injEq] at hzz
  obtain ⟨hz, hs, hbb⟩ := hzz
  have hb' : (i.bytes : Int) * (m : Int) ≤ 281474976710656 := by
    have h : ((i.bytes * m : Nat) : Int) ≤ 281474976710656 := by rw [hbb]; omega
    rwa [Int.natCast_mul] at h
  have hr := run_make (P := P) w t e i z ht hi0 hz kl kc n m (by omega) (by omega) hb' (by omega)
  simp only [Int.toNat_natCast, hs, hz1] at hr
  have hmc : madeCells (List.replicate sz u).toArray (m * sz) = (List.replicate (m * sz) u).toArray := by
    apply Array.ext
    · simp [madeCells]
    · intro k h1 h2
      have hlt : k % sz < sz := Nat.mod_lt _ hsz
      simp [madeCells, hlt]
  unfold Oper.wp
  simp [execOp, ho, hl, hc, hr, Result.andThen]
  exact hK _ _ (h _ _ (Nat.le_refl _) (Blk.newAt hmc rfl) ((Below.refl _ _).alloc (Nat.le_refl _) _))
theorem Own.split {w : World} {B n : Nat} {e : TypeId} {v : Value} {bs : List Nat} (h : Own w B e v (bs.map byteV)) (hn : bs.length = n) :
    ∃ (A : Option Addr) (c : Nat), v = .slice A n c ∧ n ≤ c ∧ c ≤ maxLen ∧ Row byteV w w.heap.size A n bs ∧ (∀ ad : Addr, A = some ad → B ≤ ad.block ∧ ad.block < w.heap.size) ∧
      (0 < n → ∃ (g : Nat) (cur : List Value), A = some ⟨g, 0, none⟩ ∧ Blk w g e cur ∧ n ≤ cur.length ∧ ∀ (k x : Nat), bs[k]? = some x → cur[k]? = some (byteV x)) := by
  obtain ⟨A, c, rfl, hc, hm, hr⟩ := h.bytesN hn
  refine ⟨A, c, rfl, hc, hm, hr, fun ad e1 => ?_, fun h0 => ?_⟩
  · subst e1
    exact h.block ad.block rfl
  · rcases h.2 with ⟨hv, hz⟩ | ⟨g, cap, cur, hv, _, hg, _, _, _, ht⟩
    · rw [List.length_map] at hz; omega
    · injection hv with e1 e2 e3
      subst e1
      refine ⟨g, cur.toList, rfl, by unfold Blk; simpa using hg, ?_, fun k x hx => ?_⟩
      · have := congrArg List.length ht
        rw [List.length_take, List.length_map] at this
        omega
      · have hk : k < n := by rw [← hn]; exact (List.getElem?_eq_some_iff.1 hx).1
        have h2 : (List.map byteV bs)[k]? = some (byteV x) := by rw [List.getElem?_map, hx]; rfl
        rw [← ht, List.getElem?_take, List.length_map, hn, Nat.mul_one, if_pos hk] at h2
        exact h2
theorem wpList_slice_front {P : Program} {ops : Array Oper} {rest : List Oper} {o : Oper} {a : Act} {w : World} {Q : Exit → Act → World → Prop} (hgd : Region.wanted o (yielded ops a.tmps) = true) (ty : TypeId) (x hi : Operand) (ho : o.op = .slice ty x none (some hi) none)
    (e : TypeId) (hu : P.underlying ty = some (.slice e)) (hsz : (P.info? e).map (·.size) = some 1) (A : Option Addr) (n c : Nat) (hx : a.eval x = .slice A n c) (k : IntKind) (m : Nat) (hl : a.eval hi = .int k (m : Int)) (hmc : m ≤ c)
    (h : wpList P ops Q rest (a.put o.dst (.slice A m c)) w) : wpList P ops Q (o :: rest) a w := by
  refine BigFrame.wpList_want hgd fun K hK => ?_
  have hel : P.elem ty = e := by simp [Program.elem, hu]
  have h1 := run_slice_h (P := P) w ty A n c (by rw [hel]; exact hu) k (m : Int) (by omega) (by omega)
  have h2 := run_sliceAt_slice (P := P) w ty (.slice A n c) none (some (.int k (m : Int))) none (by rw [hel]; exact hu)
  rw [h1] at h2
  cases hq : P.info? e with
  | none => simp [hq] at hsz
  | some ie =>
    have hs : ie.size = 1 := by simpa [hq] using hsz
    have hso : (sizeOf e).run P w = .ok 1 w := by simp [sizeOf, typeInfo, hq, hs]
    have hk := hK _ _ h
    have e0 : (if c = 0 then A else Option.map (fun x => x.add 0) A) = A := by
      split
      · rfl
      · cases A <;> simp [Addr.add]
    unfold Oper.wp execOp
    simp only [ho, hx, hl, Option.map_some, Option.map_none, h2, Sem.run_bind, Sem.run_pure, hel, hso, sliced, Result.andThen_ok, Int.toNat_natCast, Nat.zero_mul, Nat.sub_zero, e0]
    exact hk
theorem wpList_slice_one {P : Program} {ops : Array Oper} {rest : List Oper} {o : Oper} {a : Act} {w : World} {Q : Exit → Act → World → Prop} (hgd : o.guard = none) (ty : TypeId) (x lo hi : Operand) (ho : o.op = .slice ty x (some lo) (some hi) none)
    (e : TypeId) (hu : P.underlying ty = some (.slice e)) (hsz : (P.info? e).map (·.size) = some 1) (A : Option Addr) (n c : Nat) (hx : a.eval x = .slice A n c) (k k2 : IntKind) (l : Nat) (hl : a.eval lo = .int k (l : Int)) (hh : a.eval hi = .int k2 ((l + 1 : Nat) : Int)) (hln : l < n) (hnc : n ≤ c)
    (h : ∀ A2, InBlock A A2 → (∀ {α : Type} (f : α → Value) (w2 : World) (B : Nat) (xs : List α), Row f w2 B A n xs → Row f w2 B A2 1 ((xs.take (l + 1)).drop l)) → wpList P ops Q rest (a.put o.dst (.slice A2 1 (c - l))) w) : wpList P ops Q (o :: rest) a w := by
  have e1 : l + 1 - l = 1 := by omega
  refine zR hgd ty x lo hi ho e hu hsz A n c hx k k2 l (l + 1) hl hh (by omega) (by omega) hnc fun A2 hin hrow => ?_
  rw [e1]
  refine h A2 hin fun f w2 B xs hr => ?_
  have := hrow f w2 B xs hr
  rw [e1] at this
  exact this
structure Held (S : Nat → Prop) (w w' : World) : Prop where
  os : w'.os = w.os
  tape : w'.tape = w.tape
  output : w'.output = w.output
  size : w.heap.size ≤ w'.heap.size
  block : ∀ k, S k → w'.heap[k]? = w.heap[k]?
theorem Held.refl (S : Nat → Prop) (w : World) : Held S w w := ⟨rfl, rfl, rfl, Nat.le_refl _, fun _ _ => rfl⟩
theorem Held.trans {S : Nat → Prop} {w w1 w2 : World} (h : Held S w w1) (k : Held S w1 w2) : Held S w w2 :=
  ⟨k.os.trans h.os, k.tape.trans h.tape, k.output.trans h.output, Nat.le_trans h.size k.size, fun i hi => (k.block i hi).trans (h.block i hi)⟩
theorem Held.less {S S' : Nat → Prop} {w w' : World} (h : Held S w w') (hS : ∀ k, S' k → S k) : Held S' w w' := ⟨h.os, h.tape, h.output, h.size, fun k hk => h.block k (hS k hk)⟩
theorem Held.below {B : Nat} {w w' : World} (h : Held (· < B) w w') : Below B w w' := ⟨h.os, h.tape, h.output, h.size, h.block⟩
theorem Held.of_below {S : Nat → Prop} {B : Nat} {w w' : World} (h : Below B w w') (hS : ∀ k, S k → k < B) : Held S w w' := ⟨h.os, h.tape, h.output, h.size, fun k hk => h.block k (hS k hk)⟩
theorem Held.of_grown {S : Nat → Prop} {row : Option Nat} {w w' : World} (h : w.grownBy w' row) (hS : ∀ k, S k → k < w.heap.size ∧ some k ≠ row) : Held S w w' :=
  ⟨h.os, h.tape, h.output, h.size, fun k hk => h.block k (hS k hk).1 (hS k hk).2⟩
theorem Held.cell {S : Nat → Prop} {w w' : World} (h : Held S w w') (p : Addr) (hp : S p.block) : w'.cell? p = w.cell? p := World.cell?_of_block (w := w) (h.block p.block hp)
theorem Held.drewN {S : Nat → Prop} {w w' : World} (h : Held S w w') (n : Nat) : Held S w (w'.drewN n) := ⟨h.os, h.tape, h.output, h.size, h.block⟩
theorem Row.heldAt {α : Type} {f : α → Value} {w w' : World} {B n : Nat} {A : Option Addr} {l : List α} {S : Nat → Prop} (h : Row f w B A n l) (hb : Held S w w') (hS : ∀ ad, 0 < n → A = some ad → S ad.block) : Row f w' B A n l :=
  ⟨h.len, fun hn => by
    obtain ⟨ad, e, hB, hc⟩ := h.cells hn
    exact ⟨ad, e, hB, fun k hlt => (hb.cell _ (by rw [j8]; exact hS ad hn e)).trans (hc k hlt)⟩⟩
theorem Blk.held {S : Nat → Prop} {w w' : World} {g : Nat} {t : TypeId} {cs : List Value} (h : Blk w g t cs) (hb : Held S w w') (hg : S g) : Blk w' g t cs := by
  unfold Blk; rw [hb.block g hg]; exact h
theorem Own.heldAt {S : Nat → Prop} {w w' : World} {B : Nat} {e : TypeId} {v : Value} {xs : List Value} (h : Own w B e v xs) (hb : Held S w w') (hS : ∀ k, v.ownBlock = some k → S k) : Own w' B e v xs := by
  refine ⟨h.1, ?_⟩
  rcases h.2 with h1 | ⟨g, cap, cur, hv, hB, hg, rest⟩
  · exact .inl h1
  · exact .inr ⟨g, cap, cur, hv, hB, by rw [hb.block g (hS g (by rw [hv]; rfl))]; exact hg, rest⟩
theorem Own.front {w : World} {B : Nat} {e : TypeId} {A : Option Addr} {n c : Nat} {xs : List Value} (h : Own w B e (.slice A n c) xs) {m : Nat} (hm : m ≤ n) : Own w B e (.slice A m c) (xs.take m) := by
  have hl : xs.length = n := by
    rcases h.2 with ⟨hv, hz⟩ | ⟨g, cap, cur, hv, _, _, _, _, _, _⟩
    · injection hv with _ e2 _; omega
    · injection hv with _ e2 _; omega
  rcases h.2 with ⟨hv, hz⟩ | ⟨g, cap, cur, hv, hB, hg, hn, hcm, hs, ht⟩
  · injection hv with e1 e2 e3
    have h0 : m = 0 := by omega
    subst e1 e3 h0
    rw [List.take_zero]
    exact Own.nil w B e
  · injection hv with e1 e2 e3
    subst e1 e3
    refine ⟨by simp, .inr ⟨g, c, cur, ?_, hB, hg, ?_, hcm, hs, ?_⟩⟩
    · rw [List.length_take, Nat.min_eq_left (by omega)]
    · rw [List.length_take]; omega
    · rw [Nat.mul_one, List.length_take, Nat.min_eq_left (by omega)]
      rw [Nat.mul_one] at ht
      rw [← ht, List.take_take, Nat.min_eq_left (by omega)]
theorem Own.blk {w : World} {B : Nat} {e : TypeId} {v : Value} {xs : List Value} (h : Own w B e v xs) (h0 : 0 < xs.length) :
    ∃ (r c : Nat) (cur : List Value), v = .slice (some ⟨r, 0, none⟩) xs.length c ∧ Blk w r e cur ∧ cur.length = c ∧ xs.length ≤ c ∧ c ≤ maxLen ∧ cur.take xs.length = xs ∧ B ≤ r := by
  rcases h.2 with ⟨_, hz⟩ | ⟨g, cap, cur, hv, hB, hg, hn, hcm, hs, ht⟩
  · omega
  · exact ⟨g, cap, cur.toList, hv, by unfold Blk; simpa using hg, by simpa using hs, hn, hcm, by simpa using ht, hB⟩
def Var (w : World) (S : Nat → Prop) (g : Nat) (t e : TypeId) (xs : List Value) : Prop :=
  ∃ v, Blk w g t [v] ∧ Own w 0 e v xs ∧ v.ownBlock ≠ some g ∧ ¬ S g ∧ (∀ k, v.ownBlock = some k → ¬ S k) ∧ ∀ k, S k → k < w.heap.size
theorem Var.kept {w w' : World} {S S' : Nat → Prop} {g : Nat} {t e : TypeId} {xs : List Value} {row : Option Nat} (h : Var w S g t e xs) (hg : w.grownBy w' row) (hr : ∀ k, row = some k → S k) (hS : ∀ k, S' k → S k ∨ (w.heap.size ≤ k ∧ k < w'.heap.size)) : Var w' S' g t e xs := by
  obtain ⟨v, h1, h2, h3, h4, h5, h6⟩ := h
  have hgl := h1.lt
  refine ⟨v, h1.grown hg (fun e1 => h4 (hr g e1.symm)), h2.far hg ?_, h3, fun hs => ?_, fun k hk hs => ?_, fun k hk => ?_⟩
  · cases hv : v.ownBlock with
    | none => exact .inl rfl
    | some k => exact .inr fun e1 => h5 k hv (hr k e1.symm)
  · rcases hS g hs with h | h
    · exact h4 h
    · omega
  · have := (h2.block k hk).2
    rcases hS k hs with h | h
    · exact h5 k hk h
    · omega
  · have := hg.size
    rcases hS k hk with h | h
    · have := h6 k h; omega
    · exact h.2
theorem Var.below {w w' : World} {S S' : Nat → Prop} {g : Nat} {t e : TypeId} {xs : List Value} (h : Var w S g t e xs) (hb : Below w.heap.size w w') (hS : ∀ k, S' k → S k ∨ (w.heap.size ≤ k ∧ k < w'.heap.size)) : Var w' S' g t e xs :=
  h.kept (jM hb none) (fun k hk => by cases hk) hS
theorem Var.less {w : World} {S S' : Nat → Prop} {g : Nat} {t e : TypeId} {xs : List Value} (h : Var w S g t e xs) (hS : ∀ k, S' k → S k) : Var w S' g t e xs := by
  obtain ⟨v, h1, h2, h3, h4, h5, h6⟩ := h
  exact ⟨v, h1, h2, h3, fun h => h4 (hS _ h), fun k hk h => h5 k hk (hS _ h), fun k h => h6 k (hS _ h)⟩
theorem Var.drewN {w : World} {S : Nat → Prop} {g : Nat} {t e : TypeId} {xs : List Value} (h : Var w S g t e xs) (n : Nat) : Var (w.drewN n) S g t e xs := h.below (jE (Below.refl _ _) n) fun _ h => .inl h
theorem Var.not {w : World} {S : Nat → Prop} {g : Nat} {t e : TypeId} {xs : List Value} (h : Var w S g t e xs) : ¬ S g := by
  obtain ⟨v, _, _, _, h4, _⟩ := h
  exact h4
theorem Var.lt {w : World} {S : Nat → Prop} {g : Nat} {t e : TypeId} {xs : List Value} (h : Var w S g t e xs) : ∀ k, S k → k < w.heap.size := by
  obtain ⟨v, _, _, _, _, _, h6⟩ := h
  exact h6
theorem wpList_box_one {P : Program} {ops : Array Oper} {rest : List Oper} {o : Oper} {a : Act} {w : World} {Q : Exit → Act → World → Prop} (hgd : o.guard = none) (ty : TypeId) (x : Operand) (ho : o.op = .box ty x)
    (v : Value) (hx : a.eval x = v) (hv : v.cells = #[v])
    (h : ∀ g w', w.heap.size ≤ g → Blk w' g ty [v] → Below w.heap.size w w' → wpList P ops Q rest (a.put o.dst (.pointer (some ⟨g, 0, none⟩))) w') : wpList P ops Q (o :: rest) a w := by
  refine wpList_plain hgd fun K hK => ?_
  unfold Oper.wp
  simp [execOp, ho, hx, Instr.box, newVar, newRow, hv, Result.andThen]
  exact hK _ _ (h _ _ (Nat.le_refl _) (Blk.newAt rfl rfl) ((Below.refl _ _).alloc (Nat.le_refl _) _))
theorem xT {P : Program} {ops : Array Oper} {rest : List Oper} {o : Oper} {a : Act} {w : World} {Q : Exit → Act → World → Prop} (hgd : o.guard = none) (ty : TypeId) (ho : o.op = .alloc ty)
    (v : Value) (hz : (P.info? ty).map (·.zero) = some (some v)) (hv : v.cells = #[v])
    (h : ∀ g w', w.heap.size ≤ g → Blk w' g ty [v] → Below w.heap.size w w' → wpList P ops Q rest (a.put o.dst (.pointer (some ⟨g, 0, none⟩))) w') : wpList P ops Q (o :: rest) a w := by
  refine wpList_plain hgd fun K hK => ?_
  cases hq : P.info? ty with
  | none => simp [hq] at hz
  | some i =>
    have hz' : i.zero = some v := by simpa [hq] using hz
    unfold Oper.wp
    simp [execOp, ho, Instr.alloc, zeroValue, typeInfo, hq, hz', newVar, newRow, hv, Result.andThen]
    exact hK _ _ (h _ _ (Nat.le_refl _) (Blk.newAt rfl rfl) ((Below.refl _ _).alloc (Nat.le_refl _) _))
theorem Var.new {w : World} {S : Nat → Prop} {g : Nat} {t e : TypeId} {v : Value} {xs : List Value} (hb : Blk w g t [v]) (ho : Own w 0 e v xs) (hne : v.ownBlock ≠ some g) (hg : ¬ S g) (hS : ∀ k, v.ownBlock = some k → ¬ S k) (hl : ∀ k, S k → k < w.heap.size) : Var w S g t e xs :=
  ⟨v, hb, ho, hne, hg, hS, hl⟩
end Go.Proofs.Ytkhfolpffjihgaa
