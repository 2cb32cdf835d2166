/- Arr2, Reach, Mat, in one text. -/
import Derived.Test.YtkhfolpffjihgaaPk3
import Derived.Laws.CopyOwn
import Derived.Laws.MakeOwn
import Derived.WalkKit
import Derived.Test.YtkhfolpffjihgaaPk2
namespace Go.Proofs.Ytkhfolpffjihgaa
open Go.RowKit
theorem wpList_make_blk {P : Program} {ops : Array Oper} {rest : List Oper} {o : Oper} {a : Act} {w : World} {Q : Exit → Act → World → Prop} (hgd : o.guard = none) (t : TypeId) (l c : Operand) (ho : o.op = .makeSlice t l c)
    (e : TypeId) (z : Value) (bytes : Nat) (ht : P.underlying t = some (.slice e)) (hi : (P.info? e).map (fun i => (i.zero, i.size, i.bytes)) = some (some z, 1, bytes)) (hz1 : z.cells = #[z])
    (kl kc : IntKind) (n m : Nat) (hl : a.eval l = .int kl (n : Int)) (hc : a.eval c = .int kc (m : Int)) (hnm : n ≤ m) (hb : bytes * m ≤ 281474976710656) (h63 : m ≤ 9223372036854775807)
    (h : ∀ g w', w.heap.size ≤ g → Blk w' g e (List.replicate m z) → Below w.heap.size w w' → wpList P ops Q rest (a.put o.dst (.slice (some ⟨g, 0, none⟩) n m)) w') : wpList P ops Q (o :: rest) a w := by
  refine wpList_plain hgd fun K hK => ?_
  obtain ⟨i, hi0, hzz⟩ := Option.map_eq_some_iff.1 hi
  simp only [Prod.mk.injEq] at hzz
  obtain ⟨hz, hs, hbb⟩ := hzz
  have hb' : (i.bytes : Int) * (m : Int) ≤ 281474976710656 := by
    have h : ((i.bytes * m : Nat) : Int) ≤ 281474976710656 := by rw [hbb]; omega
    rwa [Int.natCast_mul] at h
  have hr := run_make (P := P) w t e i z ht hi0 hz kl kc n m (by omega) (by omega) hb' (by omega)
  simp only [Int.toNat_natCast, hs, Nat.mul_one, hz1] at hr
  have hmc : madeCells #[z] m = (List.replicate m z).toArray := by
    apply Array.ext
    · simp [madeCells]
    · intro k h1 h2
      simp [madeCells, Nat.mod_one]
  unfold Oper.wp
  simp [execOp, ho, hl, hc, hr, Result.andThen]
  exact hK _ _ (h _ _ (Nat.le_refl _) (Blk.newAt hmc rfl) ((Below.refl _ _).alloc (Nat.le_refl _) _))
theorem Blk.own {w : World} {g B : Nat} {e : TypeId} {cs xs : List Value} {cap : Nat} (h : Blk w g e cs) (hB : B ≤ g) (hc : cs.length = cap) (hn : xs.length ≤ cap) (hm : cap ≤ maxLen) (hx : cs.take xs.length = xs) :
    Own w B e (.slice (some ⟨g, 0, none⟩) xs.length cap) xs :=
  ⟨by simp, .inr ⟨g, cap, cs.toArray, rfl, hB, h, hn, hm, by simpa using hc, by simpa using hx⟩⟩
end Go.Proofs.Ytkhfolpffjihgaa
namespace Go.Proofs.Ytkhfolpffjihgaa.Q
inductive Reach (R : Nat → Nat → Prop) (n : Nat) : Nat → Nat → Prop
  | one {x y : Nat} : R x y → Reach R n x y
  | more {x j y : Nat} : R x j → j < n → Reach R n j y → Reach R n x y
theorem Reach.trans {R : Nat → Nat → Prop} {n x j y : Nat} (h : Reach R n x j) (hj : j < n) (k : Reach R n j y) : Reach R n x y := by
  induction h with
  | one h => exact .more h hj k
  | more h hl _ ih => exact .more h hl (ih hj k)
def Via (R : Nat → Nat → Prop) : Nat → Nat → Nat → Prop
  | 0 => R
  | k + 1 => fun x y => Via R k x y ∨ (Via R k x k ∧ Via R k k y)
theorem via_base {R : Nat → Nat → Prop} {x y : Nat} (h : R x y) : ∀ k, Via R k x y
  | 0 => h
  | k + 1 => .inl (via_base h k)
theorem yV {R : Nat → Nat → Prop} : ∀ (k j x y : Nat), j < k → Via R k x j → Via R k j y → Via R k x y
  | 0, j, _, _, hj, _, _ => by omega
  | k + 1, j, x, y, hj, h1, h2 => by
    rcases Nat.lt_or_ge j k with hlt | hge
    · rcases h1 with h1 | ⟨h1, h1'⟩
      · rcases h2 with h2 | ⟨h2, h2'⟩
        · exact .inl (yV k j x y hlt h1 h2)
        · exact .inr ⟨yV k j x k hlt h1 h2, h2'⟩
      · rcases h2 with h2 | ⟨_, h2'⟩
        · exact .inr ⟨h1, yV k j k y hlt h1' h2⟩
        · exact .inr ⟨h1, h2'⟩
    · have e : j = k := by omega
      subst e
      have a : Via R j x j := by rcases h1 with h1 | ⟨h1, _⟩ <;> exact h1
      have b : Via R j j y := by rcases h2 with h2 | ⟨_, h2⟩ <;> exact h2
      exact .inr ⟨a, b⟩
theorem reach_via {R : Nat → Nat → Prop} {n x y : Nat} (h : Reach R n x y) : Via R n x y := by
  induction h with
  | one h => exact via_base h n
  | more h hj _ ih => exact yV n _ _ _ hj (via_base h n) ih
def mget (M : List (List Nat)) (a b : Nat) : Nat := (M.getD a []).getD b 0
def mset (M : List (List Nat)) (a b : Nat) : List (List Nat) := M.set a ((M.getD a []).set b 1)
def Square (n : Nat) (M : List (List Nat)) : Prop := M.length = n ∧ ∀ r ∈ M, r.length = n
theorem Square.row {n : Nat} {M : List (List Nat)} (h : Square n M) {a : Nat} (ha : a < n) : ∃ r, M[a]? = some r ∧ r.length = n ∧ M.getD a [] = r := by
  have hl : a < M.length := by rw [h.1]; exact ha
  exact ⟨M[a], List.getElem?_eq_getElem hl, h.2 _ (List.getElem_mem hl), by rw [List.getD_eq_getElem?_getD, List.getElem?_eq_getElem hl]; rfl⟩
theorem mset_square {n : Nat} {M : List (List Nat)} (h : Square n M) {a b : Nat} (ha : a < n) : Square n (mset M a b) := by
  obtain ⟨r, _, hr, e⟩ := h.row ha
  refine ⟨by unfold mset; rw [List.length_set]; exact h.1, fun x hx => ?_⟩
  unfold mset at hx
  rcases List.mem_or_eq_of_mem_set hx with hx | hx
  · exact h.2 x hx
  · rw [hx, List.length_set, e, hr]
theorem vQ {n : Nat} {M : List (List Nat)} (h : Square n M) {a b : Nat} (ha : a < n) (hb : b < n) (x y : Nat) : mget (mset M a b) x y = if x = a ∧ y = b then 1 else mget M x y := by
  obtain ⟨r, hra, hr, e⟩ := h.row ha
  have hl : a < M.length := by rw [h.1]; exact ha
  unfold mget mset
  rw [e]
  by_cases hx : x = a
  · subst hx
    have h1 : (M.set x (r.set b 1)).getD x [] = r.set b 1 := by rw [List.getD_eq_getElem?_getD, List.getElem?_set_self hl]; rfl
    rw [h1, e]
    by_cases hy : y = b
    · subst hy
      rw [if_pos ⟨rfl, rfl⟩, List.getD_eq_getElem?_getD, List.getElem?_set_self (by rw [hr]; exact hb)]
      rfl
    · rw [if_neg (by intro h; exact hy h.2), List.getD_eq_getElem?_getD, List.getElem?_set_ne (by omega), ← List.getD_eq_getElem?_getD]
  · have h2 : (M.set a (r.set b 1)).getD x [] = M.getD x [] := by rw [List.getD_eq_getElem?_getD, List.getElem?_set_ne (by omega), ← List.getD_eq_getElem?_getD]
    rw [if_neg (by intro h; exact hx h.1), h2]
structure Closing (R : Nat → Nat → Prop) (n k a b : Nat) (M : List (List Nat)) : Prop where
  sq : Square n M
  sound : ∀ x y, x < n → y < n → mget M x y = 1 → Reach R n x y
  base : ∀ x y, x < n → y < n → Via R k x y → mget M x y = 1
  done : ∀ x y, x < n → y < n → (x < a ∨ (x = a ∧ y < b)) → Via R k x k → Via R k k y → mget M x y = 1
theorem Closing.set {R : Nat → Nat → Prop} {n k a b : Nat} {M : List (List Nat)} (h : Closing R n k a b M) (hk : k < n) (ha : a < n) (hb : b < n) (h1 : mget M a k = 1) (h2 : mget M k b = 1) : Closing R n k a (b + 1) (mset M a b) := by
  refine ⟨mset_square h.sq ha, fun x y hx hy e => ?_, fun x y hx hy v => ?_, fun x y hx hy hlt v1 v2 => ?_⟩
  · rw [vQ h.sq ha hb] at e
    split at e
    · rename_i hxy
      rw [hxy.1, hxy.2]
      exact (h.sound a k ha hk h1).trans hk (h.sound k b hk hb h2)
    · exact h.sound x y hx hy e
  · rw [vQ h.sq ha hb]
    split
    · rfl
    · exact h.base x y hx hy v
  · rw [vQ h.sq ha hb]
    split
    · rfl
    · rename_i hxy
      exact h.done x y hx hy (by omega) v1 v2
theorem Closing.skip {R : Nat → Nat → Prop} {n k a b : Nat} {M : List (List Nat)} (h : Closing R n k a b M) (hk : k < n) (h1 : ¬ (mget M a k = 1 ∧ mget M k b = 1)) : Closing R n k a (b + 1) M := by
  refine ⟨h.sq, h.sound, h.base, fun x y hx hy hlt v1 v2 => ?_⟩
  by_cases e : x = a ∧ y = b
  · exfalso
    obtain ⟨rfl, rfl⟩ := e
    exact h1 ⟨h.base x k hx hk v1, h.base k y hk hy v2⟩
  · exact h.done x y hx hy (by omega) v1 v2
theorem Closing.line {R : Nat → Nat → Prop} {n k a : Nat} {M : List (List Nat)} (h : Closing R n k a n M) : Closing R n k (a + 1) 0 M :=
  ⟨h.sq, h.sound, h.base, fun x y hx hy _ v1 v2 => h.done x y hx hy (by omega) v1 v2⟩
theorem Closing.round {R : Nat → Nat → Prop} {n k : Nat} {M : List (List Nat)} (h : Closing R n k n 0 M) : Closing R n (k + 1) 0 0 M :=
  ⟨h.sq, h.sound, fun x y hx hy v => by
    rcases v with v | ⟨v1, v2⟩
    · exact h.base x y hx hy v
    · exact h.done x y hx hy (by omega) v1 v2, fun x y _ _ hlt _ _ => by omega⟩
theorem Closing.end_ {R : Nat → Nat → Prop} {n : Nat} {M : List (List Nat)} (h : Closing R n n 0 0 M) (x y : Nat) (hx : x < n) (hy : y < n) : mget M x y = 1 ↔ Reach R n x y :=
  ⟨h.sound x y hx hy, fun r => h.base x y hx hy (reach_via r)⟩
theorem Closing.start {R : Nat → Nat → Prop} {n : Nat} {M : List (List Nat)} (hs : Square n M) (h : ∀ x y, x < n → y < n → (mget M x y = 1 ↔ R x y)) : Closing R n 0 0 0 M :=
  ⟨hs, fun x y hx hy e => .one ((h x y hx hy).1 e), fun x y hx hy v => (h x y hx hy).2 v, fun x y _ _ hlt _ _ => by omega⟩
end Go.Proofs.Ytkhfolpffjihgaa.Q
namespace Go.Proofs.Ytkhfolpffjihgaa
open Go.RowKit
def rowV (n : Nat) (g : Nat) : Value := .slice (some ⟨g, 0, none⟩) n n
structure Mat (w : World) (C : Nat) (e e2 : TypeId) (v : Value) (n : Nat) (gs : List Nat) (M : List (List Nat)) : Prop where
  own : Own w C e v (gs.map (rowV n))
  len : gs.length = M.length
  blk : ∀ (i g : Nat) (r : List Nat), gs[i]? = some g → M[i]? = some r → Blk w g e2 (r.map natV) ∧ r.length = n
  lo : ∀ g ∈ gs, C ≤ g
  apart : ∀ g ∈ gs, v.ownBlock ≠ some g
  nodup : gs.Nodup
section
variable {w w' : World} {C : Nat} {e e2 : TypeId} {v : Value} {n : Nat} {gs : List Nat} {M : List (List Nat)}
theorem Mat.nil (w : World) (C : Nat) (e e2 : TypeId) (n : Nat) : Mat w C e e2 (.slice none 0 0) n [] [] :=
  ⟨Own.nil _ _ _, rfl, fun i g r h => by simp at h, by simp, by simp, List.nodup_nil⟩
theorem Mat.below (h : Mat w C e e2 v n gs M) (hb : Below w.heap.size w w') : Mat w' C e e2 v n gs M :=
  ⟨h.own.below hb (Nat.le_refl _), h.len, fun i g r hg hr => ⟨(h.blk i g r hg hr).1.below hb (h.blk i g r hg hr).1.lt, (h.blk i g r hg hr).2⟩, h.lo, h.apart, h.nodup⟩
theorem Mat.drewN (h : Mat w C e e2 v n gs M) (k : Nat) : Mat (w.drewN k) C e e2 v n gs M := h.below (jE (Below.refl _ _) k)
theorem Mat.less (h : Mat w C e e2 v n gs M) {C' : Nat} (hC : C' ≤ C) : Mat w C' e e2 v n gs M :=
  ⟨h.own.less hC, h.len, h.blk, fun g hg => Nat.le_trans hC (h.lo g hg), h.apart, h.nodup⟩
theorem Mat.fresh (h : Mat w C e e2 v n gs M) {x : Nat} (hx : w.heap.size ≤ x) : v.ownBlock ≠ some x ∧ ∀ g ∈ gs, g ≠ x := by
  refine ⟨fun e1 => ?_, fun g hg e1 => ?_⟩
  · have := (h.own.block x e1).2
    omega
  · obtain ⟨i, hi, rfl⟩ := List.getElem_of_mem hg
    have hM : i < M.length := by rw [← h.len]; exact hi
    have := (h.blk i _ _ (List.getElem?_eq_getElem hi) (List.getElem?_eq_getElem hM)).1.lt
    omega
theorem Mat.snoc (h : Mat w C e e2 v n gs M) {g : Nat} {r : List Nat} {v' : Value} (hown : Own w' C e v' (gs.map (rowV n) ++ [rowV n g])) (hg : Grew w w' v v') (hk : Blk w g e2 (r.map natV)) (hr : r.length = n) (hC : C ≤ g) (hf : v.ownBlock ≠ some g ∧ ∀ g' ∈ gs, g' ≠ g) :
    Mat w' C e e2 v' n (gs ++ [g]) (M ++ [r]) := by
  obtain ⟨hv, hnew⟩ := hf
  have hap : ∀ x, (x < w.heap.size) → v.ownBlock ≠ some x → v'.ownBlock ≠ some x := fun x hx hne e1 => by
    rcases hg.2 with h2 | h2
    · exact hne (h2 ▸ e1)
    · have := h2 x e1; omega
  have hold : ∀ (i x : Nat) (q : List Nat), gs[i]? = some x → M[i]? = some q → Blk w' x e2 (q.map natV) ∧ q.length = n := fun i x q hx hq =>
    ⟨(h.blk i x q hx hq).1.grown hg.1 (fun e1 => h.apart x (List.mem_of_getElem? hx) e1.symm), (h.blk i x q hx hq).2⟩
  refine ⟨by rw [List.map_append]; exact hown, by simp [h.len], fun i x q hx hq => ?_, fun x hx => ?_, fun x hx => ?_, ?_⟩
  · by_cases hi : i < gs.length
    · rw [List.getElem?_append_left hi] at hx
      rw [List.getElem?_append_left (by rw [← h.len]; exact hi)] at hq
      exact hold i x q hx hq
    · rw [List.getElem?_append_right (by omega)] at hx
      rw [List.getElem?_append_right (by rw [← h.len]; omega)] at hq
      have hi0 : i - gs.length = 0 := by
        rcases Nat.eq_zero_or_pos (i - gs.length) with h0 | h0
        · exact h0
        · rw [List.getElem?_eq_none (by simp; omega)] at hx; cases hx
      rw [hi0] at hx
      rw [← h.len, hi0] at hq
      simp at hx hq
      subst hx; subst hq
      exact ⟨hk.grown hg.1 (fun e1 => hv e1.symm), hr⟩
  · rcases List.mem_append.1 hx with hx | hx
    · exact h.lo x hx
    · rw [List.mem_singleton] at hx; rw [hx]; exact hC
  · rcases List.mem_append.1 hx with hx | hx
    · obtain ⟨i, hi, rfl⟩ := List.getElem_of_mem hx
      have hM : i < M.length := by rw [← h.len]; exact hi
      exact hap _ (h.blk i _ _ (List.getElem?_eq_getElem hi) (List.getElem?_eq_getElem hM)).1.lt (h.apart _ hx)
    · rw [List.mem_singleton] at hx; rw [hx]; exact hap g hk.lt hv
  · rw [List.nodup_append]
    exact ⟨h.nodup, by simp, fun a ha b hb => by rw [List.mem_singleton] at hb; rw [hb]; exact hnew a ha⟩
theorem Mat.get (h : Mat w C e e2 v n gs M) {a : Nat} (ha : a < M.length) :
    ∃ (ad : Addr) (g cap : Nat) (r : List Nat), v = .slice (some ad) M.length cap ∧ ad.block < w.heap.size ∧ gs[a]? = some g ∧ M[a]? = some r ∧ r.length = n ∧ w.cell? (ad.add a) = some (.slice (some ⟨g, 0, none⟩) n n) ∧ Blk w g e2 (r.map natV) ∧ C ≤ g ∧ v.ownBlock ≠ some g ∧ M.length ≤ cap ∧ cap ≤ maxLen := by
  obtain ⟨A, cap, hv, hc, hm, hr⟩ := Own.readsN h.own h.len
  obtain ⟨ad, g, e1, hb, hg, hcell⟩ := hr.get (k := a) ha
  obtain ⟨r, hra⟩ : ∃ r, M[a]? = some r := ⟨_, List.getElem?_eq_getElem ha⟩
  obtain ⟨k1, k2⟩ := h.blk a g r hg hra
  exact ⟨ad, g, cap, r, by rw [hv, e1], hb, hg, hra, k2, hcell, k1, h.lo g (List.mem_of_getElem? hg), h.apart g (List.mem_of_getElem? hg), hc, hm⟩
theorem Mat.set (h : Mat w C e e2 v n gs M) {a b g : Nat} (hg : gs[a]? = some g) : Mat (w.setCell ⟨g, b, none⟩ (natV 1)) C e e2 v n gs (Q.mset M a b) := by
  have hal : a < gs.length := (List.getElem?_eq_some_iff.1 hg).1
  have haM : a < M.length := by rw [← h.len]; exact hal
  have hgr : w.grownBy (w.setCell ⟨g, b, none⟩ (natV 1)) (some g) := xX (xG _ _)
  refine ⟨h.own.far hgr ?_, by unfold Q.mset; rw [List.length_set]; exact h.len, fun i x q hx hq => ?_, h.lo, h.apart, h.nodup⟩
  · exact .inr (h.apart g (List.mem_of_getElem? hg))
  · unfold Q.mset at hq
    by_cases hi : a = i
    · subst hi
      rw [hg] at hx; cases hx
      rw [List.getElem?_set_self haM] at hq
      cases hq
      obtain ⟨k1, k2⟩ := h.blk a g _ hg (List.getElem?_eq_getElem haM)
      have e1 : M.getD a [] = M[a] := by rw [List.getD_eq_getElem?_getD, List.getElem?_eq_getElem haM]; rfl
      rw [e1]
      refine ⟨?_, by rw [List.length_set]; exact k2⟩
      have := k1.set b (natV 1)
      rw [List.map_set]
      exact this
    · rw [List.getElem?_set_ne hi] at hq
      obtain ⟨k1, k2⟩ := h.blk i x q hx hq
      refine ⟨k1.other _ _ ?_, k2⟩
      intro e1
      have hil : i < gs.length := (List.getElem?_eq_some_iff.1 hx).1
      have h1 : gs[i]'hil = x := (List.getElem?_eq_some_iff.1 hx).2
      have h2 : gs[a]'hal = g := (List.getElem?_eq_some_iff.1 hg).2
      have h3 : gs[i]'hil = gs[a]'hal := by rw [h1, h2]; exact e1
      have hp := List.pairwise_iff_getElem.1 h.nodup
      rcases Nat.lt_or_gt_of_ne hi with hlt | hlt
      · exact hp a i hal hil hlt h3.symm
      · exact hp i a hil hal hlt h3
end
end Go.Proofs.Ytkhfolpffjihgaa
