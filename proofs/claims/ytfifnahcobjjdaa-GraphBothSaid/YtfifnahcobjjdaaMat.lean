/- A matrix that the call made: a slice of rows, each in a block of its own. -/
import Derived.Test.YtfifnahcobjjdaaPk1
import Derived.Test.YtfifnahcobjjdaaArr2
namespace Go.Proofs.Ytfifnahcobjjdaa
open Go.RowKit

def rowV (n : Nat) (g : Nat) : Value := .slice (some ⟨g, 0, none⟩) n n
structure Mat (w : World) (C : Nat) (e e2 : TypeId) (v : Value) (n : Nat) (gs : List Nat) (M : List (List Nat)) : Prop where
  own : Own w C e v (gs.map (rowV n))
  len : gs.length = M.length
  blk : ∀ (i g : Nat) (r : List Nat), gs[i]? = some g → M[i]? = some r → Blk w g e2 (r.map natV) ∧ r.length = n
  lo : ∀ g ∈ gs, C ≤ g
  apart : ∀ g ∈ gs, v.ownBlock ≠ some g
  nodup : gs.Nodup
section
variable {w w' : World} {C : Nat} {e e2 : TypeId} {v : Value} {n : Nat} {gs : List Nat} {M : List (List Nat)}
theorem Mat.nil (w : World) (C : Nat) (e e2 : TypeId) (n : Nat) : Mat w C e e2 (.slice none 0 0) n [] [] :=
  ⟨Own.nil _ _ _, rfl, fun i g r h => by simp at h, by simp, by simp, List.nodup_nil⟩
theorem Mat.below (h : Mat w C e e2 v n gs M) (hb : Below w.heap.size w w') : Mat w' C e e2 v n gs M :=
  ⟨h.own.below hb (Nat.le_refl _), h.len, fun i g r hg hr => ⟨(h.blk i g r hg hr).1.below hb (h.blk i g r hg hr).1.lt, (h.blk i g r hg hr).2⟩, h.lo, h.apart, h.nodup⟩
theorem Mat.drewN (h : Mat w C e e2 v n gs M) (k : Nat) : Mat (w.drewN k) C e e2 v n gs M := h.below (below_drewN (Below.refl _ _) k)
theorem Mat.less (h : Mat w C e e2 v n gs M) {C' : Nat} (hC : C' ≤ C) : Mat w C' e e2 v n gs M :=
  ⟨h.own.less hC, h.len, h.blk, fun g hg => Nat.le_trans hC (h.lo g hg), h.apart, h.nodup⟩
theorem Mat.fresh (h : Mat w C e e2 v n gs M) {x : Nat} (hx : w.heap.size ≤ x) : v.ownBlock ≠ some x ∧ ∀ g ∈ gs, g ≠ x := by
  refine ⟨fun e1 => ?_, fun g hg e1 => ?_⟩
  · have := (h.own.block x e1).2
    omega
  · obtain ⟨i, hi, rfl⟩ := List.getElem_of_mem hg
    have hM : i < M.length := by rw [← h.len]; exact hi
    have := (h.blk i _ _ (List.getElem?_eq_getElem hi) (List.getElem?_eq_getElem hM)).1.lt
    omega
/-- A row more. -/
theorem Mat.snoc (h : Mat w C e e2 v n gs M) {g : Nat} {r : List Nat} {v' : Value} (hown : Own w' C e v' (gs.map (rowV n) ++ [rowV n g])) (hg : Grew w w' v v') (hk : Blk w g e2 (r.map natV)) (hr : r.length = n) (hC : C ≤ g) (hf : v.ownBlock ≠ some g ∧ ∀ g' ∈ gs, g' ≠ g) :
    Mat w' C e e2 v' n (gs ++ [g]) (M ++ [r]) := by
  obtain ⟨hv, hnew⟩ := hf
  have hap : ∀ x, (x < w.heap.size) → v.ownBlock ≠ some x → v'.ownBlock ≠ some x := fun x hx hne e1 => by
    rcases hg.2 with h2 | h2
    · exact hne (h2 ▸ e1)
    · have := h2 x e1; omega
  have hold : ∀ (i x : Nat) (q : List Nat), gs[i]? = some x → M[i]? = some q → Blk w' x e2 (q.map natV) ∧ q.length = n := fun i x q hx hq =>
    ⟨(h.blk i x q hx hq).1.grown hg.1 (fun e1 => h.apart x (List.mem_of_getElem? hx) e1.symm), (h.blk i x q hx hq).2⟩
  refine ⟨by rw [List.map_append]; exact hown, by simp [h.len], fun i x q hx hq => ?_, fun x hx => ?_, fun x hx => ?_, ?_⟩
  · by_cases hi : i < gs.length
    · rw [List.getElem?_append_left hi] at hx
      rw [List.getElem?_append_left (by rw [← h.len]; exact hi)] at hq
      exact hold i x q hx hq
    · rw [List.getElem?_append_right (by omega)] at hx
      rw [List.getElem?_append_right (by rw [← h.len]; omega)] at hq
      have hi0 : i - gs.length = 0 := by
        rcases Nat.eq_zero_or_pos (i - gs.length) with h0 | h0
        · exact h0
        · rw [List.getElem?_eq_none (by simp; omega)] at hx; cases hx
      rw [hi0] at hx
      rw [← h.len, hi0] at hq
      simp at hx hq
      subst hx; subst hq
      exact ⟨hk.grown hg.1 (fun e1 => hv e1.symm), hr⟩
  · rcases List.mem_append.1 hx with hx | hx
    · exact h.lo x hx
    · rw [List.mem_singleton] at hx; rw [hx]; exact hC
  · rcases List.mem_append.1 hx with hx | hx
    · obtain ⟨i, hi, rfl⟩ := List.getElem_of_mem hx
      have hM : i < M.length := by rw [← h.len]; exact hi
      exact hap _ (h.blk i _ _ (List.getElem?_eq_getElem hi) (List.getElem?_eq_getElem hM)).1.lt (h.apart _ hx)
    · rw [List.mem_singleton] at hx; rw [hx]; exact hap g hk.lt hv
  · rw [List.nodup_append]
    exact ⟨h.nodup, by simp, fun a ha b hb => by rw [List.mem_singleton] at hb; rw [hb]; exact hnew a ha⟩
/-- Row a's cell, and its block. -/
theorem Mat.get (h : Mat w C e e2 v n gs M) {a : Nat} (ha : a < M.length) :
    ∃ (ad : Addr) (g cap : Nat) (r : List Nat), v = .slice (some ad) M.length cap ∧ ad.block < w.heap.size ∧ gs[a]? = some g ∧ M[a]? = some r ∧ r.length = n ∧ w.cell? (ad.add a) = some (.slice (some ⟨g, 0, none⟩) n n) ∧ Blk w g e2 (r.map natV) ∧ C ≤ g ∧ v.ownBlock ≠ some g ∧ M.length ≤ cap ∧ cap ≤ maxLen := by
  obtain ⟨A, cap, hv, hc, hm, hr⟩ := Own.readsN h.own h.len
  obtain ⟨ad, g, e1, hb, hg, hcell⟩ := hr.get (k := a) ha
  obtain ⟨r, hra⟩ : ∃ r, M[a]? = some r := ⟨_, List.getElem?_eq_getElem ha⟩
  obtain ⟨k1, k2⟩ := h.blk a g r hg hra
  exact ⟨ad, g, cap, r, by rw [hv, e1], hb, hg, hra, k2, hcell, k1, h.lo g (List.mem_of_getElem? hg), h.apart g (List.mem_of_getElem? hg), hc, hm⟩
/-- One more entry set. -/
theorem Mat.set (h : Mat w C e e2 v n gs M) {a b g : Nat} (hg : gs[a]? = some g) : Mat (w.setCell ⟨g, b, none⟩ (natV 1)) C e e2 v n gs (Q.mset M a b) := by

  have hal : a < gs.length := (List.getElem?_eq_some_iff.1 hg).1
  have haM : a < M.length := by rw [← h.len]; exact hal
  have hgr : w.grownBy (w.setCell ⟨g, b, none⟩ (natV 1)) (some g) := grown_set (grown_refl _ _)
  refine ⟨h.own.far hgr ?_, by unfold Q.mset; rw [List.length_set]; exact h.len, fun i x q hx hq => ?_, h.lo, h.apart, h.nodup⟩
  · exact .inr (h.apart g (List.mem_of_getElem? hg))
  · unfold Q.mset at hq
    by_cases hi : a = i
    · subst hi
      rw [hg] at hx; cases hx
      rw [List.getElem?_set_self haM] at hq
      cases hq
      obtain ⟨k1, k2⟩ := h.blk a g _ hg (List.getElem?_eq_getElem haM)
      have e1 : M.getD a [] = M[a] := by rw [List.getD_eq_getElem?_getD, List.getElem?_eq_getElem haM]; rfl
      rw [e1]
      refine ⟨?_, by rw [List.length_set]; exact k2⟩
      have := k1.set b (natV 1)
      rw [List.map_set]
      exact this
    · rw [List.getElem?_set_ne hi] at hq
      obtain ⟨k1, k2⟩ := h.blk i x q hx hq
      refine ⟨k1.other _ _ ?_, k2⟩
      intro e1
      have hil : i < gs.length := (List.getElem?_eq_some_iff.1 hx).1
      have h1 : gs[i]'hil = x := (List.getElem?_eq_some_iff.1 hx).2
      have h2 : gs[a]'hal = g := (List.getElem?_eq_some_iff.1 hg).2
      have h3 : gs[i]'hil = gs[a]'hal := by rw [h1, h2]; exact e1
      have hp := List.pairwise_iff_getElem.1 h.nodup
      rcases Nat.lt_or_gt_of_ne hi with hlt | hlt
      · exact hp a i hal hil hlt h3.symm
      · exact hp i a hil hal hlt h3
end
end Go.Proofs.Ytfifnahcobjjdaa
