/- What the statements of race have in common. -/
import Derived.Test.YticifjmkocgipaaPk30
import Derived.Test.YticifjmkocgipaaPk29
import Derived.Test.YticifjmkocgipaaPk15
import Derived.Test.YticifjmkocgipaaPk20
import Derived.Test.YticifjmkocgipaaPk31
namespace Go.Proofs.Yticifjmkocgipaa
open Go.RowKit

theorem picks_up {w w' : World} {A : Option Addr} {n : Nat} {l : List (Int × Bool)} (h : Picks w w.heap.size A n l) (hb : Below w.heap.size w w') : Picks w' w'.heap.size A n l :=
  ⟨(h.1.keep (fun _ hp => hb.cell hp)).more hb.size, h.2⟩
theorem held_and (o : List Nat) {i j : Nat} (h : i ≠ j) : bits .and .u32 ((M.heldTo o i 16 : Nat) : Int) ((M.heldTo o j 16 : Nat) : Int) = 0 := by
  have h1 := M.held_lt o i 16
  have h2 := M.held_lt o j 16
  rw [u32_and_nat _ _ (by omega) (by omega), M.held_two o h]; rfl
/-- What First's answer says. -/
theorem first_cases {p : Pg} {c : M.Cf} {x y z : Int} {b : Bool} (h : M.FirstIs p c x y z (if b = true then 1 else 0)) :
    (b = false ∧ x = 0 ∧ y = 0 ∧ z = 0 ∧ ∀ g, M.pair p c 0 1 g = false) ∨ (b = true ∧ ∃ i j : Nat, x = (i : Int) ∧ y = (j : Int) ∧ i < j ∧ j < c.ths.length ∧ M.pair p c (i : Int) (j : Int) z = true) := by
  rcases h with ⟨h1, i, j, hx, hy, hz, hij, hj, hn, _⟩ | ⟨h0, hx, hy, hz, hn⟩
  · refine .inr ⟨?_, i, j, hx, hy, hij, hj, ?_⟩
    · cases b with
      | true => rfl
      | false => exact absurd h1 (by decide)
    · unfold M.NoPair at hn
      rw [hz]
      cases hp : M.pair p c (i : Int) (j : Int) (M.acc p c (i : Int)).1 with
      | true => rfl
      | false => exact absurd hp hn
  · refine .inl ⟨?_, hx, hy, hz, fun g => ?_⟩
    · cases b with
      | false => rfl
      | true => exact absurd h0 (by decide)
    · cases hp : M.pair p c 0 1 g with
      | false => rfl
      | true =>
        have h2 := M.pair_is.1 hp
        have h3 := M.pair_two hp
        have h4 := hn 0 1 (by omega) h3
        unfold M.NoPair at h4
        have h5 : M.pair p c 0 1 (M.acc p c 0).1 = false := h4
        rw [h2.2.2.2.2.1, hp] at h5
        exact absurd h5 (by decide)
/-- A config behind a step, while variables of nodes are filled. -/
def TFact.steppedN (K : Nat) (y : Nd) (c : M.Cf) : TFact (Fill K 56 (nodeGood y)) :=
  ⟨fun v W => ∃ q', v = pcA q' ∧ Mine W K q' ∧ q'.cf = c, fun _ _ _ hf ⟨q', h1, h2, h3⟩ => ⟨q', h1, h2.keeps hf.keeps (by decide) (by decide), h3⟩⟩
/-- Where the one of thread t stands. -/
theorem touches_at {p : Pg} {c : M.Cf} {t n : Nat} (ht : t < n) (hp : 0 < (M.acc p c (t : Int)).2) : (touchesTo p c n)[(touchesTo p c t).length]? = some (tcOf p c t) := by
  induction n with
  | zero => omega
  | succ n ih =>
    by_cases e : t = n
    · subst e
      rw [touches_yes hp, List.getElem?_append_right (Nat.le_refl _), Nat.sub_self]; rfl
    · have h := ih (by omega)
      by_cases hn : 0 < (M.acc p c (n : Int)).2
      · rw [touches_yes hn, List.getElem?_append_left (List.getElem?_eq_some_iff.1 h).1]; exact h
      · rw [touches_no hn]; exact h
/-- A slice of touches. -/
def Fact.touches (l : List Tc) : Fact :=
  ⟨fun v W => ∃ A c, v = .slice A l.length c ∧ l.length ≤ c ∧ c ≤ maxLen ∧ Recs 3 tcV W W.heap.size A l.length l, fun _ _ _ hb ⟨A, c, h1, h2, h3, h4⟩ => ⟨A, c, h1, h2, h3, (h4.below hb).more hb.size⟩⟩
theorem touch_stays {p : Pg} {c d : M.Cf} {n m : Nat} (hm : d.ths.length = m) {x : Tc} (hx : x ∈ touchesTo p c n) (hs : 0 < (M.acc p c (x.who : Int)).2 → M.acc p d (x.who : Int) = M.acc p c (x.who : Int)) : x ∈ touchesTo p d m := by
  obtain ⟨k, hk, hp, rfl⟩ := (touch_mem p c x n).1 hx
  have e : M.acc p d (k : Int) = M.acc p c (k : Int) := hs hp
  have hp2 : 0 < (M.acc p d (k : Int)).2 := by rw [e]; exact hp
  have hl := M.lives_lt_int (M.acc_pos hp2).1
  refine (touch_mem p d _ m).2 ⟨k, by omega, hp2, ?_⟩
  unfold tcOf
  rw [e]
end Go.Proofs.Yticifjmkocgipaa
