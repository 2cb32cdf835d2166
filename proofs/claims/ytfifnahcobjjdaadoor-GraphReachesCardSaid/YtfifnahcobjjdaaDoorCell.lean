/- One cell of a block that is known whole: read, written, at a world that is a letter. -/
import Derived.Test.YtfifnahcobjjdaaDoorMem
import Derived.Test.YtfifnahcobjjdaaDoorKit
import Derived.BigQuiet
import Derived.Deep.QuietTactic
namespace Go.Proofs.YtfifnahcobjjdaaDoor
open Go.RowKit

theorem add_start (g k : Nat) : (⟨g, 0, none⟩ : Addr).add k = ⟨g, k, none⟩ := by unfold Addr.add; split <;> simp_all
/-- b[l:], as the walk spells it. -/
theorem Row.cutOpt {α : Type} {f : α → Value} {w : World} {B n c l : Nat} {A : Option Addr} {xs : List α} (h : Row f w B A n xs) (hl : l ≤ n) (hc : n ≤ c) :
    Row f w B (if c = l then A else A.map (·.add l)) (n - l) (xs.drop l) := by
  split
  · exact Row.none_ (List.drop_of_length_le (by rw [h.len]; omega)) (by omega)
  · cases A with
    | none =>
      have hn0 : n = 0 := by
        rcases Nat.eq_zero_or_pos n with h0 | h0
        · exact h0
        · obtain ⟨_, h, _⟩ := h.cells h0; cases h
      exact Row.none_ (List.drop_of_length_le (by rw [h.len]; omega)) (by omega)
    | some a0 => exact h.cutAt hl
theorem Row.drewN {α : Type} {f : α → Value} {w : World} {B : Nat} {A : Option Addr} {n : Nat} {l : List α} (h : Row f w B A n l) (k : Nat) : Row f (w.drewN k) B A n l := h.keep fun _ _ => rfl
/-- Below block B nothing turned, as g lies at B or above. -/
theorem Row.turned {α : Type} {f : α → Value} {w w' : World} {B n g : Nat} {A : Option Addr} {l : List α} (h : Row f w B A n l) (hg : w.grownBy w' (some g)) (hB : B ≤ w.heap.size) (hBg : B ≤ g) : Row f w' B A n l :=
  h.keep fun p hp => World.cell?_of_block (w := w) (hg.block p.block (by omega) (by intro e; cases e; omega))
theorem quiet_eq {P : Program} {f : FuncId} {args : Array Value} {w : World} {n : Nat} {v : Value}
    (h : Calls P f args (w.drewN n) fun e w' => e = .returned v ∧ w.drewN n = w') : Calls P f args (w.drewN n) fun e w'' => e = .returned v ∧ ∃ m, w'' = w.drewN m :=
  h.mono fun _ _ ⟨he, hm⟩ => ⟨he, n, hm.symm⟩
end Go.Proofs.YtfifnahcobjjdaaDoor
