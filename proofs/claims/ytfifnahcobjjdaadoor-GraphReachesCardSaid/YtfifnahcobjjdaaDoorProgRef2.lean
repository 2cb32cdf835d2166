/- The document's own telling of nodes, walked: Row, size, May. -/
import Derived.Test.YtfifnahcobjjdaaDoorProgRef1
import Derived.Test.YtfifnahcobjjdaaDoorPk16
namespace Go.Proofs.YtfifnahcobjjdaaDoor
open Go.RowKit

def rowsB : List ByteArray := [⟨#[45, 110, 45]⟩, ⟨#[103, 110, 45]⟩, ⟨#[103, 110, 45]⟩, ⟨#[108, 110, 45]⟩, ⟨#[108, 110, 45]⟩, ⟨#[102, 110, 115]⟩, ⟨#[115, 110, 45]⟩, ⟨#[102, 110, 45]⟩, ⟨#[45, 110, 110]⟩, ⟨#[45, 45, 45]⟩]
def rowB (k : Int) : ByteArray := if k < 0 ∨ 9 < k then ⟨#[]⟩ else rowsB.getD k.toNat ⟨#[]⟩
theorem kinds (k : Int) (h0 : 0 ≤ k) (h9 : k ≤ 9) : k = 0 ∨ k = 1 ∨ k = 2 ∨ k = 3 ∨ k = 4 ∨ k = 5 ∨ k = 6 ∨ k = 7 ∨ k = 8 ∨ k = 9 := by omega
theorem rowB_size (k : Int) (h0 : 0 ≤ k) (h9 : k ≤ 9) : (rowB k).size = 3 ∧ Q.row k ≠ [] := by
  rcases kinds k h0 h9 with h | h | h | h | h | h | h | h | h | h <;> subst h <;> decide
theorem rowB_full (k : Int) (h0 : 0 ≤ k) (h9 : k ≤ 9) : (rowB k).toList.isEmpty = false := by
  rcases kinds k h0 h9 with h | h | h | h | h | h | h | h | h | h <;> subst h <;> decide +kernel
theorem rowB_at (k : Int) (h0 : 0 ≤ k) (h9 : k ≤ 9) (i : Nat) (hi : i < 3) (hs : i < (rowB k).size) : (rowB k)[i].toNat = (Q.row k).getD i 0 := by
  have h3 : i = 0 ∨ i = 1 ∨ i = 2 := by omega
  rcases kinds k h0 h9 with h | h | h | h | h | h | h | h | h | h <;> subst h <;> rcases h3 with h | h | h <;> subst h <;> rfl

theorem pg_size : (Tryd.prog.info? 24).map (·.size) = some 4 := by kernel_rfl
end Go.Proofs.YtfifnahcobjjdaaDoor
