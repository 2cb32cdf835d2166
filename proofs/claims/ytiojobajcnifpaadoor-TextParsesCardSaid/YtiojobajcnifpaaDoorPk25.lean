/- SetP2, WireRef4, WireP2, in one text. -/
import Derived.Test.YtiojobajcnifpaaDoorPk24
import Derived.Test.YtiojobajcnifpaaDoorPk4
import Derived.Test.YtiojobajcnifpaaDoorPk2
import Derived.Test.YtiojobajcnifpaaDoorPk6
import Derived.Test.YtiojobajcnifpaaDoorRows
import Derived.Test.YtiojobajcnifpaaDoorPk1
import Derived.Test.YtiojobajcnifpaaDoorPk3
import Derived.Deep.QuietTactic
import Derived.BigQuiet
import Derived.Deep.RegionWith
/- The program's functions on sets, walked: TrailingZeros32, Least, Count, List. -/
namespace Go.Proofs.YtiojobajcnifpaaDoor
open Go.RowKit

theorem mul_mod_div (p a b c : Nat) (A B C : Int) (hA : A = (a : Int)) (hB : B = (b : Int)) (hC : C = (c : Int)) : ((p : Int) * A % B / C).toNat = p * a % b / c := by
  rw [hA, hB, hC, ← Int.natCast_mul, ← Int.natCast_emod, ← Int.natCast_ediv, Int.toNat_natCast]
/-- The table by which the lowest bit is told. -/
def bruijn : List Nat := [0, 1, 28, 2, 29, 14, 24, 3, 30, 22, 20, 15, 25, 17, 4, 8, 31, 27, 13, 23, 21, 19, 16, 7, 26, 12, 18, 6, 11, 5, 10, 9]
/-- The world holds that table. -/
def Tab (w : World) : Prop := Row byteV w 1 (some ⟨0, 0, none⟩) 32 bruijn
theorem Tab.below {w w' : World} {B : Nat} (h : Tab w) (hb : Below B w w') (hB : 1 ≤ B) : Tab w' := Row.below h (hb.mono hB)
theorem Tab.size {w : World} (h : Tab w) : 1 ≤ w.heap.size := by
  obtain ⟨ad, x, e, hb, _, hc⟩ := Row.get h (k := 0) (by omega)
  have := cell_block hc
  omega
theorem bruijn_at : ∀ k, k ≤ 31 → bruijn[2 ^ k * 125613361 % 4294967296 / 134217728]? = some k ∧ 2 ^ k * 125613361 % 4294967296 / 134217728 < 32 := by decide
end Go.Proofs.YtiojobajcnifpaaDoor

/- The document's own bytes of a set, walked. -/
namespace Go.Proofs.YtiojobajcnifpaaDoor
open Go.RowKit

theorem row_le (l : List Nat) (h : ∀ x ∈ l, x < 4294967296) : (V.row l).length ≤ 5 * l.length := by rw [V.row_len l h]; exact V.sizes_le l
end Go.Proofs.YtiojobajcnifpaaDoor

/- The program's writer, walked: Set, Bytes; a new reader. -/
namespace Go.Proofs.YtiojobajcnifpaaDoor
open Go.RowKit

theorem Tab.heldAt {w w' : World} {S : Nat → Prop} (h : Tab w) (hb : Held S w w') (h0 : S 0) : Tab w' := Row.heldAt h hb fun ad _ e => by cases e; exact h0

set_option maxRecDepth 100000 in
set_option maxHeartbeats 800000 in
theorem wr_bytes (K : Nat → Prop) (g : Nat) (bs : List Nat) (w : World) (hk : Wr w K g bs) (hbs : bs.length ≤ 1000000) :
    Calls Tryd.prog 36 #[.pointer (some ⟨g, 0, none⟩)] w fun e w' => ∃ v, e = .returned v ∧ Own w' w.heap.size 5 v (bs.map byteV) ∧ Wr w' K g bs ∧ Below w.heap.size w w' := by
  have HK := kp hk
  obtain ⟨v, hblk, hown, hne, hS1, hS2, hS3⟩ := hk
  obtain ⟨A1, c1, rfl, hc1, hm1, hr1⟩ := hown.bytes
  have hc : w.cell? ⟨g, 0, none⟩ = some (.slice A1 bs.length c1) := hblk.cell 0
  have HR := kp hr1
  clear hblk hown hne hS1 hS2 hS3 hr1
  go_enter Tryd.func36, Tryd.ntmps36
  go_wp2_with (go_at_call 50; go_must (refine (clone_any _ A1 _ c1 bs w HR.out hbs (Nat.le_refl _)).mono ?_); rintro e w2 ⟨v2, rfl, hown2, hb2⟩; have HO2 := kp hown2; have HB2 := kp hb2; clear hown2 hb2)
  go_ret
  exact ⟨_, rfl, HO2.out, HK.out.below HB2.out fun k h => .inl h, HB2.out⟩
end Go.Proofs.YtiojobajcnifpaaDoor
