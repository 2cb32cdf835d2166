/- The program's writer, walked: Set, Bytes; a new reader. -/
import Derived.Test.YtdnhfpphjpnklaaDoorWireP1
import Derived.Test.YtdnhfpphjpnklaaDoorPk7
namespace Go.Proofs.YtdnhfpphjpnklaaDoor
open Go.RowKit

theorem Tab.heldAt {w w' : World} {S : Nat → Prop} (h : Tab w) (hb : Held S w w') (h0 : S 0) : Tab w' := Row.heldAt h hb fun ad _ e => by cases e; exact h0

set_option maxRecDepth 100000 in
set_option maxHeartbeats 800000 in
theorem wr_bytes (K : Nat → Prop) (g : Nat) (bs : List Nat) (w : World) (hk : Wr w K g bs) (hbs : bs.length ≤ 1000000) :
    Calls Tryd.prog 16 #[.pointer (some ⟨g, 0, none⟩)] w fun e w' => ∃ v, e = .returned v ∧ Own w' w.heap.size 5 v (bs.map byteV) ∧ Wr w' K g bs ∧ Below w.heap.size w w' := by
  have HK := kp hk
  obtain ⟨v, hblk, hown, hne, hS1, hS2, hS3⟩ := hk
  obtain ⟨A1, c1, rfl, hc1, hm1, hr1⟩ := hown.bytes
  have hc : w.cell? ⟨g, 0, none⟩ = some (.slice A1 bs.length c1) := hblk.cell 0
  have HR := kp hr1
  clear hblk hown hne hS1 hS2 hS3 hr1
  go_enter Tryd.func16, Tryd.ntmps16
  go_wp2_with (go_at_call 30; go_must (refine (clone_any _ A1 _ c1 bs w HR.out hbs (Nat.le_refl _)).mono ?_); rintro e w2 ⟨v2, rfl, hown2, hb2⟩; have HO2 := kp hown2; have HB2 := kp hb2; clear hown2 hb2)
  go_ret
  exact ⟨_, rfl, HO2.out, HK.out.below HB2.out fun k h => .inl h, HB2.out⟩
end Go.Proofs.YtdnhfpphjpnklaaDoor
