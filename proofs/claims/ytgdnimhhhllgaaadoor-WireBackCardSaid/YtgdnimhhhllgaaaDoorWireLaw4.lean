/- The bytes of all calls: how many, and that they are bytes. -/
import Derived.Test.YtgdnimhhhllgaaaDoorWireLaw3
import Derived.Test.YtgdnimhhhllgaaaDoorWireMath2
namespace Go.Proofs.YtgdnimhhhllgaaaDoor
open Go.RowKit

theorem setB_byte (m : Nat) : ∀ y ∈ R.setB m, y < 256 := by
  have hc : S.count m ≤ 32 := S.ids_len m 32
  intro y hy
  unfold R.setB at hy
  rcases List.mem_append.1 hy with hy | hy
  · exact V.put_byte _ (by omega) y hy
  · unfold V.row at hy
    obtain ⟨x, hx, hyx⟩ := List.mem_flatMap.1 hy
    have := ((S.ids_mem m 32 x).1 hx).1
    exact V.put_byte x (by omega) y hyx
theorem itemB_byte (x : Item) (hb : ∀ y ∈ x.bs, y < 256) (hl : x.len < 4294967296) : ∀ y ∈ itemB x, y < 256 := by
  intro y hy
  unfold itemB at hy
  split at hy
  · exact V.put_byte _ (by have := low16_lt x.n; omega) y hy
  · split at hy
    · exact hb y hy
    · split at hy
      · rcases List.mem_append.1 hy with hy | hy
        · exact V.put_byte _ hl y hy
        · exact hb y hy
      · exact setB_byte _ y hy
theorem itemB_len (x : Item) (hb : x.bs.length = x.len) (hl : x.len < 4294967296) : (itemB x).length ≤ 175 + x.len := by
  have h0 := put_le (low16 x.n) (by have := low16_lt x.n; omega)
  have h1 := put_le x.len hl
  have h2 := setB_le x.m
  unfold itemB
  split
  · omega
  · split
    · omega
    · split
      · rw [List.length_append]; omega
      · omega
theorem allB_le {l : List Item} (h : tot l ≤ 600) (hr : ∀ x ∈ l, x.bs.length = x.len) : ∀ i, i ≤ l.length → (allB (l.take i)).length ≤ 175 * i + ((l.take i).map partLen).sum
  | 0, _ => by simp [allB]
  | i + 1, hi => by
    have ih := allB_le h hr i (by omega)
    have hx : l[i]? = some l[i] := List.getElem?_eq_getElem (by omega)
    have h1 := part_short h hx
    have h2 := (sum_short h hx).1
    have h3 := itemB_len l[i] (hr _ (List.getElem_mem _)) (by omega)
    rw [allB_snoc l i _ hx, List.length_append, h2]
    omega
/-- What is left over is told at the end. -/
theorem pd_done_left (g : Nat) (A : Option Addr) (n c po : Nat) (w : World) (hk : Pd w g A n c ⟨po, 0, 0⟩) (hlt : po < n) (hn : n ≤ 1000000) :
    Calls Tryd.prog 27 #[.pointer (some ⟨g, 0, none⟩)] w fun r w' => r = .returned (.bool false) ∧ Pd w' g A n c ⟨po, po, 7⟩ ∧ w.grownBy w' (some g) :=
  pd_done_b g A n c ⟨po, 0, 0⟩ w hk (Nat.le_of_lt hlt) hn ⟨po, po, 7⟩ (by rw [if_pos ⟨rfl, hlt⟩]; unfold R.fail; rw [if_pos rfl]) false rfl
end Go.Proofs.YtgdnimhhhllgaaaDoor
