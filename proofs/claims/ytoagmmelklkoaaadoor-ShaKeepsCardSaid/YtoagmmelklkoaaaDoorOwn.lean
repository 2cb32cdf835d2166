/- A slice of bytes that the call made: its block. -/
import Derived.Test.YtoagmmelklkoaaaDoorSlice
namespace Go.Proofs.YtoagmmelklkoaaaDoor
open Go.RowKit

theorem Own.split {w : World} {B n : Nat} {e : TypeId} {v : Value} {bs : List Nat} (h : Own w B e v (bs.map byteV)) (hn : bs.length = n) :
    ∃ (A : Option Addr) (c : Nat), v = .slice A n c ∧ n ≤ c ∧ c ≤ maxLen ∧ Row byteV w w.heap.size A n bs ∧ (∀ ad : Addr, A = some ad → B ≤ ad.block ∧ ad.block < w.heap.size) ∧
      (0 < n → ∃ (g : Nat) (cur : List Value), A = some ⟨g, 0, none⟩ ∧ Blk w g e cur ∧ n ≤ cur.length ∧ ∀ (k x : Nat), bs[k]? = some x → cur[k]? = some (byteV x)) := by
  obtain ⟨A, c, rfl, hc, hm, hr⟩ := h.bytesN hn
  refine ⟨A, c, rfl, hc, hm, hr, fun ad e1 => ?_, fun h0 => ?_⟩
  · subst e1
    exact h.block ad.block rfl
  · rcases h.2 with ⟨hv, hz⟩ | ⟨g, cap, cur, hv, _, hg, _, _, _, ht⟩
    · rw [List.length_map] at hz; omega
    · injection hv with e1 e2 e3
      subst e1
      refine ⟨g, cur.toList, rfl, by unfold Blk; simpa using hg, ?_, fun k x hx => ?_⟩
      · have := congrArg List.length ht
        rw [List.length_take, List.length_map] at this
        omega
      · have hk : k < n := by rw [← hn]; exact (List.getElem?_eq_some_iff.1 hx).1
        have h2 : (List.map byteV bs)[k]? = some (byteV x) := by rw [List.getElem?_map, hx]; rfl
        rw [← ht, List.getElem?_take, List.length_map, hn, Nat.mul_one, if_pos hk] at h2
        exact h2
end Go.Proofs.YtoagmmelklkoaaaDoor
