/- Items by themselves, strings that are put together, how long what came in is. -/
import Derived.Test.YtgdnimhhhllgaaaDoorWireLaw1
import Derived.Test.YtgdnimhhhllgaaaDoorWireLong
import Derived.Laws.Concat
namespace Go.Proofs.YtgdnimhhhllgaaaDoor
open Go.RowKit

theorem strOf_append (a b : List Nat) : strOf a ++ strOf b = strOf (a ++ b) := by
  unfold strOf
  rw [ByteArray.mk_append_mk, List.map_append]
theorem add_str {P : Program} (t : TypeId) (w : World) (a b c : List Nat) (hc : a ++ b = c) (h : a.length + b.length ≤ 1000000) : (binOp .add t (.string (strOf a)) (.string (strOf b))).run P w = .ok (.string (strOf c)) w := by
  subst hc
  rw [← strOf_append]
  simp only [binOp]
  exact run_string_add w _ _ (by rw [strOf_len]; omega) (by rw [strOf_len]; omega)

theorem setB_le (m : Nat) : (R.setB m).length ≤ 170 := by
  have h1 : S.count m ≤ 32 := S.ids_len m 32
  have h2 : ∀ x ∈ S.ids m 32, x < 4294967296 := fun x hx => by have := ((S.ids_mem m 32 x).1 hx).1; omega
  have h3 : (V.row (S.ids m 32)).length ≤ 5 * S.count m := row_le _ h2
  have h4 := put_le (S.count m) (by omega)
  unfold R.setB
  rw [List.length_append]
  omega
/-- A call in a block of its own. -/
def itemC (x : Item) : List Value := [.int .u8 (x.do_ : Int), .int .i64 x.n, .slice x.A x.len x.cap, .int .u32 (x.m : Int)]
theorem item_zero : (Tryd.prog.info? 30).map (·.zero) = some (some (.agg [Value.int .u8 0, .int .i64 0, .slice none 0 0, .int .u32 0].toArray)) := by kernel_rfl
theorem item_size : (Tryd.prog.info? 30).map (·.size) = some 4 := by kernel_rfl
theorem item_ones (x : Item) : ∀ u ∈ itemC x, u.oneCell' = true := by
  intro u hu
  simp only [itemC, List.mem_cons, List.not_mem_nil, or_false] at hu
  rcases hu with h | h | h | h <;> subst h <;> rfl
theorem item_cells {w : World} {g : Nat} {x : Item} (h : Blk w g 30 (itemC x)) :
    w.cell? ⟨g, 0, none⟩ = some (.int .u8 (x.do_ : Int)) ∧ w.cell? ⟨g, 1, none⟩ = some (.int .i64 x.n) ∧ w.cell? ⟨g, 2, none⟩ = some (.slice x.A x.len x.cap) ∧ w.cell? ⟨g, 3, none⟩ = some (.int .u32 (x.m : Int)) :=
  ⟨h.cell 0, h.cell 1, h.cell 2, h.cell 3⟩

/-- If all is short each part is. -/
theorem part_short {l : List Item} {i : Nat} {x : Item} (h : tot l ≤ 600) (hx : l[i]? = some x) : x.len ≤ 600 := by
  have h1 := sum_snoc l i x hx
  have h2 := sum_take l (i + 1)
  unfold tot at h
  have h3 : partLen x = min x.len 601 := rfl
  omega
theorem tot_len {l : List Item} (h : tot l ≤ 600) : l.length ≤ 600 := by unfold tot at h; omega
theorem sum_short {l : List Item} {i : Nat} {x : Item} (h : tot l ≤ 600) (hx : l[i]? = some x) : ((l.take (i + 1)).map partLen).sum = ((l.take i).map partLen).sum + x.len ∧ ((l.take (i + 1)).map partLen).sum ≤ 600 := by
  have h1 := sum_snoc l i x hx
  have h2 := sum_take l (i + 1)
  have h3 := part_short h hx
  have h4 : partLen x = min x.len 601 := rfl
  unfold tot at h
  omega
end Go.Proofs.YtgdnimhhhllgaaaDoor
