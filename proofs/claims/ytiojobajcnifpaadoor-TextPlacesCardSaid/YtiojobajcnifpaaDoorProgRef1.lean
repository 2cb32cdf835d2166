/- The document's own telling of programs, walked: Small, Succ, Row, size. -/
import Derived.Test.YtiojobajcnifpaaDoorPk8
import Derived.Test.YtiojobajcnifpaaDoorPk4
namespace Go.Proofs.YtiojobajcnifpaaDoor
open Go.RowKit

theorem pgA_is (p : Pg) : pgA p = .agg (pgC p).toArray := rfl
def ndC (x : Nd) : List Value := [.int .i64 x.kind, .int .i64 x.arg, .int .i64 x.next, .int .i64 x.alt]
/-- A boxed program's cells. -/
theorem pg_cells {w : World} {g : Nat} {t : TypeId} {p : Pg} (h : Blk w g t (pgC p)) :
    w.cell? ⟨g, 0, none⟩ = some (.int .i64 p.g) ∧ w.cell? ⟨g, 1, none⟩ = some (.int .i64 p.l) ∧ w.cell? ⟨g, 2, none⟩ = some (.int .i64 p.s) ∧ w.cell? ⟨g, 3, none⟩ = some (.slice p.A p.len p.cap) :=
  ⟨Blk.cell h 0, Blk.cell h 1, Blk.cell h 2, Blk.cell h 3⟩
theorem nd_cells {w : World} {g : Nat} {t : TypeId} {x : Nd} (h : Blk w g t (ndC x)) :
    w.cell? ⟨g, 0, none⟩ = some (.int .i64 x.kind) ∧ w.cell? ⟨g, 1, none⟩ = some (.int .i64 x.arg) ∧ w.cell? ⟨g, 2, none⟩ = some (.int .i64 x.next) ∧ w.cell? ⟨g, 3, none⟩ = some (.int .i64 x.alt) :=
  ⟨Blk.cell h 0, Blk.cell h 1, Blk.cell h 2, Blk.cell h 3⟩

set_option maxRecDepth 100000 in
set_option maxHeartbeats 800000 in
theorem ref_small (B : Nat) (p : Pg) (w : World) (hp : p.Ok w B) (hB : B ≤ w.heap.size) (r : Bool) (hr : Q.small p = r) :
    Calls Tryd.prog 12 #[pgA p] w fun e w' => e = .returned (.bool r) ∧ Below w.heap.size w w' := by
  have HP := kp hp; have HR := kp hr
  have hlen := hp.row.len
  have HLen := kp hlen
  have hlc := hp.lc; have hcm := hp.cm
  unfold maxLen at hcm
  have hcm2 : p.cap ≤ 9223372036854775807 := by omega
  clear hp hr hlen hcm
  rw [pgA_is]
  go_enter Tryd.func12, Tryd.ntmps12
  by_cases h40 : 40 < p.len
  · have HE : Kept (false = r) := kp <| by rw [← HR.out]; unfold Q.small; rw [HLen.out, decide_eq_false (by omega)]; rfl
    go_wp2_with ((with_reducible refine wpList_box_agg rfl 25 (.tmp 0) rfl (pgC p) rfl ?_); intro g1 w1 hg1 hk1 hw1; obtain ⟨hc0, hc1, hc2, hc3⟩ := pg_cells hk1; have HW1 := kp hw1; clear hg1 hk1 hw1)
    go_ret
    exact ⟨ret_bool HE.out, HW1.out⟩
  · have h40' : p.len ≤ 40 := by omega
    clear h40
    go_wp2_with ((with_reducible refine wpList_box_agg rfl 25 (.tmp 0) rfl (pgC p) rfl ?_); intro g1 w1 hg1 hk1 hw1; obtain ⟨hc0, hc1, hc2, hc3⟩ := pg_cells hk1; have HW1 := kp hw1; have HP1 := kp (HP.out.below (hw1.mono hB)); clear hg1 hk1 hw1)
    go_loop [3] (fun v3 => ∃ i : Nat, i ≤ p.len ∧ v3 = .int .i64 i ∧ ((p.fns.take i).all fun f => decide (f.nodes.length ≤ 100)) = true) (fun v3 => p.len - (intOf v3).toNat)
    case atStart => exact ⟨0, by omega, rfl, rfl⟩
    case round =>
      obtain ⟨i, hi, rfl, hall⟩ := hrel
      have HAll := kp hall
      clear hall
      by_cases hlt : i < p.len
      · obtain ⟨ad, f, e1, hab, hx, hok, hcf⟩ := HP1.out.fn hlt
        rw [e1] at hc3 ⊢
        have hfl := hok.nodes.1.len
        have hfc := hok.lc; have hfm := hok.cm
        unfold maxLen at hfm
        have hfm2 : f.len ≤ 9223372036854775807 := by omega
        have HN : Kept (((p.fns.take (i + 1)).all fun f => decide (f.nodes.length ≤ 100)) = decide (f.len ≤ 100)) := kp <| by rw [List.take_add_one, hx, List.all_append, HAll.out]; simp [hfl]
        have HNo : Kept (100 < f.len → false = r) := kp fun h => by
          rw [← HR.out]
          unfold Q.small
          have : (p.fns.all fun f => decide (f.nodes.length ≤ 100)) = false := by
            rw [List.all_eq_false]
            exact ⟨f, List.mem_of_getElem? hx, by simp [hfl]; omega⟩
          rw [this, Bool.and_false]
        clear hx hok hfm
        by_cases h100 : 100 < f.len
        · have HE := kp (HNo.out h100)
          go_wp2
          go_ret
          exact ⟨ret_bool HE.out, HW1.out⟩
        · have h100' : f.len ≤ 100 := by omega
          clear h100
          go_wp2
          go_round
          case rel => exact ⟨i + 1, by omega, by go_num, by rw [HN.out]; simpa using h100'⟩
          case measure => simp [intOf]; omega
      · have HE : Kept (true = r) := kp <| by
          have h1 := HAll.out
          rw [List.take_of_length_le (by rw [HLen.out]; omega)] at h1
          rw [← HR.out]; unfold Q.small; rw [HLen.out, decide_eq_true h40', h1]; rfl
        have hge : p.len ≤ i := by omega
        clear hlt
        go_wp2
        go_ret
        exact ⟨ret_bool HE.out, HW1.out⟩
end Go.Proofs.YtiojobajcnifpaaDoor
