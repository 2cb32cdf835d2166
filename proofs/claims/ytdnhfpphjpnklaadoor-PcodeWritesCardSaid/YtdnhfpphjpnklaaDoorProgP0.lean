/- The program's telling of nodes: room and among, walked; what they say together is what the document says. -/
import Derived.Test.YtdnhfpphjpnklaaDoorPk20
import Derived.BigQuiet
namespace Go.Proofs.YtdnhfpphjpnklaaDoor
open Go.RowKit

/-- How many there are of what a kind names. -/
def roomQ (g l s f k n : Int) : Int × Int × Int :=
  if k = 0 then (1, n, 1)
  else if k = 1 then (g, n, 1)
  else if k = 2 then (g, n, 1)
  else if k = 3 then (l, n, 1)
  else if k = 4 then (l, n, 1)
  else if k = 5 then (f, n, s)
  else if k = 6 then (s, n, 1)
  else if k = 7 then (f, n, 1)
  else if k = 8 then (1, n, n)
  else if k = 9 then (1, 1, 1)
  else (0, 0, 0)
theorem room_at (g l s f n : Int) : roomQ g l s f 0 n = (1, n, 1) ∧ roomQ g l s f 1 n = (g, n, 1) ∧ roomQ g l s f 2 n = (g, n, 1) ∧ roomQ g l s f 3 n = (l, n, 1) ∧ roomQ g l s f 4 n = (l, n, 1) ∧ roomQ g l s f 5 n = (f, n, s) ∧ roomQ g l s f 6 n = (s, n, 1) ∧ roomQ g l s f 7 n = (f, n, 1) ∧ roomQ g l s f 8 n = (1, n, n) ∧ roomQ g l s f 9 n = (1, 1, 1) := by
  refine ⟨rfl, rfl, rfl, rfl, rfl, rfl, rfl, rfl, rfl, rfl⟩
theorem room_no (g l s f k n : Int) (h : k < 0 ∨ 9 < k) : roomQ g l s f k n = (0, 0, 0) := by
  unfold roomQ
  rw [if_neg (by omega), if_neg (by omega), if_neg (by omega), if_neg (by omega), if_neg (by omega), if_neg (by omega), if_neg (by omega), if_neg (by omega), if_neg (by omega), if_neg (by omega)]
theorem range3_all (q : Nat → Bool) : (List.range 3).all q = (q 0 && (q 1 && (q 2 && true))) := rfl
/-- A node may be just if its three numbers are among so many. -/
theorem may_room (g l s f : Int) (x : Nd) (nodes : Int) {a b c : Int} (h : roomQ g l s f x.kind (max nodes 1) = (a, b, c)) :
    Q.may g l s f x nodes = (decide (0 ≤ x.arg ∧ x.arg < a) && (decide (0 ≤ x.next ∧ x.next < b) && decide (0 ≤ x.alt ∧ x.alt < c))) := by
  obtain ⟨k, ar, nx, al⟩ := x
  simp only at h ⊢
  by_cases hk : k < 0 ∨ 9 < k
  · rw [room_no g l s f k _ hk] at h
    cases h
    unfold Q.may
    have e : Q.row k = [] := by unfold Q.row; rw [if_pos hk]
    simp only [e]
    have e2 : decide (0 ≤ ar ∧ ar < 0) = false := decide_eq_false (by omega)
    rw [e2]
    rfl
  · rcases kinds k (by omega) (by omega) with h0 | h0 | h0 | h0 | h0 | h0 | h0 | h0 | h0 | h0 <;> subst h0
    · cases h
      unfold Q.may
      rw [show Q.row 0 = [45, 110, 45] from rfl, range3_all]
      simp [Q.fields, Q.size]
    · cases h
      unfold Q.may
      rw [show Q.row 1 = [103, 110, 45] from rfl, range3_all]
      simp [Q.fields, Q.size]
    · cases h
      unfold Q.may
      rw [show Q.row 2 = [103, 110, 45] from rfl, range3_all]
      simp [Q.fields, Q.size]
    · cases h
      unfold Q.may
      rw [show Q.row 3 = [108, 110, 45] from rfl, range3_all]
      simp [Q.fields, Q.size]
    · cases h
      unfold Q.may
      rw [show Q.row 4 = [108, 110, 45] from rfl, range3_all]
      simp [Q.fields, Q.size]
    · cases h
      unfold Q.may
      rw [show Q.row 5 = [102, 110, 115] from rfl, range3_all]
      simp [Q.fields, Q.size]
    · cases h
      unfold Q.may
      rw [show Q.row 6 = [115, 110, 45] from rfl, range3_all]
      simp [Q.fields, Q.size]
    · cases h
      unfold Q.may
      rw [show Q.row 7 = [102, 110, 45] from rfl, range3_all]
      simp [Q.fields, Q.size]
    · cases h
      unfold Q.may
      rw [show Q.row 8 = [45, 110, 110] from rfl, range3_all]
      simp [Q.fields, Q.size]
    · cases h
      unfold Q.may
      rw [show Q.row 9 = [45, 45, 45] from rfl, range3_all]
      simp [Q.fields, Q.size]

set_option maxRecDepth 100000 in
set_option maxHeartbeats 800000 in
theorem prog_among (n c : Int) (r : Bool) (hr : decide (0 ≤ n ∧ n < c) = r) (w : World) :
    Calls Tryd.prog 42 #[.int .i64 n, .int .i64 c] w fun e w' => e = .returned (.bool r) ∧ Below w.heap.size w w' := by
  have HR := kp hr
  clear hr
  by_cases h1 : 0 ≤ n
  · have z1 : (n ≥ 0) = True := by simpa using h1
    by_cases h2 : n < c
    · have HE : Kept (true = r) := kp <| by rw [← HR.out, decide_eq_true ⟨h1, h2⟩]
      go_enter Tryd.func42, Tryd.ntmps42
      go_wp2
      go_ret
      exact ⟨ret_bool HE.out, Below.refl _ _⟩
    · have HE : Kept (decide (n < c) = r) := kp <| by rw [← HR.out, decide_eq_false h2, decide_eq_false (by omega)]
      clear h2
      go_enter Tryd.func42, Tryd.ntmps42
      go_wp2
      go_ret
      exact ⟨ret_bool HE.out, Below.refl _ _⟩
  · have HE : Kept (false = r) := kp <| by rw [← HR.out, decide_eq_false (by omega)]
    have h3 : n < 0 := by omega
    clear h1
    go_enter Tryd.func42, Tryd.ntmps42
    go_wp2
    go_ret
    exact ⟨ret_bool HE.out, Below.refl _ _⟩

theorem ret_room {a b c a' b' c' : Int} (h : (a, b, c) = (a', b', c')) : Ending.returned (.tuple #[.int .i64 a, .int .i64 b, .int .i64 c]) = Ending.returned (.tuple #[.int .i64 a', .int .i64 b', .int .i64 c']) := by
  injection h with h1 h2
  injection h2 with h2 h3
  rw [h1, h2, h3]

set_option maxRecDepth 100000 in
set_option maxHeartbeats 3200000 in
theorem prog_room (p : Pg) (k n : Int) (a b c : Int) (hr : roomQ p.g p.l p.s p.len k n = (a, b, c)) (w : World) :
    Calls Tryd.prog 41 #[pgA p, .int .i64 k, .int .i64 n] w fun e w' => e = .returned (.tuple #[.int .i64 a, .int .i64 b, .int .i64 c]) ∧ Below w.heap.size w w' := by
  rw [pgA_is]
  by_cases hk : k < 0 ∨ 9 < k
  · have HE := kp ((room_no p.g p.l p.s p.len k n hk).symm.trans hr)
    have z0 : (k == 0) = false := by simp; omega
    have z1 : (k == 1) = false := by simp; omega
    have z2 : (k == 2) = false := by simp; omega
    have z3 : (k == 3) = false := by simp; omega
    have z4 : (k == 4) = false := by simp; omega
    have z5 : (k == 5) = false := by simp; omega
    have z6 : (k == 6) = false := by simp; omega
    have z7 : (k == 7) = false := by simp; omega
    have z8 : (k == 8) = false := by simp; omega
    have z9 : (k == 9) = false := by simp; omega
    clear hk hr
    go_enter Tryd.func41, Tryd.ntmps41
    go_wp2_with ((with_reducible refine wpList_box_agg rfl 24 (.tmp 0) rfl (pgC p) rfl ?_); intro g1 w1 hg1 hk1 hw1; obtain ⟨hc0, hc1, hc2, hc3⟩ := pg_cells hk1; have HW1 := kp hw1; clear hg1 hk1 hw1)
    go_ret3
    exact ⟨ret_room HE.out, HW1.out⟩
  · rcases kinds k (by omega) (by omega) with h0 | h0 | h0 | h0 | h0 | h0 | h0 | h0 | h0 | h0 <;> subst h0 <;> clear hk
    · have HE : Kept (((1 : Int), n, (1 : Int)) = (a, b, c)) := kp hr
      clear hr
      go_enter Tryd.func41, Tryd.ntmps41
      go_wp2_with ((with_reducible refine wpList_box_agg rfl 24 (.tmp 0) rfl (pgC p) rfl ?_); intro g1 w1 hg1 hk1 hw1; obtain ⟨hc0, hc1, hc2, hc3⟩ := pg_cells hk1; have HW1 := kp hw1; clear hg1 hk1 hw1)
      go_ret3
      exact ⟨ret_room HE.out, HW1.out⟩
    · have HE : Kept ((p.g, n, (1 : Int)) = (a, b, c)) := kp hr
      clear hr
      go_enter Tryd.func41, Tryd.ntmps41
      go_wp2_with ((with_reducible refine wpList_box_agg rfl 24 (.tmp 0) rfl (pgC p) rfl ?_); intro g1 w1 hg1 hk1 hw1; obtain ⟨hc0, hc1, hc2, hc3⟩ := pg_cells hk1; have HW1 := kp hw1; clear hg1 hk1 hw1)
      go_ret3
      exact ⟨ret_room HE.out, HW1.out⟩
    · have HE : Kept ((p.g, n, (1 : Int)) = (a, b, c)) := kp hr
      clear hr
      go_enter Tryd.func41, Tryd.ntmps41
      go_wp2_with ((with_reducible refine wpList_box_agg rfl 24 (.tmp 0) rfl (pgC p) rfl ?_); intro g1 w1 hg1 hk1 hw1; obtain ⟨hc0, hc1, hc2, hc3⟩ := pg_cells hk1; have HW1 := kp hw1; clear hg1 hk1 hw1)
      go_ret3
      exact ⟨ret_room HE.out, HW1.out⟩
    · have HE : Kept ((p.l, n, (1 : Int)) = (a, b, c)) := kp hr
      clear hr
      go_enter Tryd.func41, Tryd.ntmps41
      go_wp2_with ((with_reducible refine wpList_box_agg rfl 24 (.tmp 0) rfl (pgC p) rfl ?_); intro g1 w1 hg1 hk1 hw1; obtain ⟨hc0, hc1, hc2, hc3⟩ := pg_cells hk1; have HW1 := kp hw1; clear hg1 hk1 hw1)
      go_ret3
      exact ⟨ret_room HE.out, HW1.out⟩
    · have HE : Kept ((p.l, n, (1 : Int)) = (a, b, c)) := kp hr
      clear hr
      go_enter Tryd.func41, Tryd.ntmps41
      go_wp2_with ((with_reducible refine wpList_box_agg rfl 24 (.tmp 0) rfl (pgC p) rfl ?_); intro g1 w1 hg1 hk1 hw1; obtain ⟨hc0, hc1, hc2, hc3⟩ := pg_cells hk1; have HW1 := kp hw1; clear hg1 hk1 hw1)
      go_ret3
      exact ⟨ret_room HE.out, HW1.out⟩
    · have HE : Kept (((p.len : Int), n, p.s) = (a, b, c)) := kp hr
      clear hr
      go_enter Tryd.func41, Tryd.ntmps41
      go_wp2_with ((with_reducible refine wpList_box_agg rfl 24 (.tmp 0) rfl (pgC p) rfl ?_); intro g1 w1 hg1 hk1 hw1; obtain ⟨hc0, hc1, hc2, hc3⟩ := pg_cells hk1; have HW1 := kp hw1; clear hg1 hk1 hw1)
      go_quiet (fail)
      go_wp2
      go_ret3
      exact ⟨ret_room HE.out, below_drewN HW1.out _⟩
    · have HE : Kept ((p.s, n, (1 : Int)) = (a, b, c)) := kp hr
      clear hr
      go_enter Tryd.func41, Tryd.ntmps41
      go_wp2_with ((with_reducible refine wpList_box_agg rfl 24 (.tmp 0) rfl (pgC p) rfl ?_); intro g1 w1 hg1 hk1 hw1; obtain ⟨hc0, hc1, hc2, hc3⟩ := pg_cells hk1; have HW1 := kp hw1; clear hg1 hk1 hw1)
      go_ret3
      exact ⟨ret_room HE.out, HW1.out⟩
    · have HE : Kept (((p.len : Int), n, (1 : Int)) = (a, b, c)) := kp hr
      clear hr
      go_enter Tryd.func41, Tryd.ntmps41
      go_wp2_with ((with_reducible refine wpList_box_agg rfl 24 (.tmp 0) rfl (pgC p) rfl ?_); intro g1 w1 hg1 hk1 hw1; obtain ⟨hc0, hc1, hc2, hc3⟩ := pg_cells hk1; have HW1 := kp hw1; clear hg1 hk1 hw1)
      go_ret3
      exact ⟨ret_room HE.out, HW1.out⟩
    · have HE : Kept (((1 : Int), n, n) = (a, b, c)) := kp hr
      clear hr
      go_enter Tryd.func41, Tryd.ntmps41
      go_wp2_with ((with_reducible refine wpList_box_agg rfl 24 (.tmp 0) rfl (pgC p) rfl ?_); intro g1 w1 hg1 hk1 hw1; obtain ⟨hc0, hc1, hc2, hc3⟩ := pg_cells hk1; have HW1 := kp hw1; clear hg1 hk1 hw1)
      go_ret3
      exact ⟨ret_room HE.out, HW1.out⟩
    · have HE : Kept (((1 : Int), (1 : Int), (1 : Int)) = (a, b, c)) := kp hr
      clear hr
      go_enter Tryd.func41, Tryd.ntmps41
      go_wp2_with ((with_reducible refine wpList_box_agg rfl 24 (.tmp 0) rfl (pgC p) rfl ?_); intro g1 w1 hg1 hk1 hw1; obtain ⟨hc0, hc1, hc2, hc3⟩ := pg_cells hk1; have HW1 := kp hw1; clear hg1 hk1 hw1)
      go_ret3
      exact ⟨ret_room HE.out, HW1.out⟩
end Go.Proofs.YtdnhfpphjpnklaaDoor
