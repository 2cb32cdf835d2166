/- The program's telling of nodes, walked: May, Succ, Access. -/
import Derived.Test.YtkblgafackmckaaPq7
import Derived.Sort.AtCall
namespace Go.Proofs.Ytkblgafackmckaa
open Go.RowKit

set_option maxRecDepth 100000 in
set_option maxHeartbeats 3200000 in
theorem prog_may (B : Nat) (p : Pg) (x : Nd) (_hx : x.Ok) (nodes : Int) (hn : I64 nodes) (r : Bool) (hr : Q.may p.g p.l p.s p.len x nodes = r) (w : World) (_hp : p.Ok w B) (_hB : B ≤ w.heap.size) :
    Calls Try.prog 47 #[pgA p, ndA x, .int .i64 nodes] w fun e w' => e = .returned (.bool r) ∧ Below w.heap.size w w' := by
  obtain ⟨a, b, c, habc⟩ : ∃ a b c, roomQ p.g p.l p.s p.len x.kind (max nodes 1) = (a, b, c) := ⟨_, _, _, rfl⟩
  have HRoom := kp habc
  obtain ⟨r1, h1⟩ : ∃ r1, decide (0 ≤ x.arg ∧ x.arg < a) = r1 := ⟨_, rfl⟩
  obtain ⟨r2, h2⟩ : ∃ r2, decide (0 ≤ x.next ∧ x.next < b) = r2 := ⟨_, rfl⟩
  obtain ⟨r3, h3⟩ : ∃ r3, decide (0 ≤ x.alt ∧ x.alt < c) = r3 := ⟨_, rfl⟩
  have HR : Kept ((r1 && (r2 && r3)) = r) := kp <| by rw [← hr, may_room _ _ _ _ _ _ habc, h1, h2, h3]
  have H1 := kp h1; have H2 := kp h2; have H3 := kp h3
  obtain ⟨hn1, hn2⟩ := hn
  clear habc h1 h2 h3 hr
  rw [pgA_is, show ndA x = .agg (ndC x).toArray from rfl]
  cases r1
  case false =>
    go_enter Try.func47, Try.ntmps47
    go_wp2_with (first
      | ((with_reducible refine wpList_box_agg rfl 24 (.tmp 0) rfl (pgC p) rfl ?_); intro g1 w1 hg1 hk1 hw1; have HK1 := kp hk1; have HW1 := kp hw1; have hs1 := hw1.size; clear hg1 hk1 hw1)
      | ((with_reducible refine wpList_box_agg rfl 47 (.tmp 1) rfl (ndC x) rfl ?_); intro g2 w2 hg2 hk2 hw2; have HK2 := kp hk2; obtain ⟨hd0, hd1, hd2, hd3⟩ := nd_cells hk2; have HW2 := kp (HW1.out.trans (hw2.mono hs1)); have HKp := kp (HK1.out.below hw2 HK1.out.lt); have hs2 := HW2.out.size; clear hg2 hk2 hw2)
      | ((with_reducible show wpList _ _ _ (⟨some 11, _, _, _, _, _⟩ :: _) _ _); go_must (refine wpList_load_blk rfl 24 (.tmp 3) rfl g1 rfl _ (pgC p) _ HKp.out Try.underlying24 rfl pg_size ?_))
      | (go_at_call 59; go_must (refine (prog_room p x.kind _ a b c (by first | exact HRoom.out | (rw [← HRoom.out]; congr 1; omega)) _).mono ?_); rintro e9 w9 ⟨rfl, hw9⟩; have HK9 := kp (HK2.out.below hw9 HK2.out.lt); clear hd0 hd1 hd2 hd3; obtain ⟨hd0, hd1, hd2, hd3⟩ := nd_cells HK9.out; have HW9 := kp (HW2.out.trans (hw9.mono hs2)); have hs9 := HW9.out.size; clear hw9)
      | (go_at_call_of 60 (Value.int IntKind.i64 x.arg); go_must (refine (prog_among x.arg a _ H1.out _).mono ?_); rintro e4 w4 ⟨rfl, hw4⟩; have HK4 := kp (HK9.out.below hw4 HK9.out.lt); clear hd0 hd1 hd2 hd3; obtain ⟨hd0, hd1, hd2, hd3⟩ := nd_cells HK4.out; have HW4 := kp (HW9.out.trans (hw4.mono hs9)); have hs4 := HW4.out.size; clear hw4)
      | (go_at_call_of 60 (Value.int IntKind.i64 x.next); go_must (refine (prog_among x.next b _ H2.out _).mono ?_); rintro e5 w5 ⟨rfl, hw5⟩; have HK5 := kp (HK4.out.below hw5 HK4.out.lt); clear hd0 hd1 hd2 hd3; obtain ⟨hd0, hd1, hd2, hd3⟩ := nd_cells HK5.out; have HW5 := kp (HW4.out.trans (hw5.mono hs4)); have hs5 := HW5.out.size; clear hw5)
      | (go_at_call_of 60 (Value.int IntKind.i64 x.alt); go_must (refine (prog_among x.alt c _ H3.out _).mono ?_); rintro e6 w6 ⟨rfl, hw6⟩; have HW6 := kp (HW5.out.trans (hw6.mono hs5)); clear hw6))
    all_goals go_ret
    all_goals exact ⟨ret_bool HR.out, by first | exact HW6.out | exact HW5.out | exact HW4.out⟩
  case true =>
    cases r2
    case false =>
      go_enter Try.func47, Try.ntmps47
      go_wp2_with (first
        | ((with_reducible refine wpList_box_agg rfl 24 (.tmp 0) rfl (pgC p) rfl ?_); intro g1 w1 hg1 hk1 hw1; have HK1 := kp hk1; have HW1 := kp hw1; have hs1 := hw1.size; clear hg1 hk1 hw1)
        | ((with_reducible refine wpList_box_agg rfl 47 (.tmp 1) rfl (ndC x) rfl ?_); intro g2 w2 hg2 hk2 hw2; have HK2 := kp hk2; obtain ⟨hd0, hd1, hd2, hd3⟩ := nd_cells hk2; have HW2 := kp (HW1.out.trans (hw2.mono hs1)); have HKp := kp (HK1.out.below hw2 HK1.out.lt); have hs2 := HW2.out.size; clear hg2 hk2 hw2)
        | ((with_reducible show wpList _ _ _ (⟨some 11, _, _, _, _, _⟩ :: _) _ _); go_must (refine wpList_load_blk rfl 24 (.tmp 3) rfl g1 rfl _ (pgC p) _ HKp.out Try.underlying24 rfl pg_size ?_))
        | (go_at_call 59; go_must (refine (prog_room p x.kind _ a b c (by first | exact HRoom.out | (rw [← HRoom.out]; congr 1; omega)) _).mono ?_); rintro e9 w9 ⟨rfl, hw9⟩; have HK9 := kp (HK2.out.below hw9 HK2.out.lt); clear hd0 hd1 hd2 hd3; obtain ⟨hd0, hd1, hd2, hd3⟩ := nd_cells HK9.out; have HW9 := kp (HW2.out.trans (hw9.mono hs2)); have hs9 := HW9.out.size; clear hw9)
        | (go_at_call_of 60 (Value.int IntKind.i64 x.arg); go_must (refine (prog_among x.arg a _ H1.out _).mono ?_); rintro e4 w4 ⟨rfl, hw4⟩; have HK4 := kp (HK9.out.below hw4 HK9.out.lt); clear hd0 hd1 hd2 hd3; obtain ⟨hd0, hd1, hd2, hd3⟩ := nd_cells HK4.out; have HW4 := kp (HW9.out.trans (hw4.mono hs9)); have hs4 := HW4.out.size; clear hw4)
        | (go_at_call_of 60 (Value.int IntKind.i64 x.next); go_must (refine (prog_among x.next b _ H2.out _).mono ?_); rintro e5 w5 ⟨rfl, hw5⟩; have HK5 := kp (HK4.out.below hw5 HK4.out.lt); clear hd0 hd1 hd2 hd3; obtain ⟨hd0, hd1, hd2, hd3⟩ := nd_cells HK5.out; have HW5 := kp (HW4.out.trans (hw5.mono hs4)); have hs5 := HW5.out.size; clear hw5)
        | (go_at_call_of 60 (Value.int IntKind.i64 x.alt); go_must (refine (prog_among x.alt c _ H3.out _).mono ?_); rintro e6 w6 ⟨rfl, hw6⟩; have HW6 := kp (HW5.out.trans (hw6.mono hs5)); clear hw6))
      all_goals go_ret
      all_goals exact ⟨ret_bool HR.out, by first | exact HW6.out | exact HW5.out | exact HW4.out⟩
    case true =>
      go_enter Try.func47, Try.ntmps47
      go_wp2_with (first
        | ((with_reducible refine wpList_box_agg rfl 24 (.tmp 0) rfl (pgC p) rfl ?_); intro g1 w1 hg1 hk1 hw1; have HK1 := kp hk1; have HW1 := kp hw1; have hs1 := hw1.size; clear hg1 hk1 hw1)
        | ((with_reducible refine wpList_box_agg rfl 47 (.tmp 1) rfl (ndC x) rfl ?_); intro g2 w2 hg2 hk2 hw2; have HK2 := kp hk2; obtain ⟨hd0, hd1, hd2, hd3⟩ := nd_cells hk2; have HW2 := kp (HW1.out.trans (hw2.mono hs1)); have HKp := kp (HK1.out.below hw2 HK1.out.lt); have hs2 := HW2.out.size; clear hg2 hk2 hw2)
        | ((with_reducible show wpList _ _ _ (⟨some 11, _, _, _, _, _⟩ :: _) _ _); go_must (refine wpList_load_blk rfl 24 (.tmp 3) rfl g1 rfl _ (pgC p) _ HKp.out Try.underlying24 rfl pg_size ?_))
        | (go_at_call 59; go_must (refine (prog_room p x.kind _ a b c (by first | exact HRoom.out | (rw [← HRoom.out]; congr 1; omega)) _).mono ?_); rintro e9 w9 ⟨rfl, hw9⟩; have HK9 := kp (HK2.out.below hw9 HK2.out.lt); clear hd0 hd1 hd2 hd3; obtain ⟨hd0, hd1, hd2, hd3⟩ := nd_cells HK9.out; have HW9 := kp (HW2.out.trans (hw9.mono hs2)); have hs9 := HW9.out.size; clear hw9)
        | (go_at_call_of 60 (Value.int IntKind.i64 x.arg); go_must (refine (prog_among x.arg a _ H1.out _).mono ?_); rintro e4 w4 ⟨rfl, hw4⟩; have HK4 := kp (HK9.out.below hw4 HK9.out.lt); clear hd0 hd1 hd2 hd3; obtain ⟨hd0, hd1, hd2, hd3⟩ := nd_cells HK4.out; have HW4 := kp (HW9.out.trans (hw4.mono hs9)); have hs4 := HW4.out.size; clear hw4)
        | (go_at_call_of 60 (Value.int IntKind.i64 x.next); go_must (refine (prog_among x.next b _ H2.out _).mono ?_); rintro e5 w5 ⟨rfl, hw5⟩; have HK5 := kp (HK4.out.below hw5 HK4.out.lt); clear hd0 hd1 hd2 hd3; obtain ⟨hd0, hd1, hd2, hd3⟩ := nd_cells HK5.out; have HW5 := kp (HW4.out.trans (hw5.mono hs4)); have hs5 := HW5.out.size; clear hw5)
        | (go_at_call_of 60 (Value.int IntKind.i64 x.alt); go_must (refine (prog_among x.alt c _ H3.out _).mono ?_); rintro e6 w6 ⟨rfl, hw6⟩; have HW6 := kp (HW5.out.trans (hw6.mono hs5)); clear hw6))
      all_goals go_ret
      all_goals exact ⟨ret_bool HR.out, by first | exact HW6.out | exact HW5.out | exact HW4.out⟩

theorem ret_acc {a : Int} {b c b' c' : Bool} (h1 : b = b') (h2 : c = c') : Ending.returned (.tuple #[.int .i64 a, .bool b, .bool c]) = Ending.returned (.tuple #[.int .i64 a, .bool b', .bool c']) := by rw [h1, h2]
end Go.Proofs.Ytkblgafackmckaa
