/- ProgP1, ProgP4, ProgP5, in one text. -/
import Derived.Test.YtkhfolpffjihgaaPk8
import Derived.Sort.AtCall
import Derived.Test.YtkhfolpffjihgaaProgRef5
import Derived.Test.YtkhfolpffjihgaaPk6
import Derived.Laws.Cover1
namespace Go.Proofs.Ytkhfolpffjihgaa
open Go.RowKit
set_option maxRecDepth 100000 in
set_option maxHeartbeats 3200000 in
theorem prog_may (B : Nat) (p : Pg) (x : Nd) (_hx : x.Ok) (nodes : Int) (hn : I64 nodes) (r : Bool) (hr : Q.may p.g p.l p.s p.len x nodes = r) (w : World) (_hp : p.Ok w B) (_hB : B ≤ w.heap.size) :
    Calls Try.prog 79 #[pgA p, ndA x, .int .i64 nodes] w fun e w' => e = .returned (.bool r) ∧ Below w.heap.size w w' := by
  obtain ⟨a, b, c, habc⟩ : ∃ a b c, roomQ p.g p.l p.s p.len x.kind (max nodes 1) = (a, b, c) := ⟨_, _, _, rfl⟩
  have HRoom := kp habc
  obtain ⟨r1, h1⟩ : ∃ r1, decide (0 ≤ x.arg ∧ x.arg < a) = r1 := ⟨_, rfl⟩
  obtain ⟨r2, h2⟩ : ∃ r2, decide (0 ≤ x.next ∧ x.next < b) = r2 := ⟨_, rfl⟩
  obtain ⟨r3, h3⟩ : ∃ r3, decide (0 ≤ x.alt ∧ x.alt < c) = r3 := ⟨_, rfl⟩
  have HR : Kept ((r1 && (r2 && r3)) = r) := kp <| by rw [← hr, may_room _ _ _ _ _ _ habc, h1, h2, h3]
  have H1 := kp h1; have H2 := kp h2; have H3 := kp h3
  obtain ⟨hn1, hn2⟩ := hn
  clear habc h1 h2 h3 hr
  rw [jO, show ndA x = .agg (ndC x).toArray from rfl]
  cases r1
  case false =>
    go_enter Try.func79, Try.ntmps79
    go_wp2_with (first
      | ((with_reducible refine j2 rfl 38 (.tmp 0) rfl (pgC p) rfl ?_); intro g1 w1 hg1 hk1 hw1; have HK1 := kp hk1; have HW1 := kp hw1; have hs1 := hw1.size; clear hg1 hk1 hw1)
      | ((with_reducible refine j2 rfl 75 (.tmp 1) rfl (ndC x) rfl ?_); intro g2 w2 hg2 hk2 hw2; have HK2 := kp hk2; obtain ⟨hd0, hd1, hd2, hd3⟩ := jQ hk2; have HW2 := kp (HW1.out.trans (hw2.mono hs1)); have HKp := kp (HK1.out.below hw2 HK1.out.lt); have hs2 := HW2.out.size; clear hg2 hk2 hw2)
      | ((with_reducible show Sl 11); go_must (refine j1 rfl 38 (.tmp 3) rfl g1 rfl _ (pgC p) _ HKp.out Try.underlying38 rfl jB ?_))
      | (go_at_call 83; go_must (refine (vP p x.kind _ a b c (by first | exact HRoom.out | (rw [← HRoom.out]; congr 1; omega)) _).mono ?_); rintro e9 w9 ⟨rfl, hw9⟩; have HK9 := kp (HK2.out.below hw9 HK2.out.lt); clear hd0 hd1 hd2 hd3; obtain ⟨hd0, hd1, hd2, hd3⟩ := jQ HK9.out; have HW9 := kp (HW2.out.trans (hw9.mono hs2)); have hs9 := HW9.out.size; clear hw9)
      | (go_at_call_of 84 (Value.int IntKind.i64 x.arg); go_must (refine (lW x.arg a _ H1.out _).mono ?_); rintro e4 w4 ⟨rfl, hw4⟩; have HK4 := kp (HK9.out.below hw4 HK9.out.lt); clear hd0 hd1 hd2 hd3; obtain ⟨hd0, hd1, hd2, hd3⟩ := jQ HK4.out; have HW4 := kp (HW9.out.trans (hw4.mono hs9)); have hs4 := HW4.out.size; clear hw4)
      | (go_at_call_of 84 (Value.int IntKind.i64 x.next); go_must (refine (lW x.next b _ H2.out _).mono ?_); rintro e5 w5 ⟨rfl, hw5⟩; have HK5 := kp (HK4.out.below hw5 HK4.out.lt); clear hd0 hd1 hd2 hd3; obtain ⟨hd0, hd1, hd2, hd3⟩ := jQ HK5.out; have HW5 := kp (HW4.out.trans (hw5.mono hs4)); have hs5 := HW5.out.size; clear hw5)
      | (go_at_call_of 84 (Value.int IntKind.i64 x.alt); go_must (refine (lW x.alt c _ H3.out _).mono ?_); rintro e6 w6 ⟨rfl, hw6⟩; have HW6 := kp (HW5.out.trans (hw6.mono hs5)); clear hw6))
    all_goals go_ret
    all_goals exact ⟨jH HR.out, by first | exact HW6.out | exact HW5.out | exact HW4.out⟩
  case true =>
    cases r2
    case false =>
      go_enter Try.func79, Try.ntmps79
      go_wp2_with (first
        | ((with_reducible refine j2 rfl 38 (.tmp 0) rfl (pgC p) rfl ?_); intro g1 w1 hg1 hk1 hw1; have HK1 := kp hk1; have HW1 := kp hw1; have hs1 := hw1.size; clear hg1 hk1 hw1)
        | ((with_reducible refine j2 rfl 75 (.tmp 1) rfl (ndC x) rfl ?_); intro g2 w2 hg2 hk2 hw2; have HK2 := kp hk2; obtain ⟨hd0, hd1, hd2, hd3⟩ := jQ hk2; have HW2 := kp (HW1.out.trans (hw2.mono hs1)); have HKp := kp (HK1.out.below hw2 HK1.out.lt); have hs2 := HW2.out.size; clear hg2 hk2 hw2)
        | ((with_reducible show Sl 11); go_must (refine j1 rfl 38 (.tmp 3) rfl g1 rfl _ (pgC p) _ HKp.out Try.underlying38 rfl jB ?_))
        | (go_at_call 83; go_must (refine (vP p x.kind _ a b c (by first | exact HRoom.out | (rw [← HRoom.out]; congr 1; omega)) _).mono ?_); rintro e9 w9 ⟨rfl, hw9⟩; have HK9 := kp (HK2.out.below hw9 HK2.out.lt); clear hd0 hd1 hd2 hd3; obtain ⟨hd0, hd1, hd2, hd3⟩ := jQ HK9.out; have HW9 := kp (HW2.out.trans (hw9.mono hs2)); have hs9 := HW9.out.size; clear hw9)
        | (go_at_call_of 84 (Value.int IntKind.i64 x.arg); go_must (refine (lW x.arg a _ H1.out _).mono ?_); rintro e4 w4 ⟨rfl, hw4⟩; have HK4 := kp (HK9.out.below hw4 HK9.out.lt); clear hd0 hd1 hd2 hd3; obtain ⟨hd0, hd1, hd2, hd3⟩ := jQ HK4.out; have HW4 := kp (HW9.out.trans (hw4.mono hs9)); have hs4 := HW4.out.size; clear hw4)
        | (go_at_call_of 84 (Value.int IntKind.i64 x.next); go_must (refine (lW x.next b _ H2.out _).mono ?_); rintro e5 w5 ⟨rfl, hw5⟩; have HK5 := kp (HK4.out.below hw5 HK4.out.lt); clear hd0 hd1 hd2 hd3; obtain ⟨hd0, hd1, hd2, hd3⟩ := jQ HK5.out; have HW5 := kp (HW4.out.trans (hw5.mono hs4)); have hs5 := HW5.out.size; clear hw5)
        | (go_at_call_of 84 (Value.int IntKind.i64 x.alt); go_must (refine (lW x.alt c _ H3.out _).mono ?_); rintro e6 w6 ⟨rfl, hw6⟩; have HW6 := kp (HW5.out.trans (hw6.mono hs5)); clear hw6))
      all_goals go_ret
      all_goals exact ⟨jH HR.out, by first | exact HW6.out | exact HW5.out | exact HW4.out⟩
    case true =>
      go_enter Try.func79, Try.ntmps79
      go_wp2_with (first
        | ((with_reducible refine j2 rfl 38 (.tmp 0) rfl (pgC p) rfl ?_); intro g1 w1 hg1 hk1 hw1; have HK1 := kp hk1; have HW1 := kp hw1; have hs1 := hw1.size; clear hg1 hk1 hw1)
        | ((with_reducible refine j2 rfl 75 (.tmp 1) rfl (ndC x) rfl ?_); intro g2 w2 hg2 hk2 hw2; have HK2 := kp hk2; obtain ⟨hd0, hd1, hd2, hd3⟩ := jQ hk2; have HW2 := kp (HW1.out.trans (hw2.mono hs1)); have HKp := kp (HK1.out.below hw2 HK1.out.lt); have hs2 := HW2.out.size; clear hg2 hk2 hw2)
        | ((with_reducible show Sl 11); go_must (refine j1 rfl 38 (.tmp 3) rfl g1 rfl _ (pgC p) _ HKp.out Try.underlying38 rfl jB ?_))
        | (go_at_call 83; go_must (refine (vP p x.kind _ a b c (by first | exact HRoom.out | (rw [← HRoom.out]; congr 1; omega)) _).mono ?_); rintro e9 w9 ⟨rfl, hw9⟩; have HK9 := kp (HK2.out.below hw9 HK2.out.lt); clear hd0 hd1 hd2 hd3; obtain ⟨hd0, hd1, hd2, hd3⟩ := jQ HK9.out; have HW9 := kp (HW2.out.trans (hw9.mono hs2)); have hs9 := HW9.out.size; clear hw9)
        | (go_at_call_of 84 (Value.int IntKind.i64 x.arg); go_must (refine (lW x.arg a _ H1.out _).mono ?_); rintro e4 w4 ⟨rfl, hw4⟩; have HK4 := kp (HK9.out.below hw4 HK9.out.lt); clear hd0 hd1 hd2 hd3; obtain ⟨hd0, hd1, hd2, hd3⟩ := jQ HK4.out; have HW4 := kp (HW9.out.trans (hw4.mono hs9)); have hs4 := HW4.out.size; clear hw4)
        | (go_at_call_of 84 (Value.int IntKind.i64 x.next); go_must (refine (lW x.next b _ H2.out _).mono ?_); rintro e5 w5 ⟨rfl, hw5⟩; have HK5 := kp (HK4.out.below hw5 HK4.out.lt); clear hd0 hd1 hd2 hd3; obtain ⟨hd0, hd1, hd2, hd3⟩ := jQ HK5.out; have HW5 := kp (HW4.out.trans (hw5.mono hs4)); have hs5 := HW5.out.size; clear hw5)
        | (go_at_call_of 84 (Value.int IntKind.i64 x.alt); go_must (refine (lW x.alt c _ H3.out _).mono ?_); rintro e6 w6 ⟨rfl, hw6⟩; have HW6 := kp (HW5.out.trans (hw6.mono hs5)); clear hw6))
      all_goals go_ret
      all_goals exact ⟨jH HR.out, by first | exact HW6.out | exact HW5.out | exact HW4.out⟩
theorem ret_acc {a : Int} {b c b' c' : Bool} (h1 : b = b') (h2 : c = c') : Ending.returned (.tuple #[.int .i64 a, .bool b, .bool c]) = Ending.returned (.tuple #[.int .i64 a, .bool b', .bool c']) := by rw [h1, h2]
set_option maxRecDepth 100000 in
set_option maxHeartbeats 800000 in
theorem yP (x : Nd) (_hx : x.Ok) (w : World) :
    Calls Try.prog 76 #[ndA x] w fun e w' => e = .returned (.tuple #[.int .i64 x.arg, .bool (x.kind == 2), .bool (x.kind == 1 || x.kind == 2)]) ∧ Below w.heap.size w w' := by
  obtain ⟨r1, h1⟩ : ∃ r1, (x.kind == 2) = r1 := ⟨_, rfl⟩
  obtain ⟨r2, h2⟩ : ∃ r2, (x.kind == 1 || x.kind == 2) = r2 := ⟨_, rfl⟩
  have H1 := kp h1; have H2 := kp h2
  rw [h2, h1]
  clear h1 h2
  rw [show ndA x = .agg (ndC x).toArray from rfl]
  by_cases h2 : x.kind = 2
  · have hz2 : (x.kind == 2) = true := by simpa using h2
    have HE1 : Kept (true = r1) := kp (hz2.symm.trans H1.out)
    have HE2 : Kept (true = r2) := kp (by rw [← H2.out, hz2, Bool.or_true])
    clear h2
    go_enter Try.func76, Try.ntmps76
    go_wp2_with ((with_reducible refine j2 rfl 75 (.tmp 0) rfl (ndC x) rfl ?_); intro g1 w1 hg1 hk1 hw1; obtain ⟨hc0, hc1, hc2, hc3⟩ := jQ hk1; have HW1 := kp hw1; clear hg1 hk1 hw1)
    go_quiet (fail)
    go_wp2
    go_ret3
    exact ⟨ret_acc HE1.out HE2.out, jE HW1.out _⟩
  · have hz2 : (x.kind == 2) = false := by simpa using h2
    have HE1 : Kept (false = r1) := kp (hz2.symm.trans H1.out)
    by_cases h1 : x.kind = 1
    · have hz1 : (x.kind == 1) = true := by simpa using h1
      have HE2 : Kept (true = r2) := kp (by rw [← H2.out, hz1, Bool.true_or])
      clear h1 h2
      go_enter Try.func76, Try.ntmps76
      go_wp2_with ((with_reducible refine j2 rfl 75 (.tmp 0) rfl (ndC x) rfl ?_); intro g1 w1 hg1 hk1 hw1; obtain ⟨hc0, hc1, hc2, hc3⟩ := jQ hk1; have HW1 := kp hw1; clear hg1 hk1 hw1)
      go_quiet (fail)
      go_wp2
      go_ret3
      exact ⟨ret_acc HE1.out HE2.out, jE HW1.out _⟩
    · have hz1 : (x.kind == 1) = false := by simpa using h1
      have HE2 : Kept (false = r2) := kp (by rw [← H2.out, hz1, hz2]; rfl)
      clear h1 h2
      go_enter Try.func76, Try.ntmps76
      go_wp2_with ((with_reducible refine j2 rfl 75 (.tmp 0) rfl (ndC x) rfl ?_); intro g1 w1 hg1 hk1 hw1; obtain ⟨hc0, hc1, hc2, hc3⟩ := jQ hk1; have HW1 := kp hw1; clear hg1 hk1 hw1)
      go_quiet (fail)
      go_wp2
      go_ret3
      exact ⟨ret_acc HE1.out HE2.out, jE HW1.out _⟩
def countsFault (p : Pg) : Nat := if p.g < 0 ∨ p.l < 0 ∨ p.s < 0 ∨ p.len = 0 then 1 else if 16 < p.g ∨ 16 < p.l ∨ 8 < p.s ∨ 16 < p.len then 4 else 0
theorem ret_i {a b : Int} (h : a = b) : Ending.returned (.int .i64 a) = Ending.returned (.int .i64 b) := by rw [h]
def min3 (x y z : Int) : Int := if z < (if y < x then y else x) then z else (if y < x then y else x)
theorem min3_neg (x y z : Int) : min3 x y z < 0 ↔ x < 0 ∨ y < 0 ∨ z < 0 := by unfold min3; split <;> split <;> omega
set_option maxRecDepth 100000 in
set_option maxHeartbeats 3200000 in
theorem xW (p : Pg) (c : Nat) (hc : countsFault p = c) (w : World) :
    Calls Try.prog 61 #[pgA p] w fun e w' => e = .returned (.int .i64 (c : Int)) ∧ Below w.heap.size w w' := by
  have HC := kp hc
  have hmin : ∀ (w : World) (ts : Array TypeId) (t : TypeId), (Builtin.min_ ts t #[.int .i64 p.g, .int .i64 p.l, .int .i64 p.s]).run Try.prog w = .ok (.int .i64 (min3 p.g p.l p.s)) w := fun w ts t => by rw [run_min_int3]; rfl
  have hmn := min3_neg p.g p.l p.s
  clear hc
  rw [jO]
  generalize min3 p.g p.l p.s = m at *
  by_cases hneg : m < 0
  · have HE : Kept ((1 : Int) = (c : Int)) := kp (by rw [← HC.out]; unfold countsFault; rw [if_pos (by rcases hmn.1 hneg with h | h | h <;> omega)]; rfl)
    clear hmn
    go_enter Try.func61, Try.ntmps61
    go_wp2_with ((with_reducible refine j2 rfl 38 (.tmp 0) rfl (pgC p) rfl ?_); intro g1 w1 hg1 hk1 hw1; obtain ⟨hc0, hc1, hc2, hc3⟩ := jL hk1; have HW1 := kp hw1; clear hg1 hk1 hw1)
    go_ret
    exact ⟨ret_i HE.out, HW1.out⟩
  · have hm0 : 0 ≤ m := by omega
    have hgs : ¬ (p.g < 0 ∨ p.l < 0 ∨ p.s < 0) := fun h => hneg (hmn.2 h)
    clear hmn hneg
    by_cases hz : p.len = 0
    · have HE : Kept ((1 : Int) = (c : Int)) := kp (by rw [← HC.out]; unfold countsFault; rw [if_pos (by omega)]; rfl)
      have hzb : ((p.len : Int) == 0) = true := by simp; omega
      clear hz hgs
      go_enter Try.func61, Try.ntmps61
      go_wp2_with ((with_reducible refine j2 rfl 38 (.tmp 0) rfl (pgC p) rfl ?_); intro g1 w1 hg1 hk1 hw1; obtain ⟨hc0, hc1, hc2, hc3⟩ := jL hk1; have HW1 := kp hw1; clear hg1 hk1 hw1)
      go_ret
      exact ⟨ret_i HE.out, HW1.out⟩
    · have hzb : ((p.len : Int) == 0) = false := by simp; omega
      by_cases hbig : 16 < p.g ∨ 16 < p.l ∨ 8 < p.s ∨ 16 < p.len
      · have HE : Kept ((4 : Int) = (c : Int)) := kp (by rw [← HC.out]; unfold countsFault; rw [if_neg (by omega), if_pos hbig]; rfl)
        have hcases : 16 < p.g ∨ (p.g ≤ 16 ∧ 16 < p.l) ∨ (p.g ≤ 16 ∧ p.l ≤ 16 ∧ 8 < p.s) ∨ (p.g ≤ 16 ∧ p.l ≤ 16 ∧ p.s ≤ 8 ∧ 16 < p.len) := by omega
        clear hz hbig hgs
        rcases hcases with h1 | ⟨h1, h2⟩ | ⟨h1, h2, h3⟩ | ⟨h1, h2, h3, h4⟩
        · have b1 : decide (16 < p.g) = true := by simpa using h1
          go_enter Try.func61, Try.ntmps61
          go_wp2_with ((with_reducible refine j2 rfl 38 (.tmp 0) rfl (pgC p) rfl ?_); intro g1 w1 hg1 hk1 hw1; obtain ⟨hc0, hc1, hc2, hc3⟩ := jL hk1; have HW1 := kp hw1; clear hg1 hk1 hw1)
          go_ret
          exact ⟨ret_i HE.out, HW1.out⟩
        · have b1 : decide (16 < p.g) = false := by simp; omega
          have b2 : decide (16 < p.l) = true := by simpa using h2
          go_enter Try.func61, Try.ntmps61
          go_wp2_with ((with_reducible refine j2 rfl 38 (.tmp 0) rfl (pgC p) rfl ?_); intro g1 w1 hg1 hk1 hw1; obtain ⟨hc0, hc1, hc2, hc3⟩ := jL hk1; have HW1 := kp hw1; clear hg1 hk1 hw1)
          go_ret
          exact ⟨ret_i HE.out, HW1.out⟩
        · have b1 : decide (16 < p.g) = false := by simp; omega
          have b2 : decide (16 < p.l) = false := by simp; omega
          have b3 : decide (8 < p.s) = true := by simpa using h3
          go_enter Try.func61, Try.ntmps61
          go_wp2_with ((with_reducible refine j2 rfl 38 (.tmp 0) rfl (pgC p) rfl ?_); intro g1 w1 hg1 hk1 hw1; obtain ⟨hc0, hc1, hc2, hc3⟩ := jL hk1; have HW1 := kp hw1; clear hg1 hk1 hw1)
          go_ret
          exact ⟨ret_i HE.out, HW1.out⟩
        · have b1 : decide (16 < p.g) = false := by simp; omega
          have b2 : decide (16 < p.l) = false := by simp; omega
          have b3 : decide (8 < p.s) = false := by simp; omega
          go_enter Try.func61, Try.ntmps61
          go_wp2_with ((with_reducible refine j2 rfl 38 (.tmp 0) rfl (pgC p) rfl ?_); intro g1 w1 hg1 hk1 hw1; obtain ⟨hc0, hc1, hc2, hc3⟩ := jL hk1; have HW1 := kp hw1; clear hg1 hk1 hw1)
          go_ret
          exact ⟨ret_i HE.out, HW1.out⟩
      · have HE : Kept ((0 : Int) = (c : Int)) := kp (by rw [← HC.out]; unfold countsFault; rw [if_neg (by omega), if_neg hbig]; rfl)
        have b1 : decide (16 < p.g) = false := by simp; omega
        have b2 : decide (16 < p.l) = false := by simp; omega
        have b3 : decide (8 < p.s) = false := by simp; omega
        have h4 : p.len ≤ 16 := by omega
        clear hz hbig hgs
        go_enter Try.func61, Try.ntmps61
        go_wp2_with ((with_reducible refine j2 rfl 38 (.tmp 0) rfl (pgC p) rfl ?_); intro g1 w1 hg1 hk1 hw1; obtain ⟨hc0, hc1, hc2, hc3⟩ := jL hk1; have HW1 := kp hw1; clear hg1 hk1 hw1)
        go_ret
        exact ⟨ret_i HE.out, HW1.out⟩
theorem vG {p : Pg} {f : Fn} {a a' : Int} {c c' : Nat} (h : Q.fnFault p f = (a, c)) (h' : Q.fnFault p f = (a', c')) : Ending.returned (.tuple #[.int .i64 a', .int .i64 (c' : Int)]) = Ending.returned (.tuple #[.int .i64 a, .int .i64 (c : Int)]) := by
  rw [h] at h'
  injection h' with h1 h2
  rw [h1, h2]
set_option maxRecDepth 100000 in
set_option maxHeartbeats 3200000 in
theorem yE (B : Nat) (p : Pg) (fn : Fn) (a : Int) (c : Nat) (hc : Q.fnFault p fn = (a, c)) (w : World) (hp : p.Ok w B) (hf : fn.Ok w B) (hB : B ≤ w.heap.size) :
    Calls Try.prog 62 #[pgA p, .slice fn.A fn.len fn.cap] w fun e w' => e = .returned (.tuple #[.int .i64 a, .int .i64 (c : Int)]) ∧ Below w.heap.size w w' := by
  have HC := kp hc; have HP := kp hp; have HF := kp hf
  have hfl := hf.nodes.1.len
  have HFl := kp hfl
  have hfc := hf.lc; have hfm := hf.cm
  unfold maxLen at hfm
  have hfm9 : fn.cap ≤ 9223372036854775807 := by omega
  clear hc hp hf hfm
  rw [jO]
  by_cases hz0 : fn.len = 0
  · have HE := kp (vG (a' := -1) (c' := 1) HC.out (by rw [Q.fault_empty p fn (by rw [hfl]; exact hz0)]))
    have hzb : ((fn.len : Int) == 0) = true := by simp; omega
    clear hz0 hfl
    go_enter Try.func62, Try.ntmps62
    go_wp2_with ((with_reducible refine j2 rfl 38 (.tmp 0) rfl (pgC p) rfl ?_); intro g1 w1 hg1 hk1 hw1; have HW1 := kp hw1; clear hg1 hk1 hw1)
    go_ret2
    exact ⟨HE.out, HW1.out⟩
  · have hzb : ((fn.len : Int) == 0) = false := by simp; omega
    by_cases h64 : 64 < fn.len
    · have HE := kp (vG (a' := -1) (c' := 4) HC.out (by rw [Q.fault_long p fn (by rw [hfl]; exact h64)]))
      clear hz0 hfl
      go_enter Try.func62, Try.ntmps62
      go_wp2_with ((with_reducible refine j2 rfl 38 (.tmp 0) rfl (pgC p) rfl ?_); intro g1 w1 hg1 hk1 hw1; have HW1 := kp hw1; clear hg1 hk1 hw1)
      go_ret2
      exact ⟨HE.out, HW1.out⟩
    · have h64' : fn.len ≤ 64 := by omega
      have HFl64 : Kept (I64 (fn.len : Int)) := kp ⟨by omega, by omega⟩
      have HZ := kp hz0
      clear h64 hfl hz0
      go_enter Try.func62, Try.ntmps62
      go_wp2_with ((with_reducible refine j2 rfl 38 (.tmp 0) rfl (pgC p) rfl ?_); intro g1 w1 hg1 hk1 hw1; have HK1 := kp hk1; have HW1 := kp hw1; have hs1 := hw1.size; clear hg1 hk1 hw1)
      have hB1 : B ≤ w1.heap.size := by omega
      go_loopw [16] (fun v16 wq => ∃ i : Nat, i ≤ fn.len ∧ v16 = .int .i64 i ∧ (∀ j, j < i → ¬ Q.badNode p fn j) ∧ Below w1.heap.size w1 wq) (fun v16 _ => fn.len - (intOf v16).toNat)
      case atStart => exact ⟨0, by omega, rfl, fun j hj => by omega, Below.refl _ _⟩
      case round =>
        obtain ⟨i, hi, rfl, hpre, hbl⟩ := hrel
        have HPre := kp hpre; have HBL := kp hbl
        have HKr := kp (HK1.out.below hbl HK1.out.lt)
        have hszr := hbl.size
        have HBw := kp (HW1.out.trans (hbl.mono hs1))
        have HPr := kp (HP.out.below (HBw.out.mono hB))
        clear hpre hbl
        by_cases hli : i < fn.len
        · obtain ⟨bd, x, e3, hbb, hy, hxok, hn0, hn1, hn2, hn3⟩ := (HF.out.keep (w' := wr) fun _ hp => (HBw.out.mono hB).cell hp).nodes.get hli
          rw [e3]
          have HXOk := kp hxok
          obtain ⟨m, hm⟩ : ∃ m, Q.may p.g p.l p.s p.len x fn.len = m := ⟨_, rfl⟩
          have HM := kp hm
          have HBad : Kept (m = false ↔ Q.badNode p fn i) := kp <| by
            rw [← hm]
            unfold Q.badNode
            rw [HFl.out]
            constructor
            · intro h; exact ⟨x, hy, h⟩
            · rintro ⟨nd, h1, h2⟩
              rw [hy] at h1
              cases h1
              exact h2
          clear hxok hm hy e3
          cases m
          · have HE := kp (vG HC.out (Q.fault_node p fn i (by rw [HFl.out]; exact HZ.out) (by rw [HFl.out]; exact h64') (HBad.out.1 rfl) (by rw [HFl.out]; exact hli) HPre.out))
            go_wp2_with (first
              | ((with_reducible show Sl 7); go_must (refine j3 rfl 75 rfl (ndC ⟨0, 0, 0, 0⟩) jR ?_); intro g5 w6 hg5 hk6 hw6; have HG5 := kp hg5; have HK6 := kp hk6; have HW6 := kp hw6; clear hg5 hk6 hw6)
              | ((with_reducible show Sn); go_must (refine j4 rfl 75 (.tmp 7) (.tmp 20) rfl g5 (ndC x) rfl rfl _ _ HK6.out jK rfl (jS x) ?_); intro w7 hk7 hg7 hs7
                 obtain ⟨hx0, hx1, hx2, hx3⟩ := jQ hk7
                 have HBq7 := kp (HW6.out.grown hg7 HW6.out.size (fun k hk => by cases hk; exact HG5.out))
                 have HB7 := kp (HBL.out.trans (HBq7.out.mono hszr))
                 have HK7 := kp (HKr.out.below HBq7.out HKr.out.lt)
                 have HP7 := kp (HPr.out.below (HBq7.out.mono (Nat.le_trans hB1 hszr)))
                 have hsz7 := HBq7.out.size
                 clear hk7 hg7 hs7 hn0 hn1 hn2 hn3)
              | ((with_reducible show Sl 21); go_must (refine j1 rfl 38 (.tmp 2) rfl g1 rfl _ (pgC p) _ HK7.out Try.underlying38 rfl jB ?_))
              | (go_at_call 79; go_must (refine (prog_may B p x HXOk.out fn.len HFl64.out false HM.out _ HP7.out (by omega)).mono ?_); rintro e9 w9 ⟨rfl, hw9⟩; have HB9 := kp (HB7.out.trans (hw9.mono (Nat.le_trans hszr hsz7))); clear hw9))
            go_ret2
            exact ⟨HE.out, HW1.out.trans (HB9.out.mono hs1)⟩
          · have HNx : Kept (∀ j, j < i + 1 → ¬ Q.badNode p fn j) := kp fun j hj h => by
              by_cases e : j = i
              · subst e
                have := HBad.out.2 h
                cases this
              · exact HPre.out j (by omega) h
            go_wp2_with (first
              | ((with_reducible show Sl 7); go_must (refine j3 rfl 75 rfl (ndC ⟨0, 0, 0, 0⟩) jR ?_); intro g5 w6 hg5 hk6 hw6; have HG5 := kp hg5; have HK6 := kp hk6; have HW6 := kp hw6; clear hg5 hk6 hw6)
              | ((with_reducible show Sn); go_must (refine j4 rfl 75 (.tmp 7) (.tmp 20) rfl g5 (ndC x) rfl rfl _ _ HK6.out jK rfl (jS x) ?_); intro w7 hk7 hg7 hs7
                 obtain ⟨hx0, hx1, hx2, hx3⟩ := jQ hk7
                 have HBq7 := kp (HW6.out.grown hg7 HW6.out.size (fun k hk => by cases hk; exact HG5.out))
                 have HB7 := kp (HBL.out.trans (HBq7.out.mono hszr))
                 have HK7 := kp (HKr.out.below HBq7.out HKr.out.lt)
                 have HP7 := kp (HPr.out.below (HBq7.out.mono (Nat.le_trans hB1 hszr)))
                 have hsz7 := HBq7.out.size
                 clear hk7 hg7 hs7 hn0 hn1 hn2 hn3)
              | ((with_reducible show Sl 21); go_must (refine j1 rfl 38 (.tmp 2) rfl g1 rfl _ (pgC p) _ HK7.out Try.underlying38 rfl jB ?_))
              | (go_at_call 79; go_must (refine (prog_may B p x HXOk.out fn.len HFl64.out true HM.out _ HP7.out (by omega)).mono ?_); rintro e9 w9 ⟨rfl, hw9⟩; have HB9 := kp (HB7.out.trans (hw9.mono (Nat.le_trans hszr hsz7))); clear hw9))
            go_roundw
            case rel => exact ⟨i + 1, by omega, by go_num, HNx.out, HB9.out⟩
            case measure => simp [intOf]; omega
        · have HE := kp (vG HC.out (Q.fault_none p fn (by rw [HFl.out]; exact HZ.out) (by rw [HFl.out]; exact h64') fun j hj => HPre.out j (by rw [HFl.out] at hj; omega)))
          have hge : fn.len ≤ i := by omega
          clear hli
          go_wp2
          go_ret2
          exact ⟨HE.out, HBw.out⟩
set_option maxRecDepth 1000000 in
set_option maxHeartbeats 8000000 in
theorem prog_checkCalls (B : Nat) (p : Pg) (w : World) (hp : p.Ok w B) (hB : B ≤ w.heap.size) (hco : Q.Counts p) (hfine : ∀ j, j < p.fns.length → ¬ Q.badFn p j) (a b : Int) (c : Nat) (hc : Q.check p = (a, b, c)) :
    Calls Try.prog 63 #[pgA p] w fun e w' => e = .returned (.tuple #[.int .i64 a, .int .i64 b, .int .i64 (c : Int)]) ∧ Below w.heap.size w w' := by
  have HP := kp hp; have HC := kp hc; have HCo := kp hco; have HFine := kp hfine
  have HFit := kp (vU hfine)
  have hlen := hp.row.len
  have HLen := kp hlen
  have h16 : p.len ≤ 16 := by rw [← hlen]; exact hco.f.2
  have hlc := hp.lc; have hcm := hp.cm
  unfold maxLen at hcm
  have hcm9 : p.cap ≤ 9223372036854775807 := by omega
  clear hp hfine hlen hcm hc hco
  rw [jO]
  go_enter Try.func63, Try.ntmps63
  go_wp2_with (first
    | ((with_reducible refine j2 rfl 38 (.tmp 0) rfl (pgC p) rfl ?_); intro g1 w1 hg1 hk1 hw1; have HK1 := kp hk1; have HW1 := kp hw1; have hs1 := hw1.size; have HP1 := kp (HP.out.below (hw1.mono hB)); clear hg1 hk1 hw1)
    | ((with_reducible show Sl 10); go_must (refine j1 rfl 38 (.tmp 1) rfl g1 rfl _ (pgC p) _ HK1.out Try.underlying38 rfl jB ?_))
    | (go_at_call 80; go_must (refine (prog_comesTo B p _ HP1.out (by omega) HFit.out h16).mono ?_); rintro e9 w2 ⟨L, rfl, hL, hent, hw2⟩; have HL := kp hL; have HEnt := kp hent; have HKp2 := kp (HK1.out.below hw2 HK1.out.lt); have HW2 := kp (HW1.out.trans (hw2.mono hs1)); have hs2 := HW2.out.size; clear hL hent hw2)
    | ((with_reducible show Sl 5); go_must (refine j3 rfl 140 rfl (relC (List.replicate 256 false)) rel_zero ?_); intro g3 w3 hg3 hk3 hw3; have HG3 := kp hg3; have HK3 := kp hk3; have HW3 := kp hw3; clear hg3 hk3 hw3)
    | ((with_reducible show Sn); go_must (refine j4 rfl 140 (.tmp 5) (.tmp 11) rfl g3 (relC L) rfl rfl _ _ HK3.out (by rw [qY, HL.out]; exact zW) (by rw [qY, qY, HL.out, List.length_replicate]) (rel_ones L) ?_); intro w4 hk4 hg4 _
       have HK4 := kp hk4
       have HB24 := kp (HW3.out.grown hg4 HW3.out.size (fun k hk => by cases hk; exact HG3.out))
       have HKp4 := kp (HKp2.out.below HB24.out HKp2.out.lt)
       obtain ⟨hc0, hc1, hc2, hc3⟩ := jL HKp4.out
       have HW4 := kp (HW2.out.trans (HB24.out.mono hs2))
       have hs4 := HW4.out.size
       clear hk4 hg4))
  clear hc0 hc1 hc2 hc3
  have HP4 := kp (HP.out.below (HW4.out.mono hB))
  have hB4 : B ≤ w4.heap.size := by omega
  go_loopw [15] (fun v15 wr => ∃ f : Nat, f ≤ p.len ∧ v15 = .int .i64 f ∧ (∀ j, j < f → ¬ Q.badRound p j) ∧ Below w4.heap.size w4 wr) (fun v15 _ => p.len - (intOf v15).toNat)
  case atStart => exact ⟨0, by omega, rfl, fun j hj => by omega, Below.refl _ _⟩
  case round =>
    obtain ⟨f, hf, rfl, hpre, hbl⟩ := hrel
    have HPre := kp hpre; have HBL := kp hbl
    have HPr := kp (HP4.out.below (hbl.mono hB4))
    clear hpre hbl
    by_cases hlt : f < p.len
    · obtain ⟨ad, fn, e1, hab0, hx, hok0, hcf⟩ := HPr.out.fn hlt
      rw [e1]
      have HE1 := kp e1
      clear e1
      have HX := kp hx
      obtain ⟨hf0, hf64, hmays⟩ := Q.fine_fn hx (HFine.out f (by rw [HLen.out]; exact hlt))
      have hfl := hok0.nodes.1.len
      have hfc := hok0.lc; have hfm := hok0.cm
      unfold maxLen at hfm
      have hfm9 : fn.cap ≤ 9223372036854775807 := by omega
      rw [hfl] at hf64
      have HMays := kp hmays
      have HFl := kp hfl
      clear hx hok0 hfm hf0 hmays hfl
      go_wp2
      clear hcf
      go_loopw [22] (fun v22 wq => ∃ i : Nat, i ≤ fn.len ∧ v22 = .int .i64 i ∧ (∀ j, j < i → ¬ Q.roundAt p f j) ∧ Below w4.heap.size w4 wq) (fun v22 _ => fn.len - (intOf v22).toNat)
      case atStart => exact ⟨0, by omega, rfl, fun j hj => by omega, HBL.out⟩
      case round =>
        clear HBL HPr
        obtain ⟨i, hi, rfl, hpre, hbl⟩ := hrel
        have HPreI := kp hpre; have HBL := kp hbl
        have hszq := hbl.size
        obtain ⟨ad', fn', e1', hab, hx', hok, _⟩ := (HP4.out.below (hbl.mono hB4)).fn hlt
        rw [HE1.out] at e1'
        cases e1'
        rw [HX.out] at hx'
        cases hx'
        have HK := kp (HK4.out.below hbl HK4.out.lt)
        clear hpre hbl
        by_cases hli : i < fn.len
        · obtain ⟨bd, x, e3, hbb, hy, hxok, hn0, hn1, hn2, hn3⟩ := hok.nodes.get hli
          rw [e3]
          have HY := kp hy
          clear hok hy hxok e3
          by_cases h7 : x.kind = 7
          · have hz7 : (x.kind == 7) = true := by simpa using h7
            obtain ⟨ha0, han⟩ := may_call (HMays.out i x HY.out) h7
            obtain ⟨k, hk⟩ : ∃ k : Nat, x.arg = (k : Int) := ⟨x.arg.toNat, by omega⟩
            have hkn : k < p.len := by omega
            have hk16 : k < 16 := by omega
            have hf16 : f < 16 := by omega
            obtain ⟨v, hv, hev⟩ := Q.ent_at HL.out hk16 hf16
            have HV := kp hv
            have HRd : Kept (Q.roundAt p f i ↔ v = true) := kp <| by
              rw [← hev, HEnt.out k f hk16 hf16]
              unfold Q.roundAt
              have hcall : Q.calls p f k := ⟨fn, HX.out, x, List.mem_of_getElem? HY.out, h7, hk⟩
              constructor
              · rintro ⟨fn2, nd, g1', g2', _, k2, g4, g5, g6⟩
                rw [HX.out] at g1'
                cases g1'
                rw [HY.out] at g2'
                cases g2'
                have : k2 = k := by omega
                subst this
                rcases g6 with g6 | g6
                · subst g6
                  exact .one hcall
                · rw [HLen.out] at g6
                  exact Q.reach_more h16 g6
              · intro h
                refine ⟨fn, x, HX.out, HY.out, h7, k, hk, by rw [HLen.out]; exact hkn, .inr ?_⟩
                rw [HLen.out]
                exact Q.reach_less (Q.calls_lt HFit.out) h
            have HKx := kp hk
            have hfi : (f : Int) < (16 : Int) := by omega
            have hki : (k : Int) < (16 : Int) := by omega
            have hf0 : (0 : Int) ≤ (f : Int) := by omega
            have hk0 : (0 : Int) ≤ (k : Int) := by omega
            clear h7 ha0 han hk hv hev
            cases v
            · have HNx : Kept (∀ j, j < i + 1 → ¬ Q.roundAt p f j) := kp fun j hj h => by
                by_cases e : j = i
                · subst e
                  have := HRd.out.1 h
                  cases this
                · exact HPreI.out j (by omega) h
              go_wp2_with (first
                | ((with_reducible show Sl 9); go_must (refine j3 rfl 75 rfl (ndC ⟨0, 0, 0, 0⟩) jR ?_); intro g5 w6 hg5 hk6 hw6; have HG5 := kp hg5; have HK6 := kp hk6; have HW6 := kp hw6; clear hg5 hk6 hw6)
                | ((with_reducible show Sn); go_must (refine j4 rfl 75 (.tmp 9) (.tmp 26) rfl g5 (ndC x) rfl rfl _ _ HK6.out jK rfl (jS x) ?_); intro w7 hk7 hg7 hs7
                   obtain ⟨hx0, hx1, hx2, hx3⟩ := jQ hk7
                   have HBq7 := kp (HW6.out.grown hg7 HW6.out.size (fun k hk => by cases hk; exact HG5.out))
                   have HB7 := kp (HBL.out.trans (HBq7.out.mono hszq))
                   have hcv := ((HK.out.below HBq7.out HK.out.lt).cell (k * 16 + f)).trans (qE HV.out)
                   rw [HKx.out] at hx1
                   clear hk7 hg7 hs7 hn0 hn1 hn2 hn3))
              go_roundw
              case rel => exact ⟨i + 1, by omega, by go_num, HNx.out, HB7.out⟩
              case measure => simp [intOf]; omega
            · have HE := kp (lY HC.out (Q.check_round HCo.out HFine.out (HRd.out.2 rfl) (by omega) (by rw [HLen.out]; exact hlt) HPre.out HPreI.out))
              go_wp2_with (first
                | ((with_reducible show Sl 9); go_must (refine j3 rfl 75 rfl (ndC ⟨0, 0, 0, 0⟩) jR ?_); intro g5 w6 hg5 hk6 hw6; have HG5 := kp hg5; have HK6 := kp hk6; have HW6 := kp hw6; clear hg5 hk6 hw6)
                | ((with_reducible show Sn); go_must (refine j4 rfl 75 (.tmp 9) (.tmp 26) rfl g5 (ndC x) rfl rfl _ _ HK6.out jK rfl (jS x) ?_); intro w7 hk7 hg7 hs7
                   obtain ⟨hx0, hx1, hx2, hx3⟩ := jQ hk7
                   have HBq7 := kp (HW6.out.grown hg7 HW6.out.size (fun k hk => by cases hk; exact HG5.out))
                   have HB7 := kp (HBL.out.trans (HBq7.out.mono hszq))
                   have hcv := ((HK.out.below HBq7.out HK.out.lt).cell (k * 16 + f)).trans (qE HV.out)
                   rw [HKx.out] at hx1
                   clear hk7 hg7 hs7 hn0 hn1 hn2 hn3))
              go_ret3
              exact ⟨HE.out, HW4.out.trans (HB7.out.mono hs4)⟩
          · have hz7 : (x.kind == 7) = false := by simpa using h7
            have HNx : Kept (∀ j, j < i + 1 → ¬ Q.roundAt p f j) := kp fun j hj h => by
              by_cases e : j = i
              · subst e
                obtain ⟨fn2, nd, g1', g2', g3, _⟩ := h
                rw [HX.out] at g1'
                cases g1'
                rw [HY.out] at g2'
                cases g2'
                exact h7 g3
              · exact HPreI.out j (by omega) h
            clear h7
            go_wp2_with (first
              | ((with_reducible show Sl 9); go_must (refine j3 rfl 75 rfl (ndC ⟨0, 0, 0, 0⟩) jR ?_); intro g5 w6 hg5 hk6 hw6; have HG5 := kp hg5; have HK6 := kp hk6; have HW6 := kp hw6; clear hg5 hk6 hw6)
              | ((with_reducible show Sn); go_must (refine j4 rfl 75 (.tmp 9) (.tmp 26) rfl g5 (ndC x) rfl rfl _ _ HK6.out jK rfl (jS x) ?_); intro w7 hk7 hg7 hs7
                 obtain ⟨hx0, hx1, hx2, hx3⟩ := jQ hk7
                 have HBq7 := kp (HW6.out.grown hg7 HW6.out.size (fun k hk => by cases hk; exact HG5.out))
                 have HB7 := kp (HBL.out.trans (HBq7.out.mono hszq))
                 clear hk7 hg7 hs7 hn0 hn1 hn2 hn3))
            go_roundw
            case rel => exact ⟨i + 1, by omega, by go_num, HNx.out, HB7.out⟩
            case measure => simp [intOf]; omega
        · have HNx : Kept (∀ j, j < f + 1 → ¬ Q.badRound p j) := kp fun j hj h => by
            by_cases e : j = f
            · subst e
              obtain ⟨i2, h2⟩ := h
              by_cases hlt2 : i2 < i
              · exact HPreI.out i2 hlt2 h2
              · obtain ⟨fn2, nd, g1', g2', _⟩ := h2
                rw [HX.out] at g1'
                cases g1'
                have := (List.getElem?_eq_some_iff.1 g2').1
                rw [HFl.out] at this
                omega
            · exact HPre.out j (by omega) h
          have hge : fn.len ≤ i := by omega
          clear hli hok
          go_wp2
          go_roundw
          case rel => exact ⟨f + 1, by omega, by go_num, HNx.out, HBL.out⟩
          case measure => simp [intOf]; omega
    · have HE := kp (lY HC.out (Q.check_fine HCo.out HFine.out fun j hj => HPre.out j (by rw [HLen.out] at hj; omega)))
      have hge : p.len ≤ f := by omega
      clear hlt
      go_wp2
      go_ret3
      exact ⟨HE.out, HW4.out.trans (HBL.out.mono hs4)⟩
end Go.Proofs.Ytkhfolpffjihgaa
