/- SetsCount, walked. -/
import Derived.Test.YtpokpaaaeedniaaDoorSetLaw2
namespace Go.Proofs.YtpokpaaaeedniaaDoor
open Go.RowKit

set_option maxRecDepth 1000000 in
set_option maxHeartbeats 1600000 in
theorem walkSetsCount (a0 : Int) (a1 : Int) (a2 : Int) (w : World) (w0 : (Lit.int .u32 a0).wf = true) (w1 : (Lit.int .u32 a1).wf = true) (w2 : (Lit.int .u32 a2).wf = true) (hL : Tab w) :
    Calls Tryd.prog 7 #[.int .u32 a0, .int .u32 a1, .int .u32 a2] w fun e w' => e = .returned (.bool true) ∧ Below w.heap.size w w' := by
  obtain ⟨a, rfl, ha⟩ := nat_u32 w0
  obtain ⟨b, rfl, hb⟩ := nat_u32 w1
  obtain ⟨c, rfl, hc⟩ := nat_u32 w2
  have hs := hL.size
  have HT := kp hL
  have hsum := S.count_or_and a b
  obtain ⟨na, hna⟩ : ∃ n, S.count a = n := ⟨_, rfl⟩
  obtain ⟨nb, hnb⟩ : ∃ n, S.count b = n := ⟨_, rfl⟩
  obtain ⟨o, ho⟩ : ∃ n, a ||| b = n := ⟨_, rfl⟩
  obtain ⟨d, hd⟩ : ∃ n, a &&& b = n := ⟨_, rfl⟩
  have holt : o < 4294967296 := by rw [← ho]; exact or_lt32 a b ha hb
  have hdlt : d < 4294967296 := by rw [← hd]; exact Nat.lt_of_le_of_lt Nat.and_le_left ha
  have HO : Kept (bits .or .u32 (a : Int) (b : Int) = (o : Int)) := kp <| by rw [u32_or_nat a b ha hb, ho]
  have HD : Kept (bits .and .u32 (a : Int) (b : Int) = (d : Int)) := kp <| by rw [u32_and_nat a b ha hb, hd]
  rw [ho, hd] at hsum
  obtain ⟨no, hno⟩ : ∃ n, S.count o = n := ⟨_, rfl⟩
  obtain ⟨nd, hnd⟩ : ∃ n, S.count d = n := ⟨_, rfl⟩
  have b1 := S.count_le a; have b2 := S.count_le b; have b3 := S.count_le o; have b4 := S.count_le d
  rw [hna] at b1; rw [hnb] at b2; rw [hno] at b3; rw [hnd] at b4
  rw [hna, hnb, hno, hnd] at hsum
  obtain ⟨r1, h1⟩ : ∃ r, S.within a b 32 = r := ⟨_, rfl⟩
  obtain ⟨r2, h2⟩ : ∃ r, S.within b c 32 = r := ⟨_, rfl⟩
  obtain ⟨r3, h3⟩ : ∃ r, S.within a c 32 = r := ⟨_, rfl⟩
  obtain ⟨r4, h4⟩ : ∃ r, S.within b a 32 = r := ⟨_, rfl⟩
  have hor : (bits .or .u32 (a : Int) (b : Int) == (b : Int)) = r1 := by
    rw [HO.out, ← h1, S.within_or a b ha hb, ← ho, Bool.eq_iff_iff]
    simp
    omega
  have htr : r1 = true → r2 = true → r3 = true := fun e1 e2 => by
    rw [← h3]; exact S.within_trans a b c (h1.trans e1) (h2.trans e2)
  have heq : ((a : Int) == (b : Int)) = (r1 && r4) := by
    rw [← h1, ← h4, S.within_both a b ha hb, Bool.eq_iff_iff]
    simp
    omega
  have HNa := kp hna; have HNb := kp hnb; have HNo := kp hno; have HNd := kp hnd
  have H1 := kp h1; have H2 := kp h2; have H3 := kp h3; have H4 := kp h4
  clear hna hnb hno hnd h1 h2 h3 h4 w0 w1 w2 hL ho hd
  have hcnt : ((na : Int) + (nb : Int) != (no : Int) + (nd : Int)) = false := by simp; omega
  cases r1 <;> cases r2 <;> cases r3 <;> cases r4
  all_goals first
    | (exfalso; revert htr; decide)
    | skip
  all_goals clear htr
  all_goals go_enter Tryd.func7, Tryd.ntmps7
  all_goals go_wp2_with (first
    | (go_at_call 9; go_must (refine (awake_any _ HT.out hs).mono ?_); rintro e w1 ⟨rfl, hb1⟩; have HB1 := kp hb1; clear hb1)
    | (go_at_call_of 16 (Value.int IntKind.u32 (a : Int)); go_must (refine (count_any a ha na HNa.out _).mono ?_); rintro e w' ⟨rfl, rfl⟩)
    | (go_at_call_of 16 (Value.int IntKind.u32 (b : Int)); go_must (refine (count_any b hb nb HNb.out _).mono ?_); rintro e w' ⟨rfl, rfl⟩)
    | (go_at_call_of 16 (bits BinOp.or IntKind.u32 (a : Int) (b : Int)); go_must (refine (count_at _ o HO.out holt no HNo.out _).mono ?_); rintro e w' ⟨rfl, rfl⟩)
    | (go_at_call_of 16 (bits BinOp.and IntKind.u32 (a : Int) (b : Int)); go_must (refine (count_at _ d HD.out hdlt nd HNd.out _).mono ?_); rintro e w' ⟨rfl, rfl⟩)
    | (go_at_call_of 14 (#[Value.int IntKind.u32 (a : Int), Value.int IntKind.u32 (b : Int)]); go_must (refine (within_any a b ha hb _ H1.out _).mono ?_); rintro e w' ⟨rfl, rfl⟩)
    | (go_at_call_of 14 (#[Value.int IntKind.u32 (b : Int), Value.int IntKind.u32 (c : Int)]); go_must (refine (within_any b c hb hc _ H2.out _).mono ?_); rintro e w' ⟨rfl, rfl⟩)
    | (go_at_call_of 14 (#[Value.int IntKind.u32 (a : Int), Value.int IntKind.u32 (c : Int)]); go_must (refine (within_any a c ha hc _ H3.out _).mono ?_); rintro e w' ⟨rfl, rfl⟩)
    | (go_at_call_of 14 (#[Value.int IntKind.u32 (b : Int), Value.int IntKind.u32 (a : Int)]); go_must (refine (within_any b a hb ha _ H4.out _).mono ?_); rintro e w' ⟨rfl, rfl⟩))
  all_goals go_ret
  all_goals exact ⟨rfl, HB1.out⟩
end Go.Proofs.YtpokpaaaeedniaaDoor
