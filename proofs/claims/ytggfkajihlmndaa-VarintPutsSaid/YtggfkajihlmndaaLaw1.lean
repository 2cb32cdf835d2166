/- What the statements of varint begin with, walked. -/
import Derived.Test.YtggfkajihlmndaaWalk2
import Derived.Test.YtggfkajihlmndaaWalk4
namespace Go.Proofs.Ytggfkajihlmndaa
open Go.RowKit

theorem put_300 : V.put 300 = [172, 2] := by rw [V.put_on _ (by omega), V.put_last _ (by omega)]
theorem get_128_0 : V.get [128, 0] = (0, 0, 3) := by rfl
theorem size_300 : V.size 300 = 2 := by rfl

set_option maxRecDepth 100000 in
set_option maxHeartbeats 800000 in
theorem awake_any (w : World) : Calls Try.prog 9 #[] w fun e w' => e = .returned (.bool true) ∧ Below w.heap.size w w' := by
  have HL := Lib.hid (Row.lit u8 w [128, 0] #[.int .u8 128, .int .u8 0] rfl 5)
  have HN : Hid (∀ x ∈ [128, 0], x < 256) := by show ∀ x ∈ [128, 0], x < 256; simp
  go_enter Try.func9, Try.ntmps9
  go_wp2_with fail
  refine (get_any _ _ _ _ [128, 0] _ HL.out HN.out (by simp [maxLen])).mono ?_
  rintro e w2 ⟨rfl, rfl⟩
  rw [get_128_0]
  go_wp2_with fail
  refine (put_any 300 (by omega) _).mono ?_
  rintro e w1 ⟨v1, rfl, hown1, hb1⟩
  obtain ⟨A, cap, rfl, _, _, hr⟩ := hown1.bytes
  have HB1 := Lib.hid hb1
  rw [put_300] at hr
  rw [put_300]
  have hs : (convert 25 9 (.slice A 2 cap)).run Try.prog w1 = .ok (.string ⟨#[172, 2]⟩) w1 := run_string hr 25 5 9 cap Try.underlying25 Try.underlying5 Try.underlying9
  clear hown1 hb1 hr
  go_wp2_with fail
  refine (size_any 300 (by omega) _).mono ?_
  rintro e w2 ⟨rfl, rfl⟩
  rw [size_300]
  go_wp2
  go_ret
  exact ⟨rfl, ((Below.refl _ _).alloc (Nat.le_refl _) _).trans (HB1.out.mono (by simp))⟩
theorem get_as {B : Nat} {A : Option Addr} {n c : Nat} {bs : List Nat} {w : World} {x u e : Nat} (hg : V.get bs = (x, u, e)) (hr : Row u8 w B A n bs) (hb : ∀ x ∈ bs, x < 256) (hn : n ≤ maxLen) :
    Calls Try.prog 14 #[.slice A n c] w fun r w' => r = .returned (.tuple #[.int .u32 (x : Int), .int .i64 (u : Int), .int .i64 (e : Int)]) ∧ w = w' := by
  have h := get_any B A n c bs w hr hb hn
  rw [hg] at h
  exact h

end Go.Proofs.Ytggfkajihlmndaa
