/- What the document's own Put makes, walked. -/
import Derived.Test.YtgdnimhhhllgaaaDoorWalk2
import Derived.Test.YtgdnimhhhllgaaaDoorKit
namespace Go.Proofs.YtgdnimhhhllgaaaDoor
open Go.RowKit

theorem put_le (n : Nat) (hn : n < 4294967296) : (V.put n).length ≤ 5 := by rw [V.len_put n hn]; exact V.size_le n

set_option maxRecDepth 100000 in
set_option maxHeartbeats 800000 in
theorem ref_put_last (n : Nat) (w : World) (h1 : n < 128) :
    Calls Tryd.prog 10 #[.int .i64 (n : Int)] w fun e w' => ∃ v, e = .returned v ∧ Own w' w.heap.size 5 v ((V.put n).map byteV) ∧ Below w.heap.size w w' := by
  go_enter Tryd.func10, Tryd.ntmps10
  go_wp2
  go_ret
  exact ⟨_, rfl, by rw [V.put_last n h1]; exact Own.new w w.heap.size 5 [byteV n] (Nat.le_refl _) (by simp [maxLen]), (Below.refl _ _).alloc (Nat.le_refl _) _⟩

set_option maxRecDepth 100000 in
set_option maxHeartbeats 800000 in
theorem ref_put_any : ∀ (f n : Nat) (w : World), n < 128 ^ f → n < 4294967296 →
    Calls Tryd.prog 10 #[.int .i64 (n : Int)] w fun e w' => ∃ v, e = .returned v ∧ Own w' w.heap.size 5 v ((V.put n).map byteV) ∧ Below w.heap.size w w'
  | 0, n, w, h, hn => ref_put_last n w (by simp at h; omega)
  | f + 1, n, w, h, hn => by
    by_cases h1 : n < 128
    · exact ref_put_last n w h1
    · have hc := Lib.hid (ref_put_any f (n / 128) (w.alloc (.cells #[.int .u8 (128 + (n : Int) % 128)] 5)) (by rw [Nat.pow_succ] at h; omega) (by omega))
      have HL := Lib.hid (put_le (n / 128) (by omega))
      have HN := Lib.hid (Own.new w w.heap.size 5 [.int .u8 (128 + (n : Int) % 128)] (Nat.le_refl _) (by simp [maxLen]))
      have HP := Lib.hid (V.put_on n h1)
      go_enter Tryd.func10, Tryd.ntmps10
      go_wp2_with fail
      refine hc.out.mono ?_
      rintro e w1 ⟨v1, rfl, hown1, hb1⟩
      have hB1 : w.heap.size ≤ w1.heap.size := by have := hb1.size; simp at this; omega
      have HN1 := Lib.hid (HN.out.below hb1 (Nat.le_refl _))
      have HB1 : Hid (Below w.heap.size w w1) := ((Below.refl _ _).alloc (Nat.le_refl _) _).trans (hb1.mono (by simp))
      obtain ⟨A, cap, rfl, hcap, _, hr⟩ := hown1.bytes
      have HR := Lib.hid hr.vals
      clear hown1 hr hb1
      go_wp2_with (at_builtin; go_must (refine wpList_append_row rfl (.tmp 12) (.tmp 15) 25 rfl w.heap.size 5 _ _ Tryd.underlying25 byte_info rfl w1 _ _ rfl HN1.out A _ cap _ _ rfl HR.out (ones _ one_byteV _) (by have := HL.out; simp [maxLen]; omega) (by have := HL.out; simp; omega) hB1 ?_); intro v2 w2 hown2 hg2; have HO2 := Lib.hid hown2; clear hown2; have HG2 := Lib.hid hg2; clear hg2)
      go_ret
      exact ⟨v2, rfl, by rw [HP.out, List.map_cons]; have h := HO2.out; rw [add_byte n] at h; exact h, HG2.out.below HB1.out HN1.out hB1⟩
theorem ref_put (n : Nat) (hn : n < 4294967296) (w : World) :
    Calls Tryd.prog 10 #[.int .i64 (n : Int)] w fun e w' => ∃ v, e = .returned v ∧ Own w' w.heap.size 5 v ((V.put n).map byteV) ∧ Below w.heap.size w w' :=
  ref_put_any 5 n w (V.five n hn) hn
end Go.Proofs.YtgdnimhhhllgaaaDoor
