/- What varint.add, Row and Put make, walked. -/
import Derived.Test.YtgdnimhhhllgaaaDoorWalk1
import Derived.Test.YtgdnimhhhllgaaaDoorWalk2
import Derived.Test.YtgdnimhhhllgaaaDoorKit
namespace Go.Proofs.YtgdnimhhhllgaaaDoor
open Go.RowKit



set_option maxRecDepth 100000 in
set_option maxHeartbeats 800000 in
theorem add_any (B : Nat) (v : Value) (xs : List Value) (n : Nat) (hn : n < 4294967296) (w : World) (hown : Own w B 5 v xs) (hlen : xs.length ≤ 1000000) (hB : B ≤ w.heap.size) :
    Calls Tryd.prog 45 #[v, .int .u32 (n : Int)] w fun e w' => ∃ v', e = .returned v' ∧ Own w' B 5 v' (xs ++ (V.put n).map byteV) ∧ Grew w w' v v' := by
  have HOwn := Lib.hid hown; clear hown
  have hs0 := V.size_pos n
  have hs1 := V.size_le n
  go_enter Tryd.func45, Tryd.ntmps45
  go_wp2_with (go_at_call 44; refine (size_any n hn _).mono ?_; rintro e w' ⟨rfl, rfl⟩)
  go_loopw [0, 1, 8] (fun v0 v1 v8 wr => ∃ (k m : Nat) (done : List Nat), v8 = .int .i64 k ∧ v1 = .int .u32 m ∧ m < 4294967296 ∧ done.length = k ∧ V.put n = done ++ V.put m ∧ V.size n = k + V.size m ∧
      Own wr B 5 v0 (xs ++ done.map byteV) ∧ Grew w wr v v0) (fun _ _ v8 _ => V.size n - (intOf v8).toNat)
  case atStart => exact ⟨0, n, [], rfl, rfl, hn, rfl, by simp, by omega, by simpa using HOwn.out, Grew.refl _ _⟩
  case round =>
    obtain ⟨k, m, done, rfl, rfl, hm, hk, hput, hsz, hown, hg⟩ := hrel
    have hll : xs.length + done.length ≤ 1000005 := by have := V.size_le n; have := V.size_pos m; omega
    have hB' : B ≤ wr.heap.size := Nat.le_trans hB hg.size
    have HOwn := Lib.hid hown; clear hown
    have HG := Lib.hid hg; clear hg
    have HPut := Lib.hid hput; clear hput
    by_cases h2 : m < 128
    · have hs2 := V.size_last m h2
      have hlt : ¬ (k : Int) < (V.size n : Int) - 1 := by omega
      clear hs2 hsz
      go_wp2_with ((at_builtin; go_must (refine wpList_append_one rfl (.tmp 20) (.tmp 23) 25 rfl B 5 _ _ Tryd.underlying25 byte_info rfl wr _ (xs ++ done.map byteV) _ rfl HOwn.out _ 1 rfl rfl rfl (by simp [maxLen]; omega) (by simp; omega) hB' ?_); intro v1 w1 hown1 hg1; have HOwn1 := Lib.hid hown1; clear hown1; have HG1 := Lib.hid hg1; clear hg1))
      go_ret
      refine ⟨v1, rfl, ?_, HG.out.trans HG1.out⟩
      have h := HOwn1.out
      rw [HPut.out, V.put_last m h2, List.map_append, ← List.append_assoc]
      exact h
    · have hs2 := V.size_on m h2 hm
      have hs3 := V.size_pos (m / 128)
      have hlt : (k : Int) < (V.size n : Int) - 1 := by omega
      have HS : Hid (V.size n = k + 1 + V.size (m / 128)) := by show _ = _; omega
      have HP2 := Lib.hid (V.put_on m h2)
      clear hs2 hs3 hsz
      go_wp2_with ((at_builtin; go_must (refine wpList_append_one rfl (.tmp 10) (.tmp 15) 25 rfl B 5 _ _ Tryd.underlying25 byte_info rfl wr _ (xs ++ done.map byteV) _ rfl HOwn.out _ 1 rfl rfl rfl (by simp [maxLen]; omega) (by simp; omega) hB' ?_); intro v1 w1 hown1 hg1; have HOwn1 := Lib.hid hown1; clear hown1; have HG1 := Lib.hid hg1; clear hg1))
      go_roundw
      case rel =>
        refine ⟨k + 1, m / 128, done ++ [m % 128 + 128], by go_num, by go_num, by omega, by simp; omega, ?_, HS.out, ?_, HG.out.trans HG1.out⟩
        · rw [HPut.out, HP2.out]; simp
        · have h := HOwn1.out
          rw [List.map_append, ← List.append_assoc]
          rw [add_byte m] at h
          exact h
      case measure => simp [intOf]; omega
end Go.Proofs.YtgdnimhhhllgaaaDoor
