/- What the document's own reading of words makes, walked. -/
import Derived.Test.YtoagmmelklkoaaaDoorShaRef1
namespace Go.Proofs.YtoagmmelklkoaaaDoor
open Go.RowKit

theorem byte_info : (Tryd.prog.info? 5).map (fun i => (i.zero, i.size, i.bytes)) = some (some (.int .u8 0), 1, 1) := by kernel_rfl
theorem word_info : (Tryd.prog.info? 41).map (fun i => (i.zero, i.size, i.bytes)) = some (some (.int .u32 0), 1, 4) := by kernel_rfl
def wordV (n : Nat) : Value := .int .u32 (n : Int)
theorem wordV_def (n : Nat) : wordV n = .int .u32 (n : Int) := rfl

def chars (s : ByteArray) : List Nat := s.data.toList.map UInt8.toNat
theorem chars_len (s : ByteArray) : (chars s).length = s.size := by
  show (s.data.toList.map UInt8.toNat).length = s.data.size
  rw [List.length_map, Array.length_toList]
theorem chars_at (s : ByteArray) (k : Nat) (h : k < s.size) : (chars s)[k]? = some s[k].toNat := by
  have h' : k < s.data.size := h
  show (s.data.toList.map UInt8.toNat)[k]? = _
  rw [List.getElem?_map, Array.getElem?_toList, Array.getElem?_eq_getElem h']
  rfl

set_option maxRecDepth 100000 in
set_option maxHeartbeats 800000 in
theorem ref_hex (s : ByteArray) (w : World) (hs : s.size ≤ 1000) :
    Calls Tryd.prog 14 #[.string s] w fun e w' => ∃ v, e = .returned v ∧ Own w' w.heap.size 41 v ((H.hexL (chars s)).map wordV) ∧ Below w.heap.size w w' := by
  go_enter Tryd.func14, Tryd.ntmps14
  go_wp2
  go_loopw [3, 4, 5] (fun v3 v4 v5 wr => ∃ k : Nat, k ≤ s.size ∧ v5 = .int .i64 k ∧ v4 = .int .u32 ((H.hexRun ((chars s).take k)).2 : Int) ∧ Own wr w.heap.size 41 v3 ((H.hexRun ((chars s).take k)).1.map wordV) ∧ Below w.heap.size w wr) (fun _ _ v5 _ => s.size - (intOf v5).toNat)
  case atStart => exact ⟨0, by omega, rfl, rfl, Own.nil _ _ _, Below.refl _ _⟩
  case round =>
    obtain ⟨k, hk, rfl, rfl, hown, hbl⟩ := hrel
    have hB := hbl.size
    have hlt2 := H.hexRun_lt ((chars s).take k)
    have hlen : (H.hexRun ((chars s).take k)).1.length ≤ 1000 := by
      have := hlt2.2; rw [List.length_take, chars_len] at this; omega
    have hn := hlt2.1
    have HSt : ∀ c, (chars s)[k]? = some c → H.hexRun ((chars s).take (k + 1)) = H.hexStep (H.hexRun ((chars s).take k)) c := by
      intro c hc
      rw [List.take_add_one, hc]; exact H.hexRun_snoc _ _
    clear hlt2
    by_cases hlt : k < s.size
    · have hst := HSt _ (chars_at s k hlt)
      have hc8 : s[k].toNat < 256 := UInt8.toNat_lt _
      generalize H.hexRun ((chars s).take k) = st at *
      have HOwn := Lib.hid hown; clear hown
      have HBL := Lib.hid hbl; clear hbl
      clear HSt
      by_cases h32 : s[k].toNat = 32
      · have hb : ((s[k].toNat : Int) == 32) = true := by simp; omega
        have hst' : H.hexRun ((chars s).take (k + 1)) = (st.1 ++ [st.2], 0) := by rw [hst, H.hexStep, if_pos h32]
        have HST := Lib.hid hst'
        clear hst hst' h32
        go_wp2_with (at_builtin; go_must (refine wpList_append_one rfl (.tmp 26) (.tmp 28) 38 rfl w.heap.size 41 _ _ Tryd.underlying38 word_info rfl wr _ (st.1.map wordV) _ rfl HOwn.out _ 1 rfl rfl rfl (by simp [maxLen]; omega) (by simp; omega) hB ?_); intro v1 w1 hown1 hg1; have HOwn1 := Lib.hid hown1; clear hown1; have HG1 := Lib.hid hg1; clear hg1)
        go_roundw
        case rel => exact ⟨k + 1, by omega, by go_num, by rw [HST.out]; rfl, by rw [HST.out, List.map_append]; exact HOwn1.out, HG1.out.below HBL.out HOwn.out hB⟩
        case measure => simp [intOf]; omega
      · have hb : ((s[k].toNat : Int) == 32) = false := by simp; omega
        by_cases h57 : s[k].toNat ≤ 57
        · have hst' : H.hexRun ((chars s).take (k + 1)) = (st.1, (16 * st.2 + (s[k].toNat + 208) % 256) % 4294967296) := by rw [hst, H.hexStep, if_neg h32, if_pos h57]
          have HST := Lib.hid hst'
          clear hst hst' h32
          go_wp2
          go_round
          case rel => exact ⟨k + 1, by omega, by go_num, by rw [HST.out]; simp only; congr 1; omega, by rw [HST.out]; exact HOwn.out, HBL.out⟩
          case measure => simp [intOf]; omega
        · have hst' : H.hexRun ((chars s).take (k + 1)) = (st.1, (16 * st.2 + (s[k].toNat + 159) % 256 + 10) % 4294967296) := by rw [hst, H.hexStep, if_neg h32, if_neg h57]
          have HST := Lib.hid hst'
          clear hst hst' h32
          go_wp2
          go_round
          case rel => exact ⟨k + 1, by omega, by go_num, by rw [HST.out]; simp only; congr 1; omega, by rw [HST.out]; exact HOwn.out, HBL.out⟩
          case measure => simp [intOf]; omega
    · have hke : k = s.size := by omega
      have HE : Hid ((chars s).take k = chars s) := by show _ = _; rw [List.take_of_length_le (by rw [chars_len]; omega)]
      generalize hst0 : H.hexRun ((chars s).take k) = st at *
      have HOwn := Lib.hid hown; clear hown
      have HBL := Lib.hid hbl; clear hbl
      have HST0 := Lib.hid hst0
      clear HSt hke hst0
      go_wp2_with (at_builtin; go_must (refine wpList_append_one rfl (.tmp 43) (.tmp 45) 38 rfl w.heap.size 41 _ _ Tryd.underlying38 word_info rfl wr _ (st.1.map wordV) _ rfl HOwn.out _ 1 rfl rfl rfl (by simp [maxLen]; omega) (by simp; omega) hB ?_); intro v1 w1 hown1 hg1; have HOwn1 := Lib.hid hown1; clear hown1; have HG1 := Lib.hid hg1; clear hg1)
      go_ret
      refine ⟨v1, rfl, ?_, HG1.out.below HBL.out HOwn.out hB⟩
      have h := HOwn1.out
      unfold H.hexL
      rw [← HE.out, HST0.out, List.map_append]
      exact h
end Go.Proofs.YtoagmmelklkoaaaDoor
