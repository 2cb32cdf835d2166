/- ShaRef1, ShaP1, ShaRef2, ShaRef3, in one text. -/
import Derived.Test.YtdnhfpphjpnklaaDoorRows
import Derived.Test.YtdnhfpphjpnklaaDoorBase
import Derived.Test.YtdnhfpphjpnklaaDoorPk13
import Derived.Deep.QuietTactic
import Derived.BigQuiet
import Derived.Test.YtdnhfpphjpnklaaDoorPk1
/- What the document's own turning of a word does, walked. -/
namespace Go.Proofs.YtdnhfpphjpnklaaDoor
open Go.RowKit

set_option maxRecDepth 100000 in
set_option maxHeartbeats 400000 in
theorem ref_r (x n : Nat) (hx : x < 4294967296) (hn : n ≤ 32) (w : World) :
    Calls Tryd.prog 24 #[.int .u32 (x : Int), .int .i64 (n : Int)] w fun e w' => e = .returned (.int .u32 (H.rot x n : Int)) ∧ ∃ k, w' = w.drewN k := by
  go_enter Tryd.func24, Tryd.ntmps24
  go_wp2
  go_quiet (fail)
  go_wp2
  go_ret
  exact ⟨ret_int (H.rot_bits x n hx), _, rfl⟩
end Go.Proofs.YtdnhfpphjpnklaaDoor

/- What the program's turning of a word does, walked. -/
namespace Go.Proofs.YtdnhfpphjpnklaaDoor
open Go.RowKit

theorem rot_comm (x n : Nat) (hx : x < 4294967296) : bits .or .u32 ((x * 2 ^ (32 - n) % 4294967296 : Nat) : Int) ((x / 2 ^ n : Nat) : Int) = ((H.rot x n : Nat) : Int) := by
  rw [u32_or_nat _ _ (Nat.mod_lt _ (by decide)) (Nat.lt_of_le_of_lt (Nat.div_le_self _ _) hx), Nat.or_comm]; rfl

/-- For each number of places: what the walk spells of it. -/
theorem rotl_one (x n : Nat) (hm : bits BinOp.and IntKind.u64 (IntKind.u64.wrap (-(n : Int))) 31 = 32 - (n : Int)) (hx : x < 4294967296) (h1 : 2 ≤ n) (h2 : n ≤ 25) (w : World) :
    Calls Tryd.prog 47 #[.int .u32 (x : Int), .int .i64 (-(n : Int))] w fun e w' => e = .returned (.int .u32 (H.rot x n : Int)) ∧ w = w' := by
  have HC := Lib.hid (rot_comm x n hx)
  have HE : Hid (32 - (32 - n) = n) := by show _ = _; omega
  go_enter Tryd.func47, Tryd.ntmps47
  go_wp2
  go_ret
  refine ⟨ret_int ?_, rfl⟩
  rw [HE.out, ← HC.out, Int.natCast_emod, Int.natCast_mul, Int.natCast_pow, Int.natCast_ediv, Int.natCast_pow]; rfl
theorem rotl_any (x n : Nat) (hx : x < 4294967296) (hn : n = 2 ∨ n = 6 ∨ n = 7 ∨ n = 11 ∨ n = 13 ∨ n = 17 ∨ n = 18 ∨ n = 19 ∨ n = 22 ∨ n = 25) (w : World) :
    Calls Tryd.prog 47 #[.int .u32 (x : Int), .int .i64 (-(n : Int))] w fun e w' => e = .returned (.int .u32 (H.rot x n : Int)) ∧ w = w' := by
  rcases hn with rfl | rfl | rfl | rfl | rfl | rfl | rfl | rfl | rfl | rfl <;> exact rotl_one x _ (by decide +kernel) hx (by omega) (by omega) w

set_option maxRecDepth 100000 in
set_option maxHeartbeats 800000 in
theorem right_any (x n : Nat) (hx : x < 4294967296) (hn : n = 2 ∨ n = 6 ∨ n = 7 ∨ n = 11 ∨ n = 13 ∨ n = 17 ∨ n = 18 ∨ n = 19 ∨ n = 22 ∨ n = 25) (w : World) :
    Calls Tryd.prog 46 #[.int .u32 (x : Int), .int .i64 (n : Int)] w fun e w' => e = .returned (.int .u32 (H.rot x n : Int)) ∧ w = w' := by
  have HN := Lib.hid hn
  have hn2 : n ≤ 25 := by omega
  clear hn
  go_enter Tryd.func46, Tryd.ntmps46
  go_wp2_with (go_at_call 47; go_must (refine (rotl_any x n hx HN.out _).mono ?_); rintro e w' ⟨rfl, rfl⟩)
  go_ret
  exact ⟨rfl, rfl⟩
end Go.Proofs.YtdnhfpphjpnklaaDoor

/- What the document's own reading of words makes, walked. -/
namespace Go.Proofs.YtdnhfpphjpnklaaDoor
open Go.RowKit


def chars (s : ByteArray) : List Nat := s.data.toList.map UInt8.toNat
theorem chars_len (s : ByteArray) : (chars s).length = s.size := by
  show (s.data.toList.map UInt8.toNat).length = s.data.size
  rw [List.length_map, Array.length_toList]
theorem chars_at (s : ByteArray) (k : Nat) (h : k < s.size) : (chars s)[k]? = some s[k].toNat := by
  have h' : k < s.data.size := h
  show (s.data.toList.map UInt8.toNat)[k]? = _
  rw [List.getElem?_map, Array.getElem?_toList, Array.getElem?_eq_getElem h']
  rfl

set_option maxRecDepth 100000 in
set_option maxHeartbeats 800000 in
theorem ref_hex (s : ByteArray) (w : World) (hs : s.size ≤ 1000) :
    Calls Tryd.prog 22 #[.string s] w fun e w' => ∃ v, e = .returned v ∧ Own w' w.heap.size 66 v ((H.hexL (chars s)).map wordV) ∧ Below w.heap.size w w' := by
  go_enter Tryd.func22, Tryd.ntmps22
  go_wp2
  go_loopw [3, 4, 5] (fun v3 v4 v5 wr => ∃ k : Nat, k ≤ s.size ∧ v5 = .int .i64 k ∧ v4 = .int .u32 ((H.hexRun ((chars s).take k)).2 : Int) ∧ Own wr w.heap.size 66 v3 ((H.hexRun ((chars s).take k)).1.map wordV) ∧ Below w.heap.size w wr) (fun _ _ v5 _ => s.size - (intOf v5).toNat)
  case atStart => exact ⟨0, by omega, rfl, rfl, Own.nil _ _ _, Below.refl _ _⟩
  case round =>
    obtain ⟨k, hk, rfl, rfl, hown, hbl⟩ := hrel
    have hB := hbl.size
    have hlt2 := H.hexRun_lt ((chars s).take k)
    have hlen : (H.hexRun ((chars s).take k)).1.length ≤ 1000 := by
      have := hlt2.2; rw [List.length_take, chars_len] at this; omega
    have hn := hlt2.1
    have HSt : ∀ c, (chars s)[k]? = some c → H.hexRun ((chars s).take (k + 1)) = H.hexStep (H.hexRun ((chars s).take k)) c := by
      intro c hc
      rw [List.take_add_one, hc]; exact H.hexRun_snoc _ _
    clear hlt2
    by_cases hlt : k < s.size
    · have hst := HSt _ (chars_at s k hlt)
      have hc8 : s[k].toNat < 256 := UInt8.toNat_lt _
      generalize H.hexRun ((chars s).take k) = st at *
      have HOwn := Lib.hid hown; clear hown
      have HBL := Lib.hid hbl; clear hbl
      clear HSt
      by_cases h32 : s[k].toNat = 32
      · have hb : ((s[k].toNat : Int) == 32) = true := by simp; omega
        have hst' : H.hexRun ((chars s).take (k + 1)) = (st.1 ++ [st.2], 0) := by rw [hst, H.hexStep, if_pos h32]
        have HST := Lib.hid hst'
        clear hst hst' h32
        go_wp2_with (at_builtin; go_must (refine wpList_append_one rfl (.tmp 26) (.tmp 28) 63 rfl w.heap.size 66 _ _ Tryd.underlying63 word_info rfl wr _ (st.1.map wordV) _ rfl HOwn.out _ 1 rfl rfl rfl (by simp [maxLen]; omega) (by simp; omega) hB ?_); intro v1 w1 hown1 hg1; have HOwn1 := Lib.hid hown1; clear hown1; have HG1 := Lib.hid hg1; clear hg1)
        go_roundw
        case rel => exact ⟨k + 1, by omega, by go_num, by rw [HST.out]; rfl, by rw [HST.out, List.map_append]; exact HOwn1.out, HG1.out.below HBL.out HOwn.out hB⟩
        case measure => simp [intOf]; omega
      · have hb : ((s[k].toNat : Int) == 32) = false := by simp; omega
        by_cases h57 : s[k].toNat ≤ 57
        · have hst' : H.hexRun ((chars s).take (k + 1)) = (st.1, (16 * st.2 + (s[k].toNat + 208) % 256) % 4294967296) := by rw [hst, H.hexStep, if_neg h32, if_pos h57]
          have HST := Lib.hid hst'
          clear hst hst' h32
          go_wp2
          go_round
          case rel => exact ⟨k + 1, by omega, by go_num, by rw [HST.out]; simp only; congr 1; omega, by rw [HST.out]; exact HOwn.out, HBL.out⟩
          case measure => simp [intOf]; omega
        · have hst' : H.hexRun ((chars s).take (k + 1)) = (st.1, (16 * st.2 + (s[k].toNat + 159) % 256 + 10) % 4294967296) := by rw [hst, H.hexStep, if_neg h32, if_neg h57]
          have HST := Lib.hid hst'
          clear hst hst' h32
          go_wp2
          go_round
          case rel => exact ⟨k + 1, by omega, by go_num, by rw [HST.out]; simp only; congr 1; omega, by rw [HST.out]; exact HOwn.out, HBL.out⟩
          case measure => simp [intOf]; omega
    · have hke : k = s.size := by omega
      have HE : Hid ((chars s).take k = chars s) := by show _ = _; rw [List.take_of_length_le (by rw [chars_len]; omega)]
      generalize hst0 : H.hexRun ((chars s).take k) = st at *
      have HOwn := Lib.hid hown; clear hown
      have HBL := Lib.hid hbl; clear hbl
      have HST0 := Lib.hid hst0
      clear HSt hke hst0
      go_wp2_with (at_builtin; go_must (refine wpList_append_one rfl (.tmp 43) (.tmp 45) 63 rfl w.heap.size 66 _ _ Tryd.underlying63 word_info rfl wr _ (st.1.map wordV) _ rfl HOwn.out _ 1 rfl rfl rfl (by simp [maxLen]; omega) (by simp; omega) hB ?_); intro v1 w1 hown1 hg1; have HOwn1 := Lib.hid hown1; clear hown1; have HG1 := Lib.hid hg1; clear hg1)
      go_ret
      refine ⟨v1, rfl, ?_, HG1.out.below HBL.out HOwn.out hB⟩
      have h := HOwn1.out
      unfold H.hexL
      rw [← HE.out, HST0.out, List.map_append]
      exact h
end Go.Proofs.YtdnhfpphjpnklaaDoor

/- What the document's own padding makes, walked. -/
namespace Go.Proofs.YtdnhfpphjpnklaaDoor
open Go.RowKit

theorem be_lens (k n : Nat) : (H.be k n).length = k := H.be_len k n

set_option maxRecDepth 100000 in
set_option maxHeartbeats 800000 in
theorem ref_padded (A : Option Addr) (n c : Nat) (bs : List Nat) (w : World) (hr : Row byteV w w.heap.size A n bs) (hn : n ≤ 100000) :
    Calls Tryd.prog 23 #[.slice A n c] w fun e w' => ∃ v, e = .returned v ∧ Own w' w.heap.size 5 v ((H.pad bs).map byteV) ∧ Below w.heap.size w w' := by
  have HR := Lib.hid hr
  have HL := Lib.hid hr.len
  have HO0 := Lib.hid (Own.new w w.heap.size 5 [] (Nat.le_refl _) (by simp [maxLen]))
  have HB0 : Hid (Below w.heap.size w (w.alloc (.cells #[] 5))) := (Below.refl _ _).alloc (Nat.le_refl _) _
  clear hr
  go_enter Tryd.func23, Tryd.ntmps23
  go_wp2_with (first
    | (at_builtin; have HO1' := HO1; go_must (refine wpList_append_one rfl (.tmp 10) (.tmp 11) 27 rfl w.heap.size 5 _ _ Tryd.underlying27 byte_info rfl _ _ _ _ rfl HO1.out _ 1 rfl rfl rfl (by have := HL.out; simp [maxLen]; omega) (by have := HL.out; simp; omega) (by have := HG1.out.size; simp at this; omega) ?_); intro v2 w2 hown2 hg2; have HO2 := Lib.hid hown2; clear hown2; have HG2 := Lib.hid hg2; clear hg2)
    | (at_builtin; go_must (refine wpList_append_row rfl (.tmp 7) (.tmp 8) 27 rfl w.heap.size 5 _ _ Tryd.underlying27 byte_info rfl _ _ _ rfl HO0.out A _ c _ _ rfl ((HR.out.below HB0.out).vals) (ones _ one_byteV _) (by simp [maxLen]; omega) (by simp; omega) (by simp) ?_); intro v1 w1 hown1 hg1; have HO1 := Lib.hid hown1; clear hown1; have HG1 := Lib.hid hg1; clear hg1))
  have HB1 : Hid (Below w.heap.size w w1) := HG1.out.below HB0.out HO0.out (by simp)
  have HB2 : Hid (Below w.heap.size w w2) := HG2.out.below HB1.out HO1.out HB1.out.size
  have HO3 : Hid (Own w2 w.heap.size 5 v2 ((bs ++ [128] ++ List.replicate 0 0).map byteV)) := by
    have h := HO2.out
    rw [show bs ++ [128] ++ List.replicate 0 0 = bs ++ [128] by simp, List.map_append]
    exact h
  clear HO0 HB0 HG1 HG2 HO1 HO2
  go_loopw [3] (fun v3 wr => ∃ j : Nat, j ≤ H.zeros n ∧ Own wr w.heap.size 5 v3 ((bs ++ [128] ++ List.replicate j 0).map byteV) ∧ Below w.heap.size w wr) (fun v3 _ => match v3 with | .slice _ l _ => n + 1 + H.zeros n - l | _ => 0)
  case atStart => exact ⟨0, by omega, HO3.out, HB2.out⟩
  case round =>
    obtain ⟨j, hj, hown, hbl⟩ := hrel
    have hlen : (bs ++ [128] ++ List.replicate j 0).length = n + 1 + j := by simp [HL.out]; omega
    obtain ⟨A3, c3, rfl, hlc, hcm, hr3⟩ := hown.bytesN hlen
    have hz : H.zeros n < 64 := Nat.mod_lt _ (by omega)
    have HOwn := Lib.hid hown; have HBL := Lib.hid hbl
    have hB := hbl.size
    clear hown hbl hr3 hlen
    by_cases hlt : j < H.zeros n
    · have ht : (((n : Int) + 1 + j) % 64 != 56) = true := by rw [bne_iff_ne]; unfold H.zeros at *; omega
      go_wp2_with (at_builtin; go_must (refine wpList_append_one rfl (.tmp 17) (.tmp 18) 27 rfl w.heap.size 5 _ _ Tryd.underlying27 byte_info rfl wr _ _ _ rfl HOwn.out _ 1 rfl rfl rfl (by have := HL.out; simp [maxLen]; omega) (by have := HL.out; simp; omega) hB ?_); intro v4 w4 hown4 hg4; have HO4 := Lib.hid hown4; clear hown4; have HG4 := Lib.hid hg4; clear hg4)
      have HO5 : Hid (Own w4 w.heap.size 5 v4 ((bs ++ [128] ++ List.replicate (j + 1) 0).map byteV)) := by
        have h := HO4.out
        rw [List.replicate_succ', ← List.append_assoc, List.map_append (l₂ := [0])]
        exact h
      have hlen5 : (bs ++ [128] ++ List.replicate (j + 1) 0).length = n + 1 + (j + 1) := by simp [HL.out]; omega
      obtain ⟨A5, c5, rfl, _, _, _⟩ := HO5.out.bytesN hlen5
      go_roundw
      case rel => exact ⟨j + 1, by omega, HO5.out, HG4.out.below HBL.out HOwn.out hB⟩
      case measure => simp only []; omega
    · have hje : j = H.zeros n := by omega
      have ht : (((n : Int) + 1 + j) % 64 != 56) = false := by rw [hje, bne_eq_false_iff_eq]; unfold H.zeros at *; omega
      have HJ := Lib.hid hje
      clear hje hlt
      go_wp2
      go_loopw [4, 5, 6] (fun v4 v5 v6 wq => ∃ i : Nat, i ≤ 8 ∧ v6 = .int .i64 i ∧ v4 = .int .i64 ((8 * n / 256 ^ i : Nat) : Int) ∧ Own wq w.heap.size 5 v5 ((H.be i (8 * n)).map byteV) ∧ Below wr.heap.size wr wq) (fun _ _ v6 _ => 8 - (intOf v6).toNat)
      case atStart => exact ⟨0, by omega, rfl, by simp, Own.nil _ _ _, Below.refl _ _⟩
      case round =>
        obtain ⟨i, hi, rfl, rfl, hown, hbl⟩ := hrel
        have hdiv : 8 * n / 256 ^ i ≤ 800000 := Nat.le_trans (Nat.div_le_self _ _) (by omega)
        have hnext : 8 * n / 256 ^ i / 256 = 8 * n / 256 ^ (i + 1) := by rw [Nat.pow_succ, Nat.div_div_eq_div_mul]
        have hcons := H.be_cons i (8 * n)
        have hbl8 := be_lens i (8 * n)
        have hB2 : w.heap.size ≤ wr.heap.size := Nat.le_trans hB hbl.size
        generalize 8 * n / 256 ^ i = q at *
        have HNext := Lib.hid hnext
        have HCons := Lib.hid hcons
        have HBL2 := Lib.hid hbl
        have HOwn2 := Lib.hid hown
        have HLen8 := Lib.hid hbl8
        clear hnext hcons hbl hbl8 hown
        by_cases hi8 : i < 8
        · obtain ⟨A6, c6, rfl, _, _, hr6⟩ := HOwn2.out.bytesN HLen8.out
          have HR6 := Lib.hid hr6
          have HN6 := Lib.hid (Own.new wr wr.heap.size 5 [byteV (q % 256)] (Nat.le_refl _) (by simp [maxLen]))
          clear hr6
          go_wp2_with (at_builtin; go_must (refine wpList_append_row rfl (.tmp 30) (.tmp 31) 27 rfl w.heap.size 5 _ _ Tryd.underlying27 byte_info rfl _ _ _ rfl (HN6.out.less hB2) A6 _ c6 _ _ rfl ((HR6.out.below ((Below.refl _ _).alloc (Nat.le_refl _) _)).vals) (ones _ one_byteV _) (by simp [maxLen]; omega) (by simp; omega) (by simp; omega) ?_); intro v7 w7 hown7 hg7; have HO7 := Lib.hid hown7; clear hown7; have HG7 := Lib.hid hg7; clear hg7)
          go_roundw
          case rel => exact ⟨i + 1, by omega, by go_num, by rw [← HNext.out]; go_num, by rw [HCons.out, List.map_cons]; exact HO7.out, (((Below.refl _ _).alloc (Nat.le_refl _) _).trans (HG7.out.below (Below.refl _ _) HN6.out (by simp)) |> fun h => HBL2.out.trans (h.mono HBL2.out.size))⟩
          case measure => simp [intOf]; omega
        · have hie : i = 8 := by omega
          subst hie
          have HO3' := Lib.hid (HOwn.out.below HBL2.out (Nat.le_refl _))
          obtain ⟨A6, c6, rfl, _, _, hr6⟩ := HOwn2.out.bytesN HLen8.out
          have HR6 := Lib.hid hr6
          clear hr6
          go_wp2_with (at_builtin; go_must (refine wpList_append_row rfl (.tmp 35) (.tmp 36) 27 rfl w.heap.size 5 _ _ Tryd.underlying27 byte_info rfl _ _ _ rfl HO3'.out A6 _ c6 _ _ rfl HR6.out.vals (ones _ one_byteV _) (by have := HL.out; simp [maxLen]; omega) (by have := HL.out; simp; omega) hB2 ?_); intro v7 w7 hown7 hg7; have HO7 := Lib.hid hown7; clear hown7; have HG7 := Lib.hid hg7; clear hg7)
          go_ret
          refine ⟨v7, rfl, ?_, HG7.out.below (HBL.out.trans (HBL2.out.mono HBL.out.size)) HO3'.out hB2⟩
          have h := HO7.out
          rw [← List.map_append] at h
          unfold H.pad
          rw [HL.out, ← HJ.out]
          exact h
end Go.Proofs.YtdnhfpphjpnklaaDoor
