/- ScriptPuts, walked. -/
import Derived.Test.YtkhfolpffjihgaaPk39
namespace Go.Proofs.Ytkhfolpffjihgaa
open Go.RowKit
theorem zT {z : List (Int × Bool)} {i : Nat} {x : Int × Bool} (hx : z[i]? = some x) : ((z.take i).map M.pb).map byteV ++ [byteV (M.pb x)] = ((z.take (i + 1)).map M.pb).map byteV := by
  rw [List.take_add_one, hx]; simp
set_option maxRecDepth 100000 in
set_option maxHeartbeats 3200000 in
theorem walkScriptPuts (a0 : Option Addr) (len0 cap0 : Nat) (z0 : List (Int × Bool)) (w : World) (w0 : Picks w w.heap.size a0 len0 z0) (c0 : len0 ≤ cap0 ∧ cap0 ≤ maxLen) :
    Calls Try.prog 3 #[.slice a0 len0 cap0] w fun e w' => e = .returned (.bool true) ∧ Below w.heap.size w w' := by
  have HP := kp w0; have HLn := kp w0.1.len
  have hm1 := c0.2; have hc1 := c0.1
  unfold maxLen at hm1
  clear w0 c0
  by_cases hbig : 5000 < len0
  · go_enter Try.func3, Try.ntmps3
    go_wp2_with (go_at_call 9; fail)
    refine (lH w).mono ?_
    rintro e w1 ⟨rfl, hb1⟩
    have HB1 := kp hb1; have hs1 := hb1.size
    clear hb1
    go_wp2_with (go_at_call 9; fail)
    refine (lH w1).mono ?_
    rintro e w2 ⟨rfl, hb2⟩
    have HB2 := kp (HB1.out.trans (hb2.mono hs1))
    clear hb2
    go_wp2
    go_ret
    exact ⟨rfl, HB2.out⟩
  · have hn5 : len0 ≤ 5000 := by omega
    clear hbig
    go_enter Try.func3, Try.ntmps3
    go_wp2_with (go_at_call 9; fail)
    refine (lH w).mono ?_
    rintro e w1 ⟨rfl, hb1⟩
    have HB1 := kp hb1; have hs1 := hb1.size
    have HP1 := kp (HP.out.keep (w' := w1) fun p h => hb1.cell h)
    clear hb1
    go_wp2_with (go_at_call 10; fail)
    refine (sc_put w.heap.size a0 len0 cap0 z0 w1 HP1.out hn5 hs1).mono ?_
    rintro e w2 ⟨h, hb2⟩
    have HB2 := kp (HB1.out.trans (hb2.mono hs1)); have hs2 := HB2.out.size
    have HP2 := kp (HP.out.keep (w' := w2) fun p h => HB2.out.cell h)
    clear hb2
    rcases h with ⟨h4, rfl⟩ | ⟨h4, hbad, rfl⟩ | ⟨h4, hok, g, rfl, hg, hk⟩
    · go_wp2
      go_ret
      exact ⟨rfl, HB2.out⟩
    · have HBad := kp hbad
      clear hbad
      go_wp2
      go_loopw [5, 6] (fun v5 v6 wr => ∃ i : Nat, i ≤ len0 ∧ v6 = .int .i64 i ∧ Own wr w2.heap.size 5 v5 (((z0.take i).map M.pb).map byteV) ∧ (∀ (j : Nat) x, j < i → z0[j]? = some x → M.okP x) ∧ Below w.heap.size w wr ∧ Below w2.heap.size w2 wr) (fun _ v6 _ => len0 - (intOf v6).toNat)
      case atStart => exact ⟨0, by omega, rfl, Own.nil _ _ _, (fun _ _ h => by omega), HB2.out, Below.refl _ _⟩
      case round =>
        obtain ⟨i, hi, rfl, hown, hbef, hbw, hbw2⟩ := hrel
        have hl5 : (((z0.take i).map M.pb).map byteV).length = i := by simp; have := HLn.out; omega
        have HOw := kp hown; have HBef := kp hbef; have HBw := kp hbw; have HBw2 := kp hbw2; have hsz := hbw.size; have hsz2 := hbw2.size; have HL5 := kp hl5
        have HPr := kp (HP.out.keep (w' := wr) fun p h => hbw.cell h)
        clear hown hbef hbw hbw2 hl5
        by_cases hlt : i < len0
        · obtain ⟨ad, x, rfl, hab, hx, h0, hc⟩ := HPr.out.1.field hlt
          have HX := kp hx
          have c0 := h0 (by omega); have c1 := hc 1 (by omega) (by omega)
          clear h0 hc hx
          obtain ⟨xw, xb⟩ := x
          replace c0 : wr.cell? (ad.add (i * 2)) = some (.int .i64 xw) := c0
          replace c1 : wr.cell? ⟨(ad.add (i * 2)).block, (ad.add (i * 2)).off + 1, none⟩ = some (.bool xb) := c1
          by_cases hlo : xw < 0
          · go_wp2
            go_ret
            exact ⟨rfl, HBw.out⟩
          · by_cases hhi : 7 < xw
            · go_wp2
              go_ret
              exact ⟨rfl, HBw.out⟩
            · have HOkx : Kept (M.okP (xw, xb)) := kp ⟨by show 0 ≤ xw; omega, by show xw ≤ 7; omega⟩
              have HE := kp (M.pb_int HOkx.out)
              cases xb with
              | true =>
                have HV : Kept (byteV (M.pb (xw, true)) = .int .u8 (xw + 8)) := kp (by unfold byteV; rw [HE.out]; simp)
                go_wp2_with (first
                  | (at_builtin; go_must (refine lG rfl (.tmp 70) (.tmp 73) 24 rfl w2.heap.size 5 _ _ Try.underlying24 xZ rfl wr _ (((z0.take i).map M.pb).map byteV) _ rfl HOw.out _ 1 rfl rfl rfl (by rw [HL5.out]; unfold maxLen; omega) (by rw [HL5.out]; omega) hsz2 ?_); intro v9 w3 hown3 hgr3
                     have HB3 := kp (HB2.out.trans ((hgr3.below HBw2.out HOw.out hsz2).mono hs2)); have HB32 := kp (hgr3.below HBw2.out HOw.out hsz2)
                     rw [← HV.out, zT HX.out] at hown3
                     have HOw3 := kp hown3; clear hown3 hgr3))
                go_roundw
                case rel =>
                  refine ⟨i + 1, by omega, by go_num, HOw3.out, fun j y hj hy => ?_, HB3.out, HB32.out⟩
                  by_cases e : j = i
                  · subst e
                    rw [HX.out] at hy
                    cases hy
                    exact HOkx.out
                  · exact HBef.out j y (by omega) hy
                case measure => simp [intOf]; omega
              | false =>
                have HV : Kept (byteV (M.pb (xw, false)) = .int .u8 (xw)) := kp (by unfold byteV; rw [HE.out]; simp)
                go_wp2_with (first
                  | (at_builtin; go_must (refine lG rfl (.tmp 70) (.tmp 73) 24 rfl w2.heap.size 5 _ _ Try.underlying24 xZ rfl wr _ (((z0.take i).map M.pb).map byteV) _ rfl HOw.out _ 1 rfl rfl rfl (by rw [HL5.out]; unfold maxLen; omega) (by rw [HL5.out]; omega) hsz2 ?_); intro v9 w3 hown3 hgr3
                     have HB3 := kp (HB2.out.trans ((hgr3.below HBw2.out HOw.out hsz2).mono hs2)); have HB32 := kp (hgr3.below HBw2.out HOw.out hsz2)
                     rw [← HV.out, zT HX.out] at hown3
                     have HOw3 := kp hown3; clear hown3 hgr3))
                go_roundw
                case rel =>
                  refine ⟨i + 1, by omega, by go_num, HOw3.out, fun j y hj hy => ?_, HB3.out, HB32.out⟩
                  by_cases e : j = i
                  · subst e
                    rw [HX.out] at hy
                    cases hy
                    exact HOkx.out
                  · exact HBef.out j y (by omega) hy
                case measure => simp [intOf]; omega
        · have hge : len0 ≤ i := by omega
          clear hlt
          exfalso
          obtain ⟨x, hx, hno⟩ := HBad.out
          obtain ⟨j, hj⟩ := List.getElem?_of_mem hx
          exact hno (HBef.out j x (by have := (List.getElem?_eq_some_iff.1 hj).1; have := HLn.out; omega) hj)
    · have HOk := kp hok; have HG := kp hg; have HK := kp hk
      clear hok hg hk
      go_wp2
      go_loopw [5, 6] (fun v5 v6 wr => ∃ i : Nat, i ≤ len0 ∧ v6 = .int .i64 i ∧ Own wr w2.heap.size 5 v5 (((z0.take i).map M.pb).map byteV) ∧ (∀ (j : Nat) x, j < i → z0[j]? = some x → M.okP x) ∧ Below w.heap.size w wr ∧ Below w2.heap.size w2 wr) (fun _ v6 _ => len0 - (intOf v6).toNat)
      case atStart => exact ⟨0, by omega, rfl, Own.nil _ _ _, (fun _ _ h => by omega), HB2.out, Below.refl _ _⟩
      case round =>
        obtain ⟨i, hi, rfl, hown, hbef, hbw, hbw2⟩ := hrel
        have hl5 : (((z0.take i).map M.pb).map byteV).length = i := by simp; have := HLn.out; omega
        have HOw := kp hown; have HBef := kp hbef; have HBw := kp hbw; have HBw2 := kp hbw2; have hsz := hbw.size; have hsz2 := hbw2.size; have HL5 := kp hl5
        have HPr := kp (HP.out.keep (w' := wr) fun p h => hbw.cell h)
        clear hown hbef hbw hbw2 hl5
        by_cases hlt : i < len0
        · obtain ⟨ad, x, rfl, hab, hx, h0, hc⟩ := HPr.out.1.field hlt
          have HX := kp hx
          have c0 := h0 (by omega); have c1 := hc 1 (by omega) (by omega)
          clear h0 hc hx
          obtain ⟨xw, xb⟩ := x
          replace c0 : wr.cell? (ad.add (i * 2)) = some (.int .i64 xw) := c0
          replace c1 : wr.cell? ⟨(ad.add (i * 2)).block, (ad.add (i * 2)).off + 1, none⟩ = some (.bool xb) := c1
          by_cases hlo : xw < 0
          · exact absurd (HOk.out _ (List.mem_of_getElem? HX.out)).1 (by simp only; omega)
          · by_cases hhi : 7 < xw
            · exact absurd (HOk.out _ (List.mem_of_getElem? HX.out)).2 (by simp only; omega)
            · have HOkx : Kept (M.okP (xw, xb)) := kp ⟨by show 0 ≤ xw; omega, by show xw ≤ 7; omega⟩
              have HE := kp (M.pb_int HOkx.out)
              cases xb with
              | true =>
                have HV : Kept (byteV (M.pb (xw, true)) = .int .u8 (xw + 8)) := kp (by unfold byteV; rw [HE.out]; simp)
                go_wp2_with (first
                  | (at_builtin; go_must (refine lG rfl (.tmp 70) (.tmp 73) 24 rfl w2.heap.size 5 _ _ Try.underlying24 xZ rfl wr _ (((z0.take i).map M.pb).map byteV) _ rfl HOw.out _ 1 rfl rfl rfl (by rw [HL5.out]; unfold maxLen; omega) (by rw [HL5.out]; omega) hsz2 ?_); intro v9 w3 hown3 hgr3
                     have HB3 := kp (HB2.out.trans ((hgr3.below HBw2.out HOw.out hsz2).mono hs2)); have HB32 := kp (hgr3.below HBw2.out HOw.out hsz2)
                     rw [← HV.out, zT HX.out] at hown3
                     have HOw3 := kp hown3; clear hown3 hgr3))
                go_roundw
                case rel =>
                  refine ⟨i + 1, by omega, by go_num, HOw3.out, fun j y hj hy => ?_, HB3.out, HB32.out⟩
                  by_cases e : j = i
                  · subst e
                    rw [HX.out] at hy
                    cases hy
                    exact HOkx.out
                  · exact HBef.out j y (by omega) hy
                case measure => simp [intOf]; omega
              | false =>
                have HV : Kept (byteV (M.pb (xw, false)) = .int .u8 (xw)) := kp (by unfold byteV; rw [HE.out]; simp)
                go_wp2_with (first
                  | (at_builtin; go_must (refine lG rfl (.tmp 70) (.tmp 73) 24 rfl w2.heap.size 5 _ _ Try.underlying24 xZ rfl wr _ (((z0.take i).map M.pb).map byteV) _ rfl HOw.out _ 1 rfl rfl rfl (by rw [HL5.out]; unfold maxLen; omega) (by rw [HL5.out]; omega) hsz2 ?_); intro v9 w3 hown3 hgr3
                     have HB3 := kp (HB2.out.trans ((hgr3.below HBw2.out HOw.out hsz2).mono hs2)); have HB32 := kp (hgr3.below HBw2.out HOw.out hsz2)
                     rw [← HV.out, zT HX.out] at hown3
                     have HOw3 := kp hown3; clear hown3 hgr3))
                go_roundw
                case rel =>
                  refine ⟨i + 1, by omega, by go_num, HOw3.out, fun j y hj hy => ?_, HB3.out, HB32.out⟩
                  by_cases e : j = i
                  · subst e
                    rw [HX.out] at hy
                    cases hy
                    exact HOkx.out
                  · exact HBef.out j y (by omega) hy
                case measure => simp [intOf]; omega
        · have hge : len0 ≤ i := by omega
          clear hlt
          obtain ⟨A5, c5, rfl, hc5, hm5, hr5⟩ := HOw.out.bytesN (n := len0) (by rw [List.length_map, List.length_take, HLn.out]; omega)
          have hs5 := xV (c := c5) hr5
          have hg5 := xV (n := len0) (c := len0) (Blk.row (f := byteV) (HK.out.below HBw2.out HK.out.lt) (by rw [List.length_map]; exact HLn.out) (Nat.le_refl wr.heap.size))
          rw [List.take_of_length_le (by rw [HLn.out]; omega)] at hs5
          obtain ⟨str, hstr⟩ : ∃ str, strOf (List.map M.pb z0) = str := ⟨_, rfl⟩
          rw [hstr] at hs5 hg5
          clear hstr hc5 hm5 hr5
          go_wp2
          go_ret
          exact ⟨rfl, HBw.out⟩
end Go.Proofs.Ytkhfolpffjihgaa
