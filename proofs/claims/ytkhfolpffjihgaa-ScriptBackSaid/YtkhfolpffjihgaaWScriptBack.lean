/- ScriptBack, walked. -/
import Derived.Test.YtkhfolpffjihgaaPk39
import Derived.Test.YtkhfolpffjihgaaPk41
namespace Go.Proofs.Ytkhfolpffjihgaa
open Go.RowKit
set_option maxRecDepth 100000 in
set_option maxHeartbeats 3200000 in
theorem walkScriptBack (a0 : Option Addr) (len0 cap0 : Nat) (z0 : List (Int × Bool)) (w : World) (w0 : Picks w w.heap.size a0 len0 z0) (c0 : len0 ≤ cap0 ∧ cap0 ≤ maxLen) :
    Calls Try.prog 7 #[.slice a0 len0 cap0] w fun e w' => e = .returned (.bool true) ∧ Below w.heap.size w w' := by
  have HP := kp w0; have HLn := kp w0.1.len
  have hm1 := c0.2; have hc1 := c0.1
  unfold maxLen at hm1
  clear w0 c0
  by_cases hbig : 5000 < len0
  · go_enter Try.func7, Try.ntmps7
    go_wp2_with (go_at_call 9; fail)
    refine (lH w).mono ?_
    rintro e w1 ⟨rfl, hb1⟩
    have HB1 := kp hb1; have hs1 := hb1.size
    clear hb1
    go_wp2_with (go_at_call 9; fail)
    refine (lH w1).mono ?_
    rintro e w2 ⟨rfl, hb2⟩
    have HB2 := kp (HB1.out.trans (hb2.mono hs1))
    clear hb2
    go_wp2
    go_ret
    exact ⟨rfl, HB2.out⟩
  · have hn5 : len0 ≤ 5000 := by omega
    clear hbig
    go_enter Try.func7, Try.ntmps7
    go_wp2_with (go_at_call 9; fail)
    refine (lH w).mono ?_
    rintro e w1 ⟨rfl, hb1⟩
    have HB1 := kp hb1; have hs1 := hb1.size
    have HP1 := kp (HP.out.keep (w' := w1) fun p h => hb1.cell h)
    clear hb1
    go_wp2_with (go_at_call 10; fail)
    refine (sc_put w.heap.size a0 len0 cap0 z0 w1 HP1.out hn5 hs1).mono ?_
    rintro e w2 ⟨h, hb2⟩
    have HB2 := kp (HB1.out.trans (hb2.mono hs1)); have hs2 := HB2.out.size
    clear hb2
    rcases h with ⟨h4, rfl⟩ | ⟨h4, hbad, rfl⟩ | ⟨h4, hok, g, rfl, hg, hk⟩
    · go_wp2
      go_ret
      exact ⟨rfl, HB2.out⟩
    · clear hbad
      go_wp2
      go_ret
      exact ⟨rfl, HB2.out⟩
    · have HOk := kp hok; have HG := kp hg; have HK := kp hk
      clear hok hg hk
      have HLp : Kept ((z0.map M.pb).length = len0) := kp (by rw [List.length_map]; exact HLn.out)
      have HRw : Kept (Row byteV w2 w2.heap.size (some ⟨g, 0, none⟩) len0 (z0.map M.pb)) := kp (Blk.row HK.out HLp.out (Nat.le_refl _))
      have HSm : Kept (∀ x ∈ z0.map M.pb, x < 16) := kp (fun x hx => by
        obtain ⟨y, hy, rfl⟩ := List.mem_map.1 hx
        exact M.pb_lt (HOk.out y hy))
      go_wp2_with (go_at_call 11; fail)
      refine (sc_get w2.heap.size _ len0 len0 (z0.map M.pb) w2 HRw.out (fun x hx => by have := HSm.out x hx; omega) hn5 (Nat.le_refl _)).mono ?_
      rintro e w3 ⟨h | h | h, hb3⟩
      · obtain ⟨h, _⟩ := h; omega
      · obtain ⟨_, i, b, hi, hb, _, _⟩ := h
        have := HSm.out b (List.mem_of_getElem? hi)
        omega
      obtain ⟨_, _, g3, rfl, hg3, hk3⟩ := h
      rw [M.pb_ones HOk.out] at hk3
      have HB3 := kp (HB2.out.trans (hb3.mono hs2)); have hs3 := HB3.out.size
      have HK3 : Kept (Picks w3 w3.heap.size (some ⟨g3, 0, none⟩) len0 z0) := kp (Blk.picks hk3 HLn.out (Nat.le_refl _) HP.out.2)
      have HP3 : Kept (Picks w3 w3.heap.size a0 len0 z0) := kp ((HP.out.below HB3.out).more hs3)
      clear hk3 hg3 hb3
      go_wp2_with (go_at_call 25; fail)
      have hb4 : Below w3.heap.size w3 (w3.alloc (.cells #[.int .i64 0, .int .i64 0] 32)) := (Below.refl _ _).alloc (Nat.le_refl _) _
      refine (rc_same w3.heap.size _ _ len0 len0 len0 cap0 z0 z0 _ (HK3.out.below hb4) (HP3.out.below hb4) hn5 hn5 true ⟨fun _ => rfl, fun _ => rfl⟩).mono ?_
      rintro e w5 ⟨rfl, hb5⟩
      have HB5 := kp (HB3.out.trans ((hb4.trans (hb5.mono hb4.size)).mono hs3))
      clear hb5 hb4
      go_wp2
      go_ret
      exact ⟨rfl, HB5.out⟩
end Go.Proofs.Ytkhfolpffjihgaa
