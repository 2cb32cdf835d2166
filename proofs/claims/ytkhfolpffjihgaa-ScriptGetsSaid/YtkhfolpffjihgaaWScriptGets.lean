/- ScriptGets, walked. -/
import Derived.Test.YtkhfolpffjihgaaPk39
import Derived.BigQuiet
namespace Go.Proofs.Ytkhfolpffjihgaa
open Go.RowKit
set_option maxRecDepth 100000 in
set_option maxHeartbeats 3200000 in
theorem walkScriptGets (a0 : Option Addr) (len0 cap0 : Nat) (z0 : List Int) (w : World) (w0 : IsRow .u8 w a0 len0 cap0 z0) :
    Calls Try.prog 4 #[.slice a0 len0 cap0] w fun e w' => e = .returned (.bool true) ∧ Below w.heap.size w w' := by
  obtain ⟨bs, hrow, h256, hlm, hc1, hm1⟩ := w0.bytes
  unfold maxLen at hm1
  have HP := kp hrow; have HLn := kp hrow.len; have H256 := kp h256
  clear w0 hrow h256 hlm
  by_cases hbig : 5000 < len0
  · go_enter Try.func4, Try.ntmps4
    go_wp2_with (go_at_call 9; fail)
    refine (lH w).mono ?_
    rintro e w1 ⟨rfl, hb1⟩
    have HB1 := kp hb1; have hs1 := hb1.size
    clear hb1
    go_wp2_with (go_at_call 9; fail)
    refine (lH w1).mono ?_
    rintro e w2 ⟨rfl, hb2⟩
    have HB2 := kp (HB1.out.trans (hb2.mono hs1))
    clear hb2
    go_wp2
    go_ret
    exact ⟨rfl, HB2.out⟩
  · have hn5 : len0 ≤ 5000 := by omega
    clear hbig
    go_enter Try.func4, Try.ntmps4
    go_wp2_with (go_at_call 9; fail)
    refine (lH w).mono ?_
    rintro e w1 ⟨rfl, hb1⟩
    have HB1 := kp hb1; have hs1 := hb1.size
    have HP1 := kp (HP.out.below hb1)
    clear hb1
    go_wp2_with (go_at_call 11; fail)
    refine (sc_get w.heap.size a0 len0 cap0 bs w1 HP1.out H256.out hn5 hs1).mono ?_
    rintro e w2 ⟨h, hb2⟩
    have HB2 := kp (HB1.out.trans (hb2.mono hs1)); have hs2 := HB2.out.size
    clear hb2
    rcases h with ⟨h4, rfl⟩ | ⟨h4, ⟨k, b, hkb, hb16, hbef, rfl⟩⟩ | ⟨h4, hok, g, rfl, hg, hk⟩
    · go_wp2
      go_ret
      exact ⟨rfl, HB2.out.alloc hs2 _⟩
    · have HKb := kp hkb; have HBef := kp hbef
      have hkl : k < len0 := by have := (List.getElem?_eq_some_iff.1 hkb).1; have := HLn.out; omega
      clear hkb hbef
      go_wp2
      obtain ⟨W3, hW3⟩ : ∃ W, w2.alloc (.cells #[.int .i64 (k : Int), .int .i64 3] 32) = W := ⟨_, rfl⟩
      have HS3 : Kept (Blk W3 w2.heap.size 32 [.int .i64 (k : Int), .int .i64 3]) := kp (by rw [← hW3]; exact Blk.newAt rfl rfl)
      have HB3 : Kept (Below w.heap.size w W3) := kp (by rw [← hW3]; exact HB2.out.alloc hs2 _)
      have HP3 := kp (HP.out.below HB3.out)
      obtain ⟨gs, hgs⟩ : ∃ g, w2.heap.size = g := ⟨_, rfl⟩
      rw [hgs] at HS3 ⊢
      have d0 := HS3.out.cell 0; have d1 := HS3.out.cell 1
      rw [hW3]
      clear hW3 hgs
      go_loop [5] (fun v5 => ∃ i : Nat, i ≤ k ∧ v5 = .int .i64 i) (fun v5 => len0 - (intOf v5).toNat)
      case atStart => exact ⟨0, by omega, rfl⟩
      case round =>
        obtain ⟨i, hi, rfl⟩ := hrel
        obtain ⟨ad, x, rfl, _, hx, c0⟩ := HP3.out.get (k := i) (by omega)
        replace c0 : W3.cell? (ad.add i) = some (.int .u8 (x : Int)) := c0
        by_cases he : i = k
        · subst he
          rw [HKb.out] at hx
          cases hx
          go_wp2
          go_ret
          exact ⟨rfl, HB3.out⟩
        · have hx16 : x < 16 := HBef.out i x (by omega) hx
          clear hx
          have hik : i < k := by omega
          clear he
          go_wp2
          go_round
          case rel => exact ⟨i + 1, by omega, by go_num⟩
          case measure => simp [intOf]; omega
    · have HOk := kp hok; have HG := kp hg; have HK := kp hk
      clear hok hg hk
      have HRc : Kept (Recs 2 pkV w2 w2.heap.size (some ⟨g, 0, none⟩) len0 (bs.map M.bp)) := kp (HK.out.recs (by rw [List.length_map]; exact HLn.out) (Nat.le_refl _))
      go_wp2
      obtain ⟨W3, hW3⟩ : ∃ W, w2.alloc (.cells #[.int .i64 0, .int .i64 0] 32) = W := ⟨_, rfl⟩
      have HS3 : Kept (Blk W3 w2.heap.size 32 [.int .i64 0, .int .i64 0]) := kp (by rw [← hW3]; exact Blk.newAt rfl rfl)
      have hb23 : Below w2.heap.size w2 W3 := by rw [← hW3]; exact (Below.refl _ _).alloc (Nat.le_refl _) _
      have HB3 : Kept (Below w.heap.size w W3) := kp (HB2.out.trans (hb23.mono hs2))
      have HP3 := kp (HP.out.below HB3.out)
      have HRc3 := kp (HRc.out.below hb23)
      have hz3 : w2.heap.size ≤ W3.heap.size := hb23.size
      have HK3 := kp (HK.out.below hb23 HK.out.lt)
      obtain ⟨gs, hgs⟩ : ∃ g, w2.heap.size = g := ⟨_, rfl⟩
      rw [hgs] at HS3 ⊢
      rw [hW3]
      clear hW3 hb23
      go_loop [5] (fun v5 => ∃ i : Nat, i ≤ len0 ∧ v5 = .int .i64 i) (fun v5 => len0 - (intOf v5).toNat)
      case atStart => exact ⟨0, by omega, rfl⟩
      case round =>
        obtain ⟨i, hi, rfl⟩ := hrel
        by_cases hlt : i < len0
        · obtain ⟨ad, x, rfl, _, hx, c0⟩ := HP3.out.get hlt
          replace c0 : W3.cell? (ad.add i) = some (.int .u8 (x : Int)) := c0
          have hx16 : x < 16 := HOk.out x (List.mem_of_getElem? hx)
          clear hx
          go_wp2
          go_round
          case rel => exact ⟨i + 1, by omega, by go_num⟩
          case measure => simp [intOf]; omega
        · have hge : len0 ≤ i := by omega
          clear hlt
          have d0 := HS3.out.cell 0; have d1 := HS3.out.cell 1
          go_wp2
          clear d0 d1
          go_loopw [6] (fun v6 wr => ∃ i : Nat, i ≤ len0 ∧ v6 = .int .i64 i ∧ Below W3.heap.size W3 wr) (fun v6 _ => len0 - (intOf v6).toNat)
          case atStart => exact ⟨0, by omega, rfl, Below.refl _ _⟩
          case round =>
            obtain ⟨i2, hi2, rfl, hbw⟩ := hrel
            have HBw := kp hbw; have hsz := hbw.size
            have HPr := kp (HP3.out.below (hbw.mono HB3.out.size)); have HRr := kp (HRc3.out.below (hbw.mono (by rw [hgs]; rw [hgs] at hz3; exact hz3)))
            by_cases hlt : i2 < len0
            · obtain ⟨ad, x, rfl, _, hx, c0⟩ := HPr.out.get hlt
              replace c0 : wr.cell? (ad.add i2) = some (.int .u8 (x : Int)) := c0
              have hx16 : x < 16 := HOk.out x (List.mem_of_getElem? hx)
              obtain ⟨ad2, y, hA2, _, hy, h0, hc⟩ := HRr.out.field hlt
              cases hA2
              have hyx : y = M.bp x := by rw [List.getElem?_map, hx] at hy; exact (Option.some.inj hy).symm
              subst hyx
              have hadd : ∀ k, (⟨g, 0, none⟩ : Addr).add k = ⟨g, k, none⟩ := fun k => by unfold Addr.add; split <;> simp_all
              have e0 : wr.cell? ⟨g, i2 * 2, none⟩ = some (.int .i64 (((x % 8 : Nat) : Int))) := by rw [← hadd]; exact h0 (by omega)
              have e1 : wr.cell? ⟨g, i2 * 2 + 1, none⟩ = some (.bool (decide (7 < x))) := by
                have h5 := hc 1 (by omega) (by omega)
                rw [hadd] at h5
                exact h5
              have hm8 : (x : Int) % 8 = ((x % 8 : Nat) : Int) := by omega
              have hm8t : (x : Int).tmod 8 = ((x % 8 : Nat) : Int) := by rw [Int.tmod_eq_emod_of_nonneg (by omega)]; omega
              have hd7 : decide (7 < (x : Int)) = decide (7 < x) := by rw [decide_eq_decide]; omega
              obtain ⟨xm, hxm⟩ : ∃ y, x % 8 = y := ⟨_, rfl⟩
              rw [hxm] at e0 hm8 hm8t
              have hbx : ((xm : Int) != (xm : Int)) = false := by rw [bne_eq_false_iff_eq]
              obtain ⟨bw, hbw7⟩ : ∃ y, decide (7 < x) = y := ⟨_, rfl⟩
              rw [hbw7] at e1 hd7
              have hbb : (bw != bw) = false := by rw [bne_eq_false_iff_eq]
              clear hxm hbw7 hadd
              clear hx hy h0 hc
              go_wp2
              go_quiet (fail)
              go_wp2
              trace_state
              go_roundw
              case rel => exact ⟨i2 + 1, by omega, by go_num, jE HBw.out _⟩
              case measure => simp [intOf]; omega
            · have hge2 : len0 ≤ i2 := by omega
              clear hlt
              have HPk : Kept (Picks wr wr.heap.size (some ⟨g, 0, none⟩) len0 (bs.map M.bp)) := kp ⟨HRr.out.more (by rw [hgs] at hz3 ⊢; omega), fun x hx => by
                obtain ⟨y, _, rfl⟩ := List.mem_map.1 hx
                have := M.bp_ok y
                unfold M.okP at this
                unfold I64; omega⟩
              go_wp2_with (go_at_call 10; fail)
              refine (sc_put wr.heap.size _ len0 len0 (bs.map M.bp) wr HPk.out hn5 (Nat.le_refl _)).mono ?_
              rintro e w5 ⟨h | h | h, hb5⟩
              · obtain ⟨h, _⟩ := h; omega
              · obtain ⟨_, ⟨x, hx, hno⟩, _⟩ := h
                obtain ⟨y, _, rfl⟩ := List.mem_map.1 hx
                exact absurd (M.bp_ok y) hno
              obtain ⟨_, _, g5, rfl, _, hk5⟩ := h
              rw [M.bp_ones HOk.out] at hk5
              have HB5 := kp (HB3.out.trans ((HBw.out.trans (hb5.mono hsz)).mono HB3.out.size))
              have hs5 := xV (n := len0) (c := len0) (Blk.row (f := byteV) hk5 HLn.out (Nat.le_refl _))
              have hs6 := xV (c := cap0) (HP.out.below HB5.out)
              obtain ⟨str, hstr⟩ : ∃ str, strOf bs = str := ⟨_, rfl⟩
              rw [hstr] at hs5 hs6
              clear hstr hk5 hb5
              go_wp2
              go_ret
              exact ⟨rfl, HB5.out⟩
end Go.Proofs.Ytkhfolpffjihgaa
