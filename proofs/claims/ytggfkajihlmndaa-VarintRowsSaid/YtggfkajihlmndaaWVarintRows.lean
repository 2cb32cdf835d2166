/- VarintRows, walked. -/
import Derived.Test.YtggfkajihlmndaaLaw1
import Derived.Test.YtggfkajihlmndaaWalk5
namespace Go.Proofs.Ytggfkajihlmndaa
open Go.RowKit

set_option maxRecDepth 100000 in
set_option maxHeartbeats 800000 in
theorem walkVarintRows (a0 : Option Addr) (len0 cap0 : Nat) (z0 : List Int) (w : World) (w0 : IsRow .u32 w a0 len0 cap0 z0) :
    Calls Try.prog 8 #[.slice a0 len0 cap0] w fun e w' => e = .returned (.bool true) ∧ Below w.heap.size w w' := by
  obtain ⟨l, hr, hb, hm, hlc, hcm⟩ := w0.words
  have HR : Hid (Row u32 w w.heap.size a0 len0 l) := hr
  have HN := Lib.hid hb
  have hm' := hm
  unfold maxLen at hm'
  clear w0 hr hb hlc hcm hm
  by_cases h : 2000 < len0
  · go_enter Try.func8, Try.ntmps8
    go_wp2_with fail
    refine (awake_any _).mono ?_
    rintro e w1 ⟨rfl, hb1⟩
    have HB1 := Lib.hid hb1; clear hb1
    go_wp2_with fail
    refine (awake_any _).mono ?_
    rintro e w2 ⟨rfl, hb2⟩
    have HB2 := Lib.hid hb2; clear hb2
    go_wp2
    go_ret
    exact ⟨rfl, HB1.out.trans (HB2.out.mono HB1.out.size)⟩
  · go_enter Try.func8, Try.ntmps8
    go_wp2_with (go_at_call 9; go_must (refine (awake_any _).mono ?_); rintro e w1 ⟨rfl, hb1⟩; have HB1 := Lib.hid hb1; clear hb1)
    refine (row_any _ _ _ l _ ((HR.out.below HB1.out).more HB1.out.size) HN.out (by omega)).mono ?_
    rintro e w2 ⟨v2, rfl, hown2, hb2⟩
    obtain ⟨A2, cap2, rfl, hlc2, hcm2, hr2⟩ := hown2.bytes
    have HR2 := Lib.hid hr2
    have HB2 := Lib.hid hb2
    have HX2 := Lib.hid hcm2
    clear hown2 hr2 hb2 hcm2
    go_wp2
    go_loop [3, 4] (fun v3 v4 => ∃ (k m c : Nat) (A : Option Addr), k ≤ len0 ∧ v4 = .int .i64 k ∧ v3 = .slice A m c ∧ m ≤ c ∧ c ≤ maxLen ∧ Row u8 w2 w2.heap.size A m (V.row (l.drop k))) (fun _ v4 => len0 - (intOf v4).toNat)
    case atStart => exact ⟨0, _, cap2, A2, by omega, rfl, rfl, hlc2, HX2.out, HR2.out⟩
    case round =>
      obtain ⟨k, m, c, A, hk, rfl, rfl, hmc, hcm, hrow⟩ := hrel
      have hcm' := hcm
      unfold maxLen at hcm'
      by_cases hlt : k < len0
      · obtain ⟨ad0, x, e0, hab, hx, hc⟩ := ((HR.out.below HB1.out).below (HB2.out.mono HB1.out.size)).get hlt
        rw [u32_def] at hc
        have hx32 : x < 4294967296 := HN.out x (List.mem_of_getElem? hx)
        have hdrop : V.row (l.drop k) = V.put x ++ V.row (l.drop (k + 1)) := by
          obtain ⟨hl, e⟩ := List.getElem?_eq_some_iff.1 hx
          rw [List.drop_eq_getElem_cons hl, e]; rfl
        rw [hdrop] at hrow
        have hget := V.get_put x hx32 (V.row (l.drop (k + 1)))
        have hlen := hrow.len
        rw [List.length_append, V.len_put x hx32] at hlen
        have hs1 := V.size_pos x
        have hs5 := V.size_le x
        have hsm : V.size x ≤ m := by omega
        obtain ⟨ad, _, rfl, _, _, _⟩ := hrow.get (k := 0) (by omega)
        have hby : ∀ y ∈ V.put x ++ V.row (l.drop (k + 1)), y < 256 := by
          intro y hy
          rcases List.mem_append.1 hy with hy | hy
          · exact V.put_byte x hx32 y hy
          · obtain ⟨z, hz, hy⟩ := List.mem_flatMap.1 hy
            exact V.put_byte z (HN.out z (List.mem_of_mem_drop hz)) y hy
        have HCut : Hid (Row u8 w2 w2.heap.size (some (ad.add (V.size x))) (m - V.size x) (V.row (l.drop (k + 1)))) := by
          have := hrow.cutAt hsm
          rwa [List.drop_left' (V.len_put x hx32)] at this
        have HGet := Lib.hid hget
        have HRow := Lib.hid hrow
        have HBy := Lib.hid hby
        have HLen := Lib.hid hlen
        have HMax := Lib.hid hcm
        subst e0
        clear hget hrow hby hdrop hx hab hlen hcm
        by_cases hcap : c = V.size x
        · have HNil : Hid (V.row (l.drop (k + 1)) = []) := List.eq_nil_of_length_eq_zero (by have := HLen.out; omega)
          have HM : Hid (m = V.size x) := by show m = _; omega
          go_wp2_with (go_at_call 14; go_must (refine (get_as HGet.out HRow.out HBy.out (by have := HMax.out; omega)).mono ?_); rintro e w' ⟨rfl, rfl⟩)
          go_round
          case rel => exact ⟨k + 1, m - V.size x, 0, some ad, by omega, by go_num, rfl, by have := HM.out; omega, by simp [maxLen], Row.none_ HNil.out (by have := HM.out; omega)⟩
          case measure => simp [intOf]; omega
        · go_wp2_with (go_at_call 14; go_must (refine (get_as HGet.out HRow.out HBy.out (by have := HMax.out; omega)).mono ?_); rintro e w' ⟨rfl, rfl⟩)
          go_round
          case rel => exact ⟨k + 1, m - V.size x, c - V.size x, some (ad.add (V.size x)), by omega, by go_num, rfl, by omega, by have := HMax.out; omega, HCut.out⟩
          case measure => simp [intOf]; omega
      · have hke : k = len0 := by omega
        have hn : V.row (l.drop k) = [] := by rw [List.drop_of_length_le (by rw [HR.out.len]; omega)]; rfl
        rw [hn] at hrow
        have hm0 : m = 0 := hrow.len.symm
        subst hm0
        clear hrow hn hke
        go_wp2
        go_ret
        exact ⟨rfl, HB1.out.trans (HB2.out.mono HB1.out.size)⟩
end Go.Proofs.Ytggfkajihlmndaa
