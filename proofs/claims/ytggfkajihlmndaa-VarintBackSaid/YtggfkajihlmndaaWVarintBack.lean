/- VarintBack, walked. -/
import Derived.Test.YtggfkajihlmndaaLaw1
import Derived.Test.YtggfkajihlmndaaWalk5
namespace Go.Proofs.Ytggfkajihlmndaa
open Go.RowKit

set_option maxRecDepth 100000 in
set_option maxHeartbeats 1600000 in
theorem walkVarintBack (a0 : Int) (a1 : Option Addr) (len1 cap1 : Nat) (z1 : List Int) (a2 : Int) (w : World) (w0 : (Lit.int .u32 a0).wf = true) (w1 : IsRow .u8 w a1 len1 cap1 z1) (w2 : (Lit.int .u8 a2).wf = true) :
    Calls Try.prog 5 #[.int .u32 a0, .slice a1 len1 cap1, .int .u8 a2] w fun e w' => e = .returned (.bool true) ∧ Below w.heap.size w w' := by
  have r0 := u32_range a0 w0
  have r2 := u8_range a2 w2
  obtain ⟨n, rfl⟩ := Int.eq_ofNat_of_zero_le r0.1
  obtain ⟨t, rfl⟩ := Int.eq_ofNat_of_zero_le r2.1
  have hn : n < 4294967296 := by omega
  have ht : t < 256 := by omega
  obtain ⟨l, hr, hb, hm, hlc, hcm⟩ := w1.bytes
  have HR := Lib.hid hr
  have HN := Lib.hid hb
  have hm' := hm
  unfold maxLen at hm'
  clear w0 w1 w2 hr hb hlc hcm hm r0 r2
  by_cases h : 2000 < len1
  · go_enter Try.func5, Try.ntmps5
    go_wp2_with fail
    refine (awake_any _).mono ?_
    rintro e w1 ⟨rfl, hb1⟩
    have HB1 := Lib.hid hb1; clear hb1
    go_wp2_with fail
    refine (awake_any _).mono ?_
    rintro e w2 ⟨rfl, hb2⟩
    have HB2 := Lib.hid hb2; clear hb2
    go_wp2
    go_ret
    exact ⟨rfl, HB1.out.trans (HB2.out.mono HB1.out.size)⟩
  · have hs1 := V.size_pos n
    have hs5 := V.size_le n
    go_enter Try.func5, Try.ntmps5
    go_wp2_with (go_at_call 9; go_must (refine (awake_any _).mono ?_); rintro e w1 ⟨rfl, hb1⟩; have HB1 := Lib.hid hb1; clear hb1)
    refine (put_any n hn _).mono ?_
    rintro e w2 ⟨v2, rfl, hown2, hb2⟩
    obtain ⟨A2, cap2, rfl, hlc2, hcm2, hr2⟩ := hown2.bytes
    rw [V.len_put n hn] at hlc2 hr2 ⊢
    have HR2 := Lib.hid hr2
    have HB2 := Lib.hid hb2
    have hcm2' := hcm2
    unfold maxLen at hcm2'
    have HRM := Lib.hid ((HR.out.below HB1.out).below (hb2.mono HB1.out.size))
    have HO0 := Lib.hid (Own.new w2 w2.heap.size 5 [] (Nat.le_refl _) (by simp [maxLen]))
    clear hown2 hr2 hb2 hcm2
    go_wp2_with (first | (at_builtin; have HO3' := HO3; go_must (refine wpList_append_row rfl (.tmp 27) (.tmp 28) 25 rfl w2.heap.size 5 _ _ Try.underlying25 byte_info rfl _ _ _ rfl HO3.out a1 _ cap1 _ _ rfl ((HRM.out.below ((((Below.refl _ _).alloc (Nat.le_refl _) _).trans (HG3.out.below (Below.refl _ _) HO0.out (by simp))).mono (Nat.le_trans HB1.out.size HB2.out.size))).vals) (ones _ one_u8 _) (by simp [V.len_put n hn, maxLen]; omega) (by simp [V.len_put n hn]; omega) (by have := HG3.out.size; simp at this; omega) ?_); intro v4 w4 hown4 hg4; have HO4 := Lib.hid hown4; clear hown4; have HG4 := Lib.hid hg4; clear hg4) | (at_builtin; go_must (refine wpList_append_row rfl (.tmp 25) (.tmp 26) 25 rfl w2.heap.size 5 _ _ Try.underlying25 byte_info rfl _ _ _ rfl HO0.out A2 _ cap2 _ _ rfl ((HR2.out.below ((Below.refl _ _).alloc (Nat.le_refl _) _)).vals) (ones _ one_u8 _) (by simp [maxLen]; omega) (by simp; omega) (by simp) ?_); intro v3 w3 hown3 hg3; have HO3 := Lib.hid hown3; clear hown3; have HG3 := Lib.hid hg3; clear hg3))
    have hown4 := HO4.out
    rw [List.nil_append, ← List.map_append] at hown4
    obtain ⟨A4, cap4, rfl, hlc4, hcm4, hr4⟩ := hown4.bytes
    have hl4 : (V.put n ++ l).length ≤ maxLen := by omega
    have hby : ∀ y ∈ V.put n ++ l, y < 256 := by
      intro y hy
      rcases List.mem_append.1 hy with hy | hy
      · exact V.put_byte n hn y hy
      · exact HN.out y hy
    have HBel : Hid (Below w2.heap.size w2 w4) := (((Below.refl _ _).alloc (Nat.le_refl _) _).trans (HG3.out.below (Below.refl _ _) HO0.out (by simp))).trans (HG4.out.below (Below.refl _ _) HO3.out (by have := HG3.out.size; simp at this; omega))
    refine (get_as (V.get_put n hn l) hr4 hby hl4).mono ?_
    rintro e w5 ⟨rfl, rfl⟩
    clear hown4 hlc4 hcm4 hr4 hl4 hby
    have hmod : t % V.size n < V.size n := Nat.mod_lt _ (by omega)
    have HCut := Lib.hid (V.get_cut n hn (t % V.size n) hmod)
    have HRC := Lib.hid (HR2.out.below HBel.out)
    go_wp2_with fail
    refine (get_as HCut.out (HRC.out.take (Nat.le_of_lt hmod)) (fun y hy => V.put_byte n hn y (List.mem_of_mem_take hy)) (by simp only [maxLen]; omega)).mono ?_
    rintro e w5 ⟨rfl, rfl⟩
    go_wp2
    go_ret
    exact ⟨rfl, HB1.out.trans ((HB2.out.trans (HBel.out.mono HB2.out.size)).mono HB1.out.size)⟩
end Go.Proofs.Ytggfkajihlmndaa
