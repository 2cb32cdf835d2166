/- VarintOnce, walked. -/
import Derived.Test.YtggfkajihlmndaaLaw1
import Derived.Test.YtggfkajihlmndaaWalk5
import Derived.Test.YtggfkajihlmndaaParts
namespace Go.Proofs.Ytggfkajihlmndaa
open Go.RowKit

set_option maxRecDepth 100000 in
set_option maxHeartbeats 800000 in
theorem walkVarintOnce (a0 : Option Addr) (len0 cap0 : Nat) (z0 : List Int) (w : World) (w0 : IsRow .u8 w a0 len0 cap0 z0) :
    Calls Try.prog 6 #[.slice a0 len0 cap0] w fun e w' => e = .returned (.bool true) ∧ Below w.heap.size w w' := by
  obtain ⟨bs, hr, hb, hm, hlc, hcm⟩ := w0.bytes
  have HR := Lib.hid hr
  have HN := Lib.hid hb
  obtain ⟨hs1, hs2, hs3⟩ := V.get_small bs hb
  have ho := V.get_once bs hb
  have hz := V.get_zero bs
  rcases hg : V.get bs with ⟨x, u, f⟩
  rw [hg] at hs1 hs2 hs3 ho hz
  simp only at hs1 hs2 hs3 ho hz
  have HGet := Lib.hid hg
  have HO := Lib.hid ho
  have HZ := Lib.hid hz
  clear hg ho hz
  have hm' := hm
  unfold maxLen at hm'
  unfold maxLen at hcm
  clear w0 hr hb
  by_cases h : 2000 < len0
  · go_enter Try.func6, Try.ntmps6
    go_wp2_with fail
    refine (awake_any _).mono ?_
    rintro e w1 ⟨rfl, hb1⟩
    have HB1 := Lib.hid hb1; clear hb1
    go_wp2_with fail
    refine (awake_any _).mono ?_
    rintro e w2 ⟨rfl, hb2⟩
    have HB2 := Lib.hid hb2; clear hb2
    go_wp2
    go_ret
    exact ⟨rfl, HB1.out.trans (HB2.out.mono HB1.out.size)⟩
  · by_cases he : f = 0
    · obtain ⟨e1, e2, e3⟩ := HO.out he
      have hl := HR.out.len
      have hbool : ((f : Int) != 0) = false := by simp; omega
      obtain ⟨ad, _, rfl, _, _, _⟩ := HR.out.get (k := 0) (by omega)
      have HE1 := Lib.hid e1
      have HT := Lib.hid (HR.out.take (k := u) (by omega))
      have hu : u ≤ len0 := by omega
      have hu1 : 1 ≤ u := e2
      have hu2 : u ≤ cap0 := by omega
      have hd1 : decide ((1 : Int) ≤ (u : Int)) = true := by simp; omega
      have hd2 : decide (u ≤ len0) = true := by simp; omega
      have hd3 : decide (1 ≤ u) = true := by simp; omega
      have hd4 : decide ((u : Int) ≤ (len0 : Int)) = true := by simp; omega
      clear he hl e1 e3 e2
      go_enter Try.func6, Try.ntmps6
      go_wp2_with (first | (go_at_call 9; go_must (refine (awake_any _).mono ?_); rintro e w1 ⟨rfl, hb1⟩; have HB1 := Lib.hid hb1; clear hb1) | (go_at_call 14; go_must (refine (get_as HGet.out (HR.out.below HB1.out) HN.out hm).mono ?_); rintro e w' ⟨rfl, rfl⟩))
      apply region_list [.is _, .is _, .is _, .is _, .is _, .is _, .is _, .is _, .is _, .is _, .bytes (V.put x), .is _, .is _, .is _, .is _, .is _, .is _, .is _, .is _]
        [[], [(0, 28)], [(1, 29)], [(2, 30)], [(2, 30)], [(4, 32), (2, 30)], [(3, 31), (5, 33), (2, 30)], [(2, 30), (6, 34)], [(7, 35)], [(8, 36)], [(9, 37), (8, 36)], [(10, 38), (8, 36)], [(8, 36)], [(8, 36)], [(12, 40), (13, 41), (8, 36)], [(14, 42), (8, 36)], [(11, 39), (15, 43), (8, 36)], [(8, 36), (16, 44)], [(17, 45)]]
        [(0, 28), (1, 29), (2, 30), (3, 31), (4, 32), (5, 33), (6, 34), (7, 35), (8, 36), (9, 37), (10, 38), (11, 39), (12, 40), (13, 41), (14, 42), (15, 43), (16, 44), (17, 45), (18, 2)] (by kernel_rfl) (by kernel_rfl)
      case hob =>
        refine ⟨?o0, ?o1, ?o2, ?o3, ?o4, ?o5, ?o6, ?o7, ?o8, ?o9, ?o10, ?o11, ?o12, ?o13, ?o14, ?o15, ?o16, ?o17, ?o18, trivial⟩
        case o0 => intro W hW; change wpList _ _ _ _ _ _; go_wp2; exact pure_post rfl rfl rfl
        case o1 => intro W hW; rintro _ rfl; change wpList _ _ _ _ _ _; go_wp2; exact pure_post rfl rfl rfl
        case o2 => intro W hW; rintro _ rfl; change wpList _ _ _ _ _ _; go_wp2; exact pure_post rfl rfl rfl
        case o3 => intro W hW; rintro _ rfl; change wpList _ _ _ _ _ _; go_wp2; exact pure_post rfl rfl rfl
        case o4 => intro W hW; rintro _ rfl; change wpList _ _ _ _ _ _; go_wp2; exact pure_post rfl rfl rfl
        case o5 => intro W hW; rintro _ rfl; rintro _ rfl; change wpList _ _ _ _ _ _; go_wp2; exact pure_post rfl rfl rfl
        case o6 => intro W hW; rintro _ rfl; rintro _ rfl; rintro _ rfl; change wpList _ _ _ _ _ _; go_wp2; exact pure_post rfl rfl rfl
        case o7 => intro W hW; rintro _ rfl; rintro _ rfl; change wpList _ _ _ _ _ _; go_wp2; exact pure_post rfl rfl rfl
        case o8 => intro W hW; rintro _ rfl; change wpList _ _ _ _ _ _; go_wp2; exact pure_post rfl rfl rfl
        case o9 => intro W hW; rintro _ rfl; change wpList _ _ _ _ _ _; go_wp2; exact pure_post rfl rfl rfl
        case o10 =>
          intro W hW; rintro _ rfl; rintro _ rfl; change wpList _ _ _ _ _ _
          go_wp2_with fail
          refine (put_any _ hs1 _).mono ?_
          rintro e w2 ⟨v2, rfl, hown2, hb2⟩
          obtain ⟨A, cap, rfl, _, _, hr2⟩ := hown2.bytes
          have HR2 := Lib.hid hr2; have HB2 := Lib.hid hb2; clear hown2 hr2 hb2
          go_wp2
          exact made_post rfl rfl rfl HB2.out ⟨A, cap, rfl, HR2.out⟩
        case o11 =>
          intro W hW; rintro _ ⟨A10, c10, rfl, hr10⟩; rintro _ rfl; change wpList _ _ _ _ _ _
          have hs := run_string (P := Try.prog) hr10 25 5 9 c10 Try.underlying25 Try.underlying5 Try.underlying9
          clear hr10
          go_wp2
          exact pure_post rfl rfl rfl
        case o12 => intro W hW; rintro _ rfl; change wpList _ _ _ _ _ _; go_wp2; exact pure_post rfl rfl rfl
        case o13 => intro W hW; rintro _ rfl; change wpList _ _ _ _ _ _; go_wp2; exact pure_post rfl rfl rfl
        case o14 => intro W hW; rintro _ rfl; rintro _ rfl; rintro _ rfl; change wpList _ _ _ _ _ _; go_wp2; exact pure_post rfl rfl rfl
        case o15 =>
          intro W hW; rintro _ rfl; rintro _ rfl; change wpList _ _ _ _ _ _
          have hs := run_string (P := Try.prog) (HT.out.below (HB1.out.trans (hW.mono HB1.out.size))) 25 5 9 cap0 Try.underlying25 Try.underlying5 Try.underlying9
          rw [← HE1.out] at hs
          go_wp2
          exact pure_post rfl rfl rfl
        case o16 => intro W hW; rintro _ rfl; rintro _ rfl; rintro _ rfl; change wpList _ _ _ _ _ _; go_wp2; exact pure_post rfl rfl rfl
        case o17 => intro W hW; rintro _ rfl; rintro _ rfl; change wpList _ _ _ _ _ _; go_wp2; exact pure_post rfl rfl rfl
        case o18 => intro W hW; rintro _ rfl; change wpList _ _ _ _ _ _; go_wp2; exact pure_post rfl rfl rfl
      case hend =>
        intro W hW; rintro _ rfl; rintro _ rfl; rintro _ rfl; rintro _ rfl; rintro _ rfl; rintro _ rfl; rintro _ rfl; rintro _ rfl; rintro _ rfl; rintro _ rfl; rintro _ ⟨A10, c10, rfl, hr10⟩; rintro _ rfl; rintro _ rfl; rintro _ rfl; rintro _ rfl; rintro _ rfl; rintro _ rfl; rintro _ rfl; rintro _ rfl
        simp only [given, put_lit, List.set]
        go_wp2
        go_ret
        exact ⟨rfl, HB1.out.trans (hW.mono HB1.out.size)⟩
    · obtain ⟨e1, e2⟩ := HZ.out he
      have hb1 : ((x : Int) == 0) = true := by simp; omega
      have hb2 : ((u : Int) == 0) = true := by simp; omega
      have hbool : ((f : Int) != 0) = true := by rw [bne_iff_ne]; omega
      clear he e1 e2
      go_enter Try.func6, Try.ntmps6
      go_wp2_with (first | (go_at_call 9; go_must (refine (awake_any _).mono ?_); rintro e w1 ⟨rfl, hb1⟩; have HB1 := Lib.hid hb1; clear hb1) | (go_at_call 14; go_must (refine (get_as HGet.out (HR.out.below HB1.out) HN.out hm).mono ?_); rintro e w' ⟨rfl, rfl⟩))
      go_ret
      exact ⟨rfl, HB1.out⟩
end Go.Proofs.Ytggfkajihlmndaa
