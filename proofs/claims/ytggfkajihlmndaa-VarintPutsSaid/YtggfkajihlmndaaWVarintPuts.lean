/- VarintPuts, walked. -/
import Derived.Test.YtggfkajihlmndaaLaw1
import Derived.Test.YtggfkajihlmndaaWalk5
import Derived.Test.YtggfkajihlmndaaParts
namespace Go.Proofs.Ytggfkajihlmndaa
open Go.RowKit

theorem strOf_append (xs ys : List Nat) : strOf xs ++ strOf ys = strOf (xs ++ ys) := by
  unfold strOf
  apply ByteArray.ext
  simp [ByteArray.data_append]

set_option maxRecDepth 100000 in
set_option maxHeartbeats 1600000 in
theorem walkVarintPuts (a0 : Int) (a1 : Option Addr) (len1 cap1 : Nat) (z1 : List Int) (w : World) (w0 : (Lit.int .u32 a0).wf = true) (w1 : IsRow .u32 w a1 len1 cap1 z1) :
    Calls Try.prog 3 #[.int .u32 a0, .slice a1 len1 cap1] w fun e w' => e = .returned (.bool true) ∧ Below w.heap.size w w' := by
  have r0 := u32_range a0 w0
  obtain ⟨n, rfl⟩ := Int.eq_ofNat_of_zero_le r0.1
  have hn : n < 4294967296 := by omega
  obtain ⟨l, hr, hb, hm, hlc, hcm⟩ := w1.words
  have HR : Hid (Row u32 w w.heap.size a1 len1 l) := hr
  have HN := Lib.hid hb
  have hm' := hm
  unfold maxLen at hm'
  have hlen : ((V.size n : Int) == ((V.put n).length : Int)) = true := by rw [V.len_put n hn]; simp
  clear w0 w1 hr hb hlc hcm hm r0
  by_cases h : 2000 < len1
  · clear hlen
    go_enter Try.func3, Try.ntmps3
    go_wp2_with fail
    refine (awake_any _).mono ?_
    rintro e w1 ⟨rfl, hb1⟩
    have HB1 := Lib.hid hb1; clear hb1
    go_wp2_with fail
    refine (awake_any _).mono ?_
    rintro e w2 ⟨rfl, hb2⟩
    have HB2 := Lib.hid hb2; clear hb2
    go_wp2
    go_ret
    exact ⟨rfl, HB1.out.trans (HB2.out.mono HB1.out.size)⟩
  · go_enter Try.func3, Try.ntmps3
    go_wp2_with (go_at_call 9; go_must (refine (awake_any _).mono ?_); rintro e w1 ⟨rfl, hb1⟩; have HB1 := Lib.hid hb1; clear hb1)
    go_loopw [5, 6] (fun v5 v6 wr => ∃ k : Nat, k ≤ len1 ∧ v6 = .int .i64 k ∧ v5 = .string (strOf (V.row (l.take k))) ∧ Below w1.heap.size w1 wr) (fun _ v6 _ => len1 - (intOf v6).toNat)
    case atStart => exact ⟨0, by omega, rfl, rfl, Below.refl _ _⟩
    case round =>
      obtain ⟨k, hk, rfl, rfl, hbl⟩ := hrel
      have HBL := Lib.hid hbl
      clear hbl
      by_cases hlt : k < len1
      · obtain ⟨ad0, x, rfl, hab, hx, hc⟩ := ((HR.out.below HB1.out).below (HBL.out.mono HB1.out.size)).get hlt
        rw [u32_def] at hc
        have hx32 : x < 4294967296 := HN.out x (List.mem_of_getElem? hx)
        have HT : Hid (V.row (l.take (k + 1)) = V.row (l.take k) ++ V.put x) := by show _ = _; rw [V.take_snoc l k x hx, V.row_snoc]
        have hz1 : (strOf (V.row (l.take k))).size ≤ 10000 := by
          rw [strOf_len, V.row_len _ fun y hy => HN.out y (List.mem_of_mem_take hy)]
          have h1 := V.sizes_le (l.take k)
          rw [List.length_take] at h1; omega
        have hz2 : (strOf (V.put x)).size ≤ 5 := by rw [strOf_len]; exact put_le x hx32
        clear hx hlen
        go_wp2_with fail
        refine (ref_put x hx32 _).mono ?_
        rintro e w2 ⟨v2, rfl, hown2, hb2⟩
        obtain ⟨A, cap, rfl, _, _, hr2⟩ := hown2.bytes
        have hs := run_string (P := Try.prog) hr2 25 5 9 cap Try.underlying25 Try.underlying5 Try.underlying9
        have HB2 := Lib.hid hb2
        clear hown2 hr2 hb2
        go_wp2
        go_roundw
        case rel => exact ⟨k + 1, by omega, by go_num, by rw [HT.out, ← strOf_append], HBL.out.trans (HB2.out.mono HBL.out.size)⟩
        case measure => simp [intOf]; omega
      · have hke : k = len1 := by omega
        have HE : Hid (l.take k = l) := by show _ = _; rw [List.take_of_length_le (by rw [HR.out.len]; omega)]
        rw [HE.out]
        clear hke
        go_wp2
        apply region_list [.is _, .bytes (V.put n), .is _, .is _, .is _, .bytes (V.put n), .is _, .is _, .is _, .is _, .is _, .is _, .is _, .bytes (V.put n), .is _, .is _, .is _, .is _, .is _, .bytes (V.row l), .is _, .is _, .is _, .is _, .is _]
          [[], [(0, 30)], [(1, 31)], [], [(3, 33)], [(4, 34)], [(5, 35)], [(2, 32), (6, 36)], [(7, 37)], [(8, 38)], [(9, 39), (8, 38)], [(8, 38)], [(11, 41), (8, 38)], [(12, 42), (8, 38)], [(13, 43), (8, 38)], [(10, 40), (14, 44), (8, 38)], [(8, 38), (15, 45)], [(16, 46)], [(17, 47)], [(18, 48), (17, 47)], [(19, 49), (17, 47)], [(17, 47)], [(20, 50), (21, 51), (17, 47)], [(17, 47), (22, 52)], [(23, 53)]]
          [(0, 30), (1, 31), (2, 32), (3, 33), (4, 34), (5, 35), (6, 36), (7, 37), (8, 38), (9, 39), (10, 40), (11, 41), (12, 42), (13, 43), (14, 44), (15, 45), (16, 46), (17, 47), (18, 48), (19, 49), (20, 50), (21, 51), (22, 52), (23, 53), (24, 4)] (by kernel_rfl) (by kernel_rfl)
        case hob =>
          refine ⟨?o0, ?o1, ?o2, ?o3, ?o4, ?o5, ?o6, ?o7, ?o8, ?o9, ?o10, ?o11, ?o12, ?o13, ?o14, ?o15, ?o16, ?o17, ?o18, ?o19, ?o20, ?o21, ?o22, ?o23, ?o24, trivial⟩
          case o0 => intro W hW; change wpList _ _ _ _ _ _; go_wp2; exact pure_post rfl rfl rfl
          case o1 =>
            intro W hW; rintro _ rfl; change wpList _ _ _ _ _ _
            go_wp2_with fail
            refine (put_any n hn _).mono ?_
            rintro e w2 ⟨v2, rfl, hown2, hb2⟩
            obtain ⟨A, cap, rfl, _, _, hr2⟩ := hown2.bytes
            have HR2 := Lib.hid hr2; have HB2 := Lib.hid hb2; clear hown2 hr2 hb2
            go_wp2
            exact made_post rfl rfl rfl HB2.out ⟨A, cap, rfl, HR2.out⟩
          case o2 =>
            intro W hW; rintro _ ⟨A1, c1, rfl, hr1⟩; change wpList _ _ _ _ _ _
            have hs := run_string (P := Try.prog) hr1 25 5 9 c1 Try.underlying25 Try.underlying5 Try.underlying9
            clear hr1
            go_wp2
            exact pure_post rfl rfl rfl
          case o3 => intro W hW; change wpList _ _ _ _ _ _; go_wp2; exact pure_post rfl rfl rfl
          case o4 => intro W hW; rintro _ rfl; change wpList _ _ _ _ _ _; go_wp2; exact pure_post rfl rfl rfl
          case o5 =>
            intro W hW; rintro _ rfl; change wpList _ _ _ _ _ _
            go_wp2_with fail
            refine (ref_put n hn _).mono ?_
            rintro e w2 ⟨v2, rfl, hown2, hb2⟩
            obtain ⟨A, cap, rfl, _, _, hr2⟩ := hown2.bytes
            have HR2 := Lib.hid hr2; have HB2 := Lib.hid hb2; clear hown2 hr2 hb2
            go_wp2
            exact made_post rfl rfl rfl HB2.out ⟨A, cap, rfl, HR2.out⟩
          case o6 =>
            intro W hW; rintro _ ⟨A5, c5, rfl, hr5⟩; change wpList _ _ _ _ _ _
            have hs := run_string (P := Try.prog) hr5 25 5 9 c5 Try.underlying25 Try.underlying5 Try.underlying9
            clear hr5
            go_wp2
            exact pure_post rfl rfl rfl
          case o7 => intro W hW; rintro _ rfl; rintro _ rfl; change wpList _ _ _ _ _ _; go_wp2; exact pure_post rfl rfl rfl
          case o8 => intro W hW; rintro _ rfl; change wpList _ _ _ _ _ _; go_wp2; exact pure_post rfl rfl rfl
          case o9 => intro W hW; rintro _ rfl; change wpList _ _ _ _ _ _; go_wp2; exact pure_post rfl rfl rfl
          case o10 =>
            intro W hW; rintro _ rfl; rintro _ rfl; change wpList _ _ _ _ _ _
            go_wp2_with fail
            refine (size_any n hn _).mono ?_
            rintro e w2 ⟨rfl, rfl⟩
            go_wp2
            exact pure_post rfl rfl rfl
          case o11 => intro W hW; rintro _ rfl; change wpList _ _ _ _ _ _; go_wp2; exact pure_post rfl rfl rfl
          case o12 => intro W hW; rintro _ rfl; rintro _ rfl; change wpList _ _ _ _ _ _; go_wp2; exact pure_post rfl rfl rfl
          case o13 =>
            intro W hW; rintro _ rfl; rintro _ rfl; change wpList _ _ _ _ _ _
            go_wp2_with fail
            refine (ref_put n hn _).mono ?_
            rintro e w2 ⟨v2, rfl, hown2, hb2⟩
            obtain ⟨A, cap, rfl, _, _, hr2⟩ := hown2.bytes
            have HR2 := Lib.hid hr2; have HB2 := Lib.hid hb2; clear hown2 hr2 hb2
            go_wp2
            exact made_post rfl rfl rfl HB2.out ⟨A, cap, rfl, HR2.out⟩
          case o14 => intro W hW; rintro _ ⟨A13, c13, rfl, hr13⟩; rintro _ rfl; change wpList _ _ _ _ _ _; go_wp2; exact pure_post rfl rfl rfl
          case o15 => intro W hW; rintro _ rfl; rintro _ rfl; rintro _ rfl; change wpList _ _ _ _ _ _; go_wp2; exact pure_post rfl rfl rfl
          case o16 => intro W hW; rintro _ rfl; rintro _ rfl; change wpList _ _ _ _ _ _; go_wp2; exact pure_post rfl rfl rfl
          case o17 => intro W hW; rintro _ rfl; change wpList _ _ _ _ _ _; go_wp2; exact pure_post rfl rfl rfl
          case o18 => intro W hW; rintro _ rfl; change wpList _ _ _ _ _ _; go_wp2; exact pure_post rfl rfl rfl
          case o19 =>
            intro W hW; rintro _ rfl; rintro _ rfl; change wpList _ _ _ _ _ _
            go_wp2_with fail
            refine (row_any _ _ _ l _ (((HR.out.below HB1.out).more HB1.out.size).below (HBL.out.trans (hW.mono HBL.out.size)) |>.more (HBL.out.trans (hW.mono HBL.out.size)).size) HN.out (by omega)).mono ?_
            rintro e w2 ⟨v2, rfl, hown2, hb2⟩
            obtain ⟨A, cap, rfl, _, _, hr2⟩ := hown2.bytes
            have HR2 := Lib.hid hr2; have HB2 := Lib.hid hb2; clear hown2 hr2 hb2
            go_wp2
            exact made_post rfl rfl rfl HB2.out ⟨A, cap, rfl, HR2.out⟩
          case o20 =>
            intro W hW; rintro _ ⟨A19, c19, rfl, hr19⟩; rintro _ rfl; change wpList _ _ _ _ _ _
            have hs := run_string (P := Try.prog) hr19 25 5 9 c19 Try.underlying25 Try.underlying5 Try.underlying9
            clear hr19
            go_wp2
            exact pure_post rfl rfl rfl
          case o21 => intro W hW; rintro _ rfl; change wpList _ _ _ _ _ _; go_wp2; exact pure_post rfl rfl rfl
          case o22 => intro W hW; rintro _ rfl; rintro _ rfl; rintro _ rfl; change wpList _ _ _ _ _ _; go_wp2; exact pure_post rfl rfl rfl
          case o23 => intro W hW; rintro _ rfl; rintro _ rfl; change wpList _ _ _ _ _ _; go_wp2; exact pure_post rfl rfl rfl
          case o24 => intro W hW; rintro _ rfl; change wpList _ _ _ _ _ _; go_wp2; exact pure_post rfl rfl rfl
        case hend =>
          intro W hW; rintro _ rfl; rintro _ ⟨A1, c1, rfl, hr1⟩; rintro _ rfl; rintro _ rfl; rintro _ rfl; rintro _ ⟨A5, c5, rfl, hr5⟩; rintro _ rfl; rintro _ rfl; rintro _ rfl; rintro _ rfl; rintro _ rfl; rintro _ rfl; rintro _ rfl; rintro _ ⟨A13, c13, rfl, hr13⟩; rintro _ rfl; rintro _ rfl; rintro _ rfl; rintro _ rfl; rintro _ rfl; rintro _ ⟨A19, c19, rfl, hr19⟩; rintro _ rfl; rintro _ rfl; rintro _ rfl; rintro _ rfl; rintro _ rfl
          simp only [given, put_lit, List.set]
          go_wp2
          go_ret
          exact ⟨rfl, HB1.out.trans ((HBL.out.trans (hW.mono HBL.out.size)).mono HB1.out.size)⟩
end Go.Proofs.Ytggfkajihlmndaa
