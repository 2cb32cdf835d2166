/- GraphBoth, walked. -/
import Derived.Test.YtfifnahcobjjdaaGraphLaw1
import Derived.Test.YtfifnahcobjjdaaPk16
import Derived.Deep.QuietTactic
import Derived.BigQuiet
namespace Go.Proofs.Ytfifnahcobjjdaa
open Go.RowKit

theorem behind_app {l : List Nd} {f1 f2 : List Int} {i : Nat} : Behind l (f1 ++ f2) i ↔ Behind l f1 i ∨ Behind l f2 i := by
  unfold Behind
  constructor
  · rintro ⟨j, hj, hl, hr⟩
    rcases List.mem_append.1 hj with h | h
    · exact .inl ⟨j, h, hl, hr⟩
    · exact .inr ⟨j, h, hl, hr⟩
  · rintro (⟨j, h, hl, hr⟩ | ⟨j, h, hl, hr⟩)
    · exact ⟨j, List.mem_append_left _ h, hl, hr⟩
    · exact ⟨j, List.mem_append_right _ h, hl, hr⟩
theorem Nodes.more {w : World} {B B' : Nat} {A : Option Addr} {n : Nat} {l : List Nd} (h : Nodes w B A n l) (hB : B ≤ B') : Nodes w B' A n l := ⟨h.1.more hB, h.2⟩

set_option maxRecDepth 1000000 in
set_option maxHeartbeats 8000000 in
theorem walkGraphBoth (f0 : Fn) (a1 : Option Addr) (len1 cap1 : Nat) (z1 : List Int) (a2 : Option Addr) (len2 cap2 : Nat) (z2 : List Int) (w : World) (w0 : f0.Ok w w.heap.size) (w1 : IsRow .i64 w a1 len1 cap1 z1) (w2 : IsRow .i64 w a2 len2 cap2 z2) :
    Calls Try.prog 6 #[.slice f0.A f0.len f0.cap, .slice a1 len1 cap1, .slice a2 len2 cap2] w fun e w' => e = .returned (.bool true) ∧ Below w.heap.size w w' := by
  obtain ⟨l1, hr, _, hm, hlc, hcm⟩ := w1.ints
  obtain ⟨l2, hr2, _, hm2, hlc2, hcm2⟩ := w2.ints
  have HF := kp w0; have HR1 := kp hr; have HR2 := kp hr2
  have HL1 := kp hr.len; have HL2 := kp hr2.len
  have hfc := w0.lc; have hfm := w0.cm
  have HFl := kp w0.nodes.1.len
  unfold maxLen at hm hcm hfm hm2 hcm2
  clear w0 w1 w2 hr hr2
  by_cases hbig : 100 < f0.len
  · have hgt : decide ((100 : Int) < (f0.len : Int)) = true := by simp; omega
    go_enter Try.func6, Try.ntmps6
    go_wp2_with fail
    refine (awake_any w).mono ?_
    rintro e w1 ⟨rfl, hb1⟩
    have HW1 := kp hb1
    have hs1 := hb1.size
    clear hb1
    go_wp2_with fail
    refine (awake_any w1).mono ?_
    rintro e w9 ⟨rfl, hb9⟩
    have HW9 := kp (HW1.out.trans (hb9.mono hs1))
    clear hb9
    go_wp2
    go_ret
    exact ⟨rfl, HW9.out⟩
  · have hng : decide ((100 : Int) < (f0.len : Int)) = false := by simp; omega
    by_cases hbig1 : 100 < len1
    · have hgt : decide ((100 : Int) < (len1 : Int)) = true := by simp; omega
      go_enter Try.func6, Try.ntmps6
      go_wp2_with fail
      refine (awake_any w).mono ?_
      rintro e w1 ⟨rfl, hb1⟩
      have HW1 := kp hb1
      have hs1 := hb1.size
      clear hb1
      go_wp2_with fail
      refine (awake_any w1).mono ?_
      rintro e w9 ⟨rfl, hb9⟩
      have HW9 := kp (HW1.out.trans (hb9.mono hs1))
      clear hb9
      go_wp2
      go_ret
      exact ⟨rfl, HW9.out⟩
    · have hng1 : decide ((100 : Int) < (len1 : Int)) = false := by simp; omega
      by_cases hbig2 : 100 < len2
      · have hgt : decide ((100 : Int) < (len2 : Int)) = true := by simp; omega
        go_enter Try.func6, Try.ntmps6
        go_wp2_with fail
        refine (awake_any w).mono ?_
        rintro e w1 ⟨rfl, hb1⟩
        have HW1 := kp hb1
        have hs1 := hb1.size
        clear hb1
        go_wp2_with fail
        refine (awake_any w1).mono ?_
        rintro e w9 ⟨rfl, hb9⟩
        have HW9 := kp (HW1.out.trans (hb9.mono hs1))
        clear hb9
        go_wp2
        go_ret
        exact ⟨rfl, HW9.out⟩
      · have hng2 : decide ((100 : Int) < (len2 : Int)) = false := by simp; omega
        go_enter Try.func6, Try.ntmps6
        go_wp2_with fail
        refine (awake_any w).mono ?_
        rintro e w1 ⟨rfl, hb1⟩
        have HW1 := kp hb1
        have hs1 := hb1.size
        clear hb1
        go_wp2_with fail
        refine (graph_after _ f0.A f0.len f0.cap f0.nodes a1 len1 cap1 l1 w1 (HF.out.keep fun _ hp => HW1.out.cell hp).nodes (HR1.out.below HW1.out) (by omega) (by omega) hs1).mono ?_
        rintro e w2 ⟨v2, o2, rfl, ho2, hown2, hb2⟩
        have HW2 : Kept (Below w.heap.size w w2) := kp (HW1.out.trans (hb2.mono hs1))
        have hs2 := HW2.out.size
        obtain ⟨A2, c2, rfl, hc21, hc22, hr2, _⟩ := hown2.form
        rw [outB_len] at hc21 hr2 ⊢
        unfold maxLen at hc22
        have HO2 := kp ho2; have HR2x := kp hr2
        have hz2 := hb2.size
        have HB2 := kp hb2
        clear hown2 hr2 ho2 hb2
        go_wp2_with fail
        refine (graph_after _ f0.A f0.len f0.cap f0.nodes a2 len2 cap2 l2 w2 (HF.out.keep fun _ hp => HW2.out.cell hp).nodes (HR2.out.below HW2.out) (by omega) (by omega) hs2).mono ?_
        rintro e w3 ⟨v3, o3, rfl, ho3, hown3, hb3⟩
        have HW3 : Kept (Below w.heap.size w w3) := kp (HW2.out.trans (hb3.mono hs2))
        have hs3 := HW3.out.size
        obtain ⟨A3, c3, rfl, hc31, hc32, hr3, _⟩ := hown3.form
        rw [outB_len] at hc31 hr3 ⊢
        unfold maxLen at hc32
        have HO3 := kp ho3; have HR3x := kp hr3
        have hz3 := hb3.size
        have HB3 := kp hb3
        clear hown3 hr3 ho3 hb3
        have HB0 : Kept (Below w3.heap.size w3 (w3.alloc (.cells #[] 3))) := kp ((Below.refl _ _).alloc (Nat.le_refl _) _)
        have HO0 : Kept (Own (w3.alloc (.cells #[] 3)) w3.heap.size 3 (.slice (some ⟨w3.heap.size, 0, none⟩) 0 0) []) := kp (Own.new w3 w3.heap.size 3 [] (Nat.le_refl _) (by simp [maxLen]))
        have HRa := kp (((HR1.out.below HW3.out).below (HB0.out.mono hs3)).vals)
        obtain ⟨n7, hn7⟩ : ∃ n7, (l1 ++ l2).length = n7 := ⟨_, rfl⟩
        have hn7le : n7 ≤ 200 := by rw [← hn7, List.length_append, HL1.out, HL2.out]; omega
        have HN7 := kp hn7
        clear hn7
        go_wp2_with (first
          | ((with_reducible show wpList _ _ _ (⟨some 38, _, _, _, _, _⟩ :: _) _ _); go_must (refine wpList_append_row rfl (.tmp 36) (.tmp 37) 27 rfl w3.heap.size 3 _ _ Try.underlying27 int_info rfl _ _ [] rfl HO0.out a1 len1 cap1 w.heap.size _ rfl HRa.out (ones _ one_intV _) (by simp [maxLen]; omega) (by simp; omega) (by simp) ?_); intro v6 w6 hown6 hg6
             have hb6 := Below.grown HB0.out hg6.1 (by simp) (fun j hj => (HO0.out.block j hj).1)
             have HO6 : Kept (Own w6 w3.heap.size 3 v6 (l1.map intV)) := kp (by simpa using hown6)
             have HB6 := kp hb6
             have hz6 : w3.heap.size ≤ w6.heap.size := hb6.size
             have HRb := kp (((HR2.out.below HW3.out).below (hb6.mono hs3)).vals)
             clear hown6 hg6 hb6)
          | ((with_reducible show wpList _ _ _ (⟨some 40, _, _, _, _, _⟩ :: _) _ _); go_must (refine wpList_append_row rfl (.tmp 38) (.tmp 39) 27 rfl w3.heap.size 3 _ _ Try.underlying27 int_info rfl w6 v6 _ rfl HO6.out a2 len2 cap2 w.heap.size _ rfl HRb.out (ones _ one_intV _) (by simp [maxLen]; rw [HL1.out]; omega) (by simp; rw [HL1.out]; omega) hz6 ?_); intro v7 w7 hown7 hg7
             have hb7 := Below.grown HB6.out hg7.1 hz6 (fun j hj => (HO6.out.block j hj).1)
             obtain ⟨A7, c7, rfl, hc71, hc72, hr7⟩ := Own.readsN (show Own w7 w3.heap.size 3 v7 ((l1 ++ l2).map intV) by rw [List.map_append]; exact hown7) HN7.out
             have HR7 := kp hr7
             have HW7 := kp (HW3.out.trans (hb7.mono hs3))
             have hs7 := HW7.out.size
             have hz7 : w3.heap.size ≤ w7.heap.size := hb7.size
             have HB7 := kp hb7
             unfold maxLen at hc72
             clear hown7 hg7 hb7 hr7))
        refine (graph_after w7.heap.size f0.A f0.len f0.cap f0.nodes A7 n7 c7 (l1 ++ l2) w7 ((HF.out.keep fun _ hp => HW7.out.cell hp).nodes.more hs7) HR7.out (by omega) (by omega) (Nat.le_refl _)).mono ?_
        rintro e w8 ⟨v8, o8, rfl, ho8, hown8, hb8⟩
        obtain ⟨A8, c8, rfl, hc81, hc82, hr8, _⟩ := hown8.form
        rw [outB_len] at hc81 hr8 ⊢
        unfold maxLen at hc82
        have HR8 := kp hr8
        have HR2y := kp (((HR2x.out.below HB3.out).below (HB7.out.mono hz3)).below (hb8.mono (by omega)))
        have HR3y := kp ((HR3x.out.below HB7.out).below (hb8.mono hz7))
        have HW8 : Kept (Below w.heap.size w w8) := kp (HW7.out.trans (hb8.mono hs7))
        have hs8 := HW8.out.size
        have hz8 := hb8.size
        have HEq : Kept (∀ g, g < f0.len → o8 g = (o2 g || o3 g)) := kp fun g hg => by
          have h1 := HO2.out g hg
          have h2 := HO3.out g hg
          have h3 := (ho8 g hg).trans behind_app
          cases e1 : o2 g <;> cases e2 : o3 g <;> cases e3 : o8 g <;> simp_all
        clear hown8 hr8 ho8 hb8
        have hll : ((f0.len : Int) != (f0.len : Int)) = false := by simp
        go_wp2
        go_loopw [10] (fun v10 wq => ∃ g : Nat, g ≤ f0.len ∧ v10 = .int .i64 g ∧ Below w8.heap.size w8 wq) (fun v10 _ => f0.len - (intOf v10).toNat)
        case atStart => exact ⟨0, by omega, rfl, Below.refl _ _⟩
        case round =>
          obtain ⟨g, hg, rfl, hbq⟩ := hrel
          have HBq := kp hbq
          by_cases hgl : g < f0.len
          · obtain ⟨adx, xx, ex, _, hx, hcx⟩ := (HR2y.out.below (hbq.mono (by omega))).get hgl
            obtain ⟨ady, yy, ey, _, hy, hcy⟩ := (HR3y.out.below (hbq.mono (by omega))).get hgl
            obtain ⟨adz, zz, ez, _, hz, hcz⟩ := (HR8.out.below hbq).get hgl
            rw [outB_at _ f0.len g hgl] at hx hy hz
            cases hx; cases hy; cases hz
            rw [HEq.out g hgl] at hcz
            subst ex; subst ey; subst ez
            generalize o2 g = bx at *
            generalize o3 g = by_ at *
            clear hbq
            cases bx
            · have hbb : (by_ != by_) = false := by simp
              rw [Bool.false_or] at hcz
              go_wp2
              go_quiet (fail)
              go_wp2
              go_roundw
              case rel => exact ⟨g + 1, by omega, by go_num, below_drewN HBq.out _⟩
              case measure => simp [intOf]; omega
            · rw [Bool.true_or] at hcz
              go_wp2
              go_quiet (fail)
              go_wp2
              go_roundw
              case rel => exact ⟨g + 1, by omega, by go_num, below_drewN HBq.out _⟩
              case measure => simp [intOf]; omega
          · have hgge : f0.len ≤ g := by omega
            clear hgl hbq
            go_wp2
            go_ret
            exact ⟨rfl, HW8.out.trans (HBq.out.mono hs8)⟩
end Go.Proofs.Ytfifnahcobjjdaa
