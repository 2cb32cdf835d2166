/- What the statements of wire begin with, walked: awake. -/
import Derived.Test.YtgdnimhhhllgaaaDoorWireP2
import Derived.Test.YtgdnimhhhllgaaaDoorWireP5
import Derived.Test.YtgdnimhhhllgaaaDoorArr
import Derived.Laws.StructEq
namespace Go.Proofs.YtgdnimhhhllgaaaDoor
open Go.RowKit

/-- Bytes as a string. -/
theorem cv {w : World} {B n c : Nat} {A : Option Addr} {bs : List Nat} (h : Row byteV w B A n bs) : (convert 25 9 (.slice A n c)).run Tryd.prog w = .ok (.string (strOf bs)) w :=
  run_string h 25 5 9 c Tryd.underlying25 Tryd.underlying5 Tryd.underlying9
theorem setB_13 : R.setB 13 = [3, 0, 2, 3] := by
  have h : S.ids 13 32 = [0, 2, 3] := by decide
  unfold R.setB S.count
  rw [h]
  show V.put 3 ++ V.row [0, 2, 3] = _
  simp only [V.row, List.flatMap_cons, List.flatMap_nil]
  rw [V.put_last 3 (by omega), V.put_last 0 (by omega), V.put_last 2 (by omega)]
  rfl
theorem set_211 : R.set [2, 1, 1] ⟨0, 0, 0⟩ 9 = (0, ⟨2, 2, 5⟩) := by rfl
theorem writer_zero : (Tryd.prog.info? 27).map (·.zero) = some (some (.agg [Value.slice none 0 0].toArray)) := by kernel_rfl
theorem wr_new {w w' : World} {g : Nat} (hg : w.heap.size ≤ g) (hk : Blk w' g 27 [.slice none 0 0]) (hb : Below w.heap.size w w') : Wr w' (· < w.heap.size) g [] :=
  ⟨_, hk, Own.nil _ _ _, by simp [Value.ownBlock], by simp; omega, by intro k e; simp [Value.ownBlock] at e, fun k h => Nat.lt_of_lt_of_le h hb.size⟩

/-- What turns a guarded block alone leaves a writer as it was. -/
theorem Wr.far {w w' : World} {K : Nat → Prop} {g q : Nat} {bs : List Nat} (h : Wr w K g bs) (hg : w.grownBy w' (some q)) (hq : K q) : Wr w' K g bs := by
  obtain ⟨v, h1, h2, h3, h4, h5, h6⟩ := h
  refine ⟨v, h1.grown hg (by intro e; cases e; exact h4 hq), h2.far hg ?_, h3, h4, h5, fun k hk => ?_⟩
  · rcases hv : v.ownBlock with _ | b
    · exact .inl rfl
    · exact .inr (by intro e; cases e; exact h5 _ hv hq)
  · have := h6 k hk; have := hg.size; omega

set_option maxRecDepth 100000 in
set_option maxHeartbeats 800000 in
theorem awake_any (w : World) (ht : Tab w) (hw : 1 ≤ w.heap.size) : Calls Tryd.prog 7 #[] w fun e w' => e = .returned (.bool true) ∧ Below w.heap.size w w' := by
  have HT := kp ht
  have HL3 : Kept (∀ x ∈ [2, 1, 1], x < 256) := kp (by simp)
  clear ht
  go_enter Tryd.func7, Tryd.ntmps7
  go_wp2_with (first
    | ((with_reducible show wpList _ _ _ (⟨some 1, _, _, _, _, _⟩ :: _) _ _); go_must (refine wpList_alloc_zero rfl 27 rfl _ writer_zero ?_); intro g1 w1 hg1 hk1 hw1
       have HK1 := kp (wr_new hg1 hk1 hw1)
       have HW1 := kp hw1
       have hz1 := hw1.size
       have HT1 := kp (HT.out.below hw1 hw)
       clear hk1 hw1)
    | (go_at_call 13; go_must (refine (wr_set _ g1 [] 13 (by omega) w1 HK1.out HT1.out hw (by simp)).mono ?_); rintro e w2 ⟨rfl, hk2, hw2⟩
       rw [setB_13] at hk2
       have HK2 := kp hk2
       have HW2 : Kept (Below w.heap.size w w2) := kp (HW1.out.trans hw2.below)
       have hz2 := HW2.out.size
       have HL2 := kp (Row.made byteV w2 [2, 1, 1] #[.int .u8 2, .int .u8 1, .int .u8 1] rfl 5)
       have HK2b : Kept (Wr (w2.alloc (.cells #[.int .u8 2, .int .u8 1, .int .u8 1] 5)) (· < w.heap.size) g1 [3, 0, 2, 3]) := kp (HK2.out.below ((Below.refl _ _).alloc (Nat.le_refl _) _) fun k h => .inl h)
       have HW2b : Kept (Below w.heap.size w (w2.alloc (.cells #[.int .u8 2, .int .u8 1, .int .u8 1] 5))) := kp (HW2.out.trans (((Below.refl _ _).alloc (Nat.le_refl _) _).mono hz2))
       clear hk2 hw2)
    | (go_at_call 16; go_must (refine (pd_new _ _ 3 3 [2, 1, 1] _ HL2.out (by omega) (by simp)).mono ?_); rintro e w3 ⟨g3, A3, c3, rfl, hg3, hk3, hr3, hc3, hm3, hb3⟩
       have HK3 := kp hk3; have HR3 := kp hr3; have HM3 := kp hm3
       have HW3 := kp (HW2b.out.trans (hb3.mono HW2b.out.size))
       have HKw3 : Kept (Wr w3 (fun k => k < w.heap.size ∨ k = g3) g1 [3, 0, 2, 3]) := kp (HK2b.out.below hb3 fun k h => by
         rcases h with h | h
         · exact .inl h
         · subst h; exact .inr ⟨hg3, hk3.lt⟩)
       have hz3 := HW3.out.size
       have hsz3 := hb3.size
       have hsz2 : (w2.alloc (.cells #[.int .u8 2, .int .u8 1, .int .u8 1] 5)).heap.size = w2.heap.size + 1 := by simp
       clear hk3 hr3 hm3 hb3)
    | (go_at_call 22; go_must (refine (pd_set g3 g3 A3 3 c3 [2, 1, 1] ⟨0, 0, 0⟩ ⟨by simp, by simp, by simp⟩ 9 (by omega) 0 _ set_211 w3 HK3.out HR3.out HL3.out hc3 HM3.out (Nat.le_refl _) (Nat.le_of_lt HK3.out.lt)).mono ?_); rintro e w4 ⟨rfl, hk4, hg4, hr4⟩
       have HK4 := kp hk4
       have HKw4 := kp (HKw3.out.far hg4 (.inr rfl))
       have HW4 : Kept (Below w.heap.size w w4) := kp (HW3.out.grown hg4 hz3 (by intro k e; cases e; omega))
       have hz4 := HW4.out.size
       clear hk4 hg4 hr4)
    | (go_at_call 15; go_must (refine (wr_bytes _ g1 [3, 0, 2, 3] w4 HKw4.out (by simp)).mono ?_); rintro e w5 ⟨v5, rfl, hown5, hk5, hb5⟩
       obtain ⟨A5, c5, rfl, hc5, hm5, hr5⟩ := Own.readsN hown5 (n := 4) rfl
       have hs : (convert 25 9 (.slice A5 4 c5)).run Tryd.prog w5 = .ok (.string ⟨#[3, 0, 2, 3]⟩) w5 := cv hr5
       have HK5 : Kept (Pd w5 g3 A3 3 c3 ⟨2, 2, 5⟩) := kp (Blk.below HK4.out hb5 HK4.out.lt)
       have HW5 := kp (HW4.out.trans (hb5.mono hz4))
       have hz5 := HW5.out.size
       clear hown5 hk5 hb5 hm5 hr5)
    | (go_at_call 24; go_must (refine (pd_fault g3 A3 3 c3 ⟨2, 2, 5⟩ rfl w5 HK5.out).mono ?_); rintro e w6 ⟨rfl, hb6⟩
       have HW6 := kp (HW5.out.trans (hb6.mono hz5))
       clear hb6))
  go_ret
  exact ⟨rfl, HW6.out⟩
end Go.Proofs.YtgdnimhhhllgaaaDoor
