/- The program's reader, walked: Fault, Raw. -/
import Derived.Test.YtdnhfpphjpnklaaWireP3
import Derived.Test.YtdnhfpphjpnklaaPk3
namespace Go.Proofs.Ytdnhfpphjpnklaa
open Go.RowKit

/-- A fault stands where the reader stands; without one nothing is kept. -/
def R.Fit (s : R.St) : Prop := s.wh = if s.why = 0 then 0 else s.at_
theorem R.fail_fit {s : R.St} (h : R.Fit s) {e : Nat} (he : e ≠ 0) : R.Fit (R.fail s e) := by
  unfold R.fail
  by_cases h0 : s.why = 0
  · rw [if_pos h0]
    show s.at_ = if e = 0 then 0 else s.at_
    rw [if_neg he]
  · rw [if_neg h0]; exact h
theorem R.num_fit (bs : List Nat) {s : R.St} (h : R.Fit s) (most : Int) : R.Fit (R.num bs s most).2 := by
  unfold R.num
  split
  · rename_i h0
    split
    · split
      · exact R.fail_fit h (by decide)
      · unfold R.Fit at *
        rw [if_pos h0] at h
        exact h
    · rename_i h1
      exact R.fail_fit h h1
  · exact h
theorem R.raw_fit (bs : List Nat) {s : R.St} (h : R.Fit s) (n : Int) : R.Fit (R.raw bs s n).2 := by
  unfold R.raw
  split
  · rename_i h0
    split
    · exact R.fail_fit h (by decide)
    · split
      · exact R.fail_fit h (by decide)
      · unfold R.Fit at *
        rw [if_pos h0] at h
        exact h
  · exact h
theorem R.ids_fit (bs : List Nat) (most : Int) : ∀ (k : Nat) (l : List Nat) (s : R.St), R.Fit s → R.Fit (R.ids bs most k l s).2
  | 0, l, s, h => h
  | k + 1, l, s, h => by
    have h1 := R.num_fit bs h most
    unfold R.ids
    split
    · rename_i h0
      split
      · refine R.fail_fit ?_ (by decide)
        unfold R.Fit at *
        rw [if_pos h0] at h1
        show (R.num bs s most).2.wh = if (R.num bs s most).2.why = 0 then 0 else s.at_
        rw [if_pos h0]
        exact h1
      · exact R.ids_fit bs most k _ _ h1
    · exact h1
theorem R.set_fit (bs : List Nat) {s : R.St} (h : R.Fit s) (size : Int) : R.Fit (R.set bs s size).2 := R.ids_fit bs _ _ _ _ (R.num_fit bs h _)

theorem spot_zero : (Try.prog.info? 29).map (·.zero) = some (some (.agg [Value.int .i64 0, Value.int .i64 0].toArray)) := by kernel_rfl
theorem spot_size : (Try.prog.info? 29).map (·.size) = some 2 := by kernel_rfl
theorem spot_ones (x y : Int) : ∀ u ∈ [Value.int .i64 x, Value.int .i64 y], u.oneCell' = true := by
  intro u hu
  simp only [List.mem_cons, List.not_mem_nil, or_false] at hu
  rcases hu with h | h <;> subst h <;> rfl

set_option maxRecDepth 100000 in
set_option maxHeartbeats 800000 in
theorem pd_fault (g : Nat) (A : Option Addr) (n c : Nat) (s : R.St) (hf : R.Fit s) (w : World) (hk : Pd w g A n c s) :
    Calls Try.prog 17 #[.pointer (some ⟨g, 0, none⟩)] w fun r w' => r = .returned (.agg #[.int .i64 (s.wh : Int), .int .i64 (s.why : Int)]) ∧ Below w.heap.size w w' := by
  have HK := kp hk; have HF := kp hf
  have hg := hk.lt
  clear hk hf
  by_cases h : s.why = 0
  · have hz : ((s.why : Int) == 0) = true := by simp; omega
    have HR : Kept (s.wh = 0 ∧ s.why = 0) := kp ⟨by have := HF.out; unfold R.Fit at this; rw [if_pos h] at this; exact this, h⟩
    clear h
    go_enter Try.func17, Try.ntmps17
    go_wp2_with (first
      | ((with_reducible show wpList _ _ _ (⟨some 2, _, _, _, _, _⟩ :: _) _ _); go_must (refine wpList_alloc_zero rfl 29 rfl _ spot_zero ?_); intro g1 w1 hg1 hk1 hw1
         obtain ⟨hc0, hc1, hc2, hf1, hf2⟩ := Pd.cells (s := s) (w := w1) (Blk.below HK.out hw1 hg)
         have HK1 := kp hk1; have HW1 := kp hw1; clear hk1 hw1)
      | ((with_reducible show wpList _ _ _ (⟨none, _, _, _, _, _⟩ :: _) _ _); go_must (refine wpList_store_blk rfl 29 (.tmp 2) (.tmp 8) rfl g1 [.int .i64 0, .int .i64 0] rfl rfl _ _ HK1.out spot_size rfl (spot_ones 0 0) ?_); intro w2 hk2 hw2 hz2; have HK2 := kp hk2; have HW2 := kp hw2; clear hk2 hw2 hz2))
    refine bodyPost_ret (results_blk (P := Try.prog) (fn := Try.f17) rfl _ _ g1 29 _ _ rfl HK2.out Try.underlying29 rfl spot_size) rfl ⟨?_, ?_⟩
    · rw [HR.out.1, HR.out.2]; rfl
    · exact HW1.out.grown HW2.out HW1.out.size (by intro k e; cases e; exact hg1)
  · have hz : ((s.why : Int) == 0) = false := by simp; omega
    have HR : Kept (s.wh = s.at_) := kp (by have := HF.out; unfold R.Fit at this; rw [if_neg h] at this; exact this)
    clear h
    go_enter Try.func17, Try.ntmps17
    go_wp2_with (first
      | ((with_reducible show wpList _ _ _ (⟨some 2, _, _, _, _, _⟩ :: _) _ _); go_must (refine wpList_alloc_zero rfl 29 rfl _ spot_zero ?_); intro g1 w1 hg1 hk1 hw1
         have HP1 : Kept (Pd w1 g A n c s) := kp (Blk.below HK.out hw1 hg)
         obtain ⟨hc0, hc1, hc2, hf1, hf2⟩ := HP1.out.cells
         have hg2 := hk1.lt
         have HK1 := kp hk1; have HW1 := kp hw1; clear hk1 hw1))
    apply region_tail 9 (.is _ :: .is _ :: .is _ :: .is _ :: .is _ :: .is _ :: .is _ :: .is _ :: .is _ :: [])
      [[], [(0, 9)], [(1, 10)], [(2, 11)], [], [(4, 13)], [(5, 14)], [(6, 15)], [(3, 12), (7, 16)], [(8, 17)]]
      [(0, 9), (1, 10), (2, 11), (3, 12), (4, 13), (5, 14), (6, 15), (7, 16), (8, 17)] (by kernel_rfl) (by kernel_rfl) (by kernel_rfl) (by kernel_rfl) (by kernel_rfl)
    case hob =>
      refine ⟨?o0, ?o1, ?o2, ?o3, ?o4, ?o5, ?o6, ?o7, ?o8, trivial⟩
      case o0 => intro W hW; change wpList _ _ _ _ _ _; go_wp2; exact pure_post rfl rfl rfl
      case o1 => intro W hW; rintro _ rfl; change wpList _ _ _ _ _ _; go_wp2; exact pure_post rfl rfl rfl
      case o2 => intro W hW; rintro _ rfl; change wpList _ _ _ _ _ _; go_wp2; exact pure_post rfl rfl rfl
      case o3 =>
        intro W hW; rintro _ rfl; change wpList _ _ _ _ _ _
        have hd : W.cell? ⟨g, 1, none⟩ = some (.int .i64 (s.at_ : Int)) := (Blk.below HP1.out hW HP1.out.lt).cell 1
        go_wp2; exact pure_post rfl rfl rfl
      case o4 => intro W hW; change wpList _ _ _ _ _ _; go_wp2; exact pure_post rfl rfl rfl
      case o5 => intro W hW; rintro _ rfl; change wpList _ _ _ _ _ _; go_wp2; exact pure_post rfl rfl rfl
      case o6 => intro W hW; rintro _ rfl; change wpList _ _ _ _ _ _; go_wp2; exact pure_post rfl rfl rfl
      case o7 =>
        intro W hW; rintro _ rfl; change wpList _ _ _ _ _ _
        have hd : W.cell? ⟨g, 2, none⟩ = some (.int .i64 (s.why : Int)) := (Blk.below HP1.out hW HP1.out.lt).cell 2
        go_wp2; exact pure_post rfl rfl rfl
      case o8 => intro W hW; rintro _ rfl; rintro _ rfl; change wpList _ _ _ _ _ _; go_wp2; exact pure_post rfl rfl rfl
    case hend =>
      intro W hW; rintro _ rfl; rintro _ rfl; rintro _ rfl; rintro _ rfl; rintro _ rfl; rintro _ rfl; rintro _ rfl; rintro _ rfl; rintro _ rfl
      simp only [given, put_lit, List.set, List.drop]
      have HKW := kp (HK1.out.below hW hg2)
      have HW := kp hW
      clear hW
      go_wp2_with (first
        | ((with_reducible show wpList _ _ _ (⟨none, _, _, _, _, _⟩ :: _) _ _); go_must (refine wpList_store_blk rfl 29 (.tmp 2) (.tmp 17) rfl g1 [.int .i64 (s.at_ : Int), .int .i64 (s.why : Int)] rfl rfl _ _ HKW.out spot_size rfl (spot_ones _ _) ?_); intro w2 hk2 hw2 hz2; have HK2 := kp hk2; have HW2 := kp hw2; clear hk2 hw2 hz2))
      refine bodyPost_ret (results_blk (P := Try.prog) (fn := Try.f17) rfl _ _ g1 29 _ _ rfl HK2.out Try.underlying29 rfl spot_size) rfl ⟨?_, ?_⟩
      · rw [HR.out]
      · have h2 := HW1.out.trans (HW.out.mono HW1.out.size)
        exact h2.grown HW2.out h2.size (by intro k e; cases e; exact hg1)

set_option maxRecDepth 100000 in
set_option maxHeartbeats 1600000 in
theorem pd_raw (g B : Nat) (A : Option Addr) (n c : Nat) (bs : List Nat) (s : R.St) (hs : R.Ok bs s) (m : Int) (out : List Nat) (s' : R.St) (hx : R.raw bs s m = (out, s')) (w : World) (hk : Pd w g A n c s)
    (hr : Row byteV w B A n bs) (hn : n ≤ 1000000) (hnc : n ≤ c) (hBg : B ≤ g) (hBw : B ≤ w.heap.size) :
    Calls Try.prog 14 #[.pointer (some ⟨g, 0, none⟩), .int .i64 m] w fun r w' => ∃ v, r = .returned v ∧ Own w' w.heap.size 5 v (out.map byteV) ∧ Pd w' g A n c s' ∧ w.grownBy w' (some g) ∧ Row byteV w' B A n bs := by
  obtain ⟨hc0, hc1, hc2, hf1, hf2⟩ := hk.cells
  have HK := kp hk; have HR := kp hr
  have hlen := hr.len
  have hat := hs.1
  have hgs := hk.lt
  have HX := kp hx
  clear hk hr hs hx
  obtain ⟨at_, wh, why⟩ := s
  simp only at *
  have hatn : at_ ≤ n := by omega
  by_cases h : why = 0
  · have hz : ((why : Int) == 0) = true := by simp; omega
    have HW0 := kp h
    obtain ⟨e, he⟩ : ∃ e, (if m < 0 then 1 else if (n : Int) - (at_ : Int) < m then 2 else 0) = e := ⟨_, rfl⟩
    have HRef : Kept (∀ W, Pd W g A n c ⟨at_, wh, why⟩ → Calls Try.prog 30 #[.pointer (some ⟨g, 0, none⟩), .int .i64 m] W fun r w' => r = .returned (.int .i64 (e : Int)) ∧ ∃ k, w' = W.drewN k) := kp fun W hW => pd_refusal g A n c ⟨at_, wh, why⟩ m W hW hatn hn e he
    by_cases he0 : e = 0
    · subst he0
      have hmn : ¬ m < 0 := by intro h1; rw [if_pos h1] at he; cases he
      have hml : ¬ (n : Int) - (at_ : Int) < m := by intro h1; rw [if_neg hmn, if_pos h1] at he; cases he
      obtain ⟨k, rfl⟩ : ∃ k : Nat, m = (k : Int) := ⟨m.toNat, by omega⟩
      have HE : Kept (((bs.drop at_).take k, ⟨at_ + k, wh, 0⟩) = (out, s')) := kp <| by rw [← HX.out]; unfold R.raw; rw [if_pos h, if_neg hmn, if_neg (by show ¬ (bs.length : Int) - (at_ : Int) < (k : Int); omega)]; rfl
      have hak : at_ + k ≤ n := by omega
      obtain ⟨q, hq⟩ : ∃ q, (bs.drop at_).take k = q := ⟨_, rfl⟩
      have hql : q.length ≤ 1000000 := by rw [← hq, List.length_take]; omega
      rw [hq] at HE
      have HQ := kp hq
      clear h hmn hml he hq
      go_enter Try.func14, Try.ntmps14
      go_wp2_with (first
        | (go_at_call 30; go_must (refine (HRef.out w HK.out).mono ?_); rintro r w1 ⟨rfl, j, hw1⟩
           have HK1 : Kept (Pd w1 g A n c ⟨at_, wh, why⟩) := kp (by rw [hw1]; exact HK.out)
           have HG1 : Kept (w.grownBy w1 (some g)) := kp (by rw [hw1]; exact grown_drews (grown_refl _ _) _)
           have HR1 : Kept (Row byteV w1 B A n bs) := kp (by rw [hw1]; exact HR.out.drewN _)
           have hz1 : w1.heap.size = w.heap.size := by rw [hw1]; rfl
           obtain ⟨hd0, hd1, hd2, he1, he2⟩ := HK1.out.cells
           clear hw1 hc0 hc1 hc2 hf1 hf2))
      rw [show (at_ : Int) + (k : Int) = ((at_ + k : Nat) : Int) by omega]
      have HK5 : Kept (Pd ((w1.setCell ⟨g, 2, none⟩ (.int .i64 0)).setCell ⟨g, 1, none⟩ (.int .i64 ((at_ + k : Nat) : Int))) g A n c ⟨at_ + k, wh, 0⟩) := kp ((HK1.out.set 2 (.int .i64 0)).set 1 _)
      have HG5 : Kept (w.grownBy ((w1.setCell ⟨g, 2, none⟩ (.int .i64 0)).setCell ⟨g, 1, none⟩ (.int .i64 ((at_ + k : Nat) : Int))) (some g)) := kp (grown_set (grown_set HG1.out))
      have HR5 : Kept (Row byteV ((w1.setCell ⟨g, 2, none⟩ (.int .i64 0)).setCell ⟨g, 1, none⟩ (.int .i64 ((at_ + k : Nat) : Int))) B A n bs) := kp (HR1.out.turned (grown_set (grown_set (grown_refl _ _))) (by omega) hBg)
      have hz5 : ((w1.setCell ⟨g, 2, none⟩ (.int .i64 0)).setCell ⟨g, 1, none⟩ (.int .i64 ((at_ + k : Nat) : Int))).heap.size = w.heap.size := by simp [hz1]
      generalize (w1.setCell ⟨g, 2, none⟩ (.int .i64 0)).setCell ⟨g, 1, none⟩ (.int .i64 ((at_ + k : Nat) : Int)) = w5 at *
      clear hd0 hd1 hd2 he1 he2
      apply region_tail 10 (.is _ :: .is _ :: .is _ :: .is _ :: .is _ :: .is _ :: .is _ :: .is _ :: .is _ :: .bytes q :: [])
        [[], [(0, 34)], [(1, 35)], [(2, 36)], [], [], [(5, 39)], [(6, 40)], [(7, 41)], [(3, 37), (4, 38), (8, 42)], [(9, 43)], [(10, 44)]]
        [(0, 34), (1, 35), (2, 36), (3, 37), (4, 38), (5, 39), (6, 40), (7, 41), (8, 42), (9, 43)] (by kernel_rfl) (by kernel_rfl) (by kernel_rfl) (by kernel_rfl) (by kernel_rfl)
      case hob =>
        refine ⟨?o0, ?o1, ?o2, ?o3, ?o4, ?o5, ?o6, ?o7, ?o8, ?o9, trivial⟩
        case o0 => intro W hW; change wpList _ _ _ _ _ _; go_wp2; exact pure_post rfl rfl rfl
        case o1 => intro W hW; rintro _ rfl; change wpList _ _ _ _ _ _; go_wp2; exact pure_post rfl rfl rfl
        case o2 => intro W hW; rintro _ rfl; change wpList _ _ _ _ _ _; go_wp2; exact pure_post rfl rfl rfl
        case o3 =>
          intro W hW; rintro _ rfl; change wpList _ _ _ _ _ _
          have hd : W.cell? ⟨g, 0, none⟩ = some (.slice A n c) := (Blk.below HK5.out hW HK5.out.lt).cell 0
          go_wp2; exact pure_post rfl rfl rfl
        case o4 => intro W hW; change wpList _ _ _ _ _ _; go_wp2; exact pure_post rfl rfl rfl
        case o5 => intro W hW; change wpList _ _ _ _ _ _; go_wp2; exact pure_post rfl rfl rfl
        case o6 => intro W hW; rintro _ rfl; change wpList _ _ _ _ _ _; go_wp2; exact pure_post rfl rfl rfl
        case o7 => intro W hW; rintro _ rfl; change wpList _ _ _ _ _ _; go_wp2; exact pure_post rfl rfl rfl
        case o8 =>
          intro W hW; rintro _ rfl; change wpList _ _ _ _ _ _
          have hd : W.cell? ⟨g, 1, none⟩ = some (.int .i64 ((at_ + k : Nat) : Int)) := (Blk.below HK5.out hW HK5.out.lt).cell 1
          go_wp2; exact pure_post rfl rfl rfl
        case o9 =>
          intro W hW; rintro _ rfl; rintro _ rfl; rintro _ rfl; change wpList _ _ _ _ _ _
          have HRW := kp (HR5.out.below (hW.mono (by omega)))
          have hzW := hW.size
          refine wpList_slice_both rfl 22 (.tmp 37) (.tmp 38) (.tmp 42) rfl 5 Try.underlying22 size1b A n c rfl .i64 .i64 at_ (at_ + k) rfl rfl (by omega) hak hnc ?_
          intro A2 hin hrow
          have hr2 := hrow byteV W B bs HRW.out
          rw [List.drop_take, show at_ + k - at_ = k by omega, HQ.out] at hr2
          rw [show at_ + k - at_ = k by omega]
          have HR2 := kp hr2
          clear hrow hr2 hin
          go_wp2
          refine made_post rfl rfl rfl (Below.refl _ _) ⟨A2, c - at_, ?_, ?_⟩
          · rw [HR2.out.len]
          · rw [HR2.out.len]; exact HR2.out.more (by omega)
      case hend =>
        intro W hW; rintro _ rfl; rintro _ rfl; rintro _ rfl; rintro _ rfl; rintro _ rfl; rintro _ rfl; rintro _ rfl; rintro _ rfl; rintro _ rfl; rintro _ ⟨A9, c9, rfl, hr9⟩
        simp only [given, put_lit, List.set, List.drop]
        have HKW : Kept (Pd W g A n c ⟨at_ + k, wh, 0⟩) := kp (Blk.below HK5.out hW HK5.out.lt)
        have HRW := kp (HR5.out.below (hW.mono (by omega)))
        have HGW := kp (grown_below HG5.out hW)
        have hzW := hW.size
        have HR9 := kp hr9
        clear hW hr9
        go_wp2_with (go_at_call 29; go_must (refine (clone_any _ A9 _ c9 _ W HR9.out hql (Nat.le_refl _)).mono ?_); rintro e2 w7 ⟨v7, rfl, hown7, hb7⟩; have HO7 := kp hown7; have HB7 := kp hb7; clear hown7 hb7)
        go_ret
        have h1 := HE.out
        cases h1
        exact ⟨_, rfl, HO7.out.less (by omega), Blk.below HKW.out HB7.out HKW.out.lt, grown_below HGW.out HB7.out, HRW.out.below (HB7.out.mono (by omega))⟩
    · have HE : Kept (([], ⟨at_, at_, e⟩) = (out, s')) := kp <| by
        rw [← HX.out]
        unfold R.raw R.fail
        rw [if_pos h]
        by_cases hmn : m < 0
        · rw [if_pos hmn] at he ⊢
          rw [← he]
          rw [if_pos h]
        · rw [if_neg hmn] at he ⊢
          by_cases hml : (n : Int) - (at_ : Int) < m
          · rw [if_pos hml] at he
            rw [if_pos (show (bs.length : Int) - (at_ : Int) < m by omega), if_pos h, ← he]
          · rw [if_neg hml] at he
            exact absurd he.symm he0
      have hez : ((e : Int) != 0) = true := by simp; omega
      clear h he he0
      go_enter Try.func14, Try.ntmps14
      go_wp2_with (first
        | (go_at_call 30; go_must (refine (HRef.out w HK.out).mono ?_); rintro r w1 ⟨rfl, j, hw1⟩
           have HK1 : Kept (Pd w1 g A n c ⟨at_, wh, why⟩) := kp (by rw [hw1]; exact HK.out)
           have HG1 : Kept (w.grownBy w1 (some g)) := kp (by rw [hw1]; exact grown_drews (grown_refl _ _) _)
           have HR1 : Kept (Row byteV w1 B A n bs) := kp (by rw [hw1]; exact HR.out.drewN _)
           have hz1 : w1.heap.size = w.heap.size := by rw [hw1]; rfl
           obtain ⟨hd0, hd1, hd2, he1, he2⟩ := HK1.out.cells
           clear hw1 hc0 hc1 hc2 hf1 hf2))
      go_ret
      have h1 := HE.out
      cases h1
      exact ⟨_, rfl, Own.nil _ _ _, HK1.out.set 2 _, grown_set HG1.out, HR1.out.turned (grown_set (grown_refl _ _)) (by omega) hBg⟩
  · have hz : ((why : Int) == 0) = false := by simp; omega
    have hz2 : ((why : Int) != 0) = true := by simp; omega
    have HE : Kept (([], ⟨at_, wh, why⟩) = (out, s')) := kp <| by rw [← HX.out]; unfold R.raw; rw [if_neg h]
    clear h
    go_enter Try.func14, Try.ntmps14
    go_wp2
    go_ret
    have h1 := HE.out
    cases h1
    exact ⟨_, rfl, Own.nil _ _ _, HK.out, grown_refl _ _, HR.out⟩
end Go.Proofs.Ytdnhfpphjpnklaa
