/- PcodeP1, PcodeP2, PcodeP3, SetRef2, SetP1, in one text. -/
import Derived.Test.YtiojobajcnifpaaDoorPk9
import Derived.Test.YtiojobajcnifpaaDoorPk7
import Derived.Test.YtiojobajcnifpaaDoorPk2
import Derived.Test.YtiojobajcnifpaaDoorPk6
import Derived.Test.YtiojobajcnifpaaDoorProgRef1
import Derived.Test.YtiojobajcnifpaaDoorRows
import Derived.Test.YtiojobajcnifpaaDoorPk4
import Derived.Test.YtiojobajcnifpaaDoorPk1
import Derived.Test.YtiojobajcnifpaaDoorPk3
import Derived.Deep.QuietTactic
import Derived.BigQuiet
import Derived.Deep.RegionWith
import Derived.Laws.BitsAllLaws
/- What is told of a node, as the program has it, walked: told, counts. -/
namespace Go.Proofs.YtiojobajcnifpaaDoor
open Go.RowKit

/-- Where a node's field lies. -/
def fldP (g o j : Nat) : Value := .pointer (some ⟨g, o + (j + 1), none⟩)
theorem fldP_at (g o j : Nat) : fldP g o j = .pointer (some ⟨g, o + (j + 1), none⟩) := rfl

set_option maxRecDepth 100000 in
set_option maxHeartbeats 800000 in
theorem pc_told (g o : Nat) (k : Int) (w : World) (hc : w.cell? ⟨g, o, none⟩ = some (.int .i64 k)) :
    Calls Tryd.prog 49 #[.pointer (some ⟨g, o, none⟩)] w fun e w' => ∃ v, e = .returned v ∧ Own w' w.heap.size 65 v ((C.tl k).map (fldP g o)) ∧ Below w.heap.size w w' := by
  have hcases : k = 0 ∨ k = 5 ∨ k = 8 ∨ k = 9 ∨ (k ≠ 0 ∧ k ≠ 5 ∧ k ≠ 8 ∧ k ≠ 9) := by omega
  rcases hcases with rfl | rfl | rfl | rfl | ⟨h0, h5, h8, h9⟩
  · go_enter Tryd.func49, Tryd.ntmps49
    go_wp2
    go_ret
    exact ⟨_, rfl, Own.new w w.heap.size 65 (fldP g o 1 :: []) (Nat.le_refl _) (by simp [maxLen]), (Below.refl _ _).alloc (Nat.le_refl _) _⟩
  · go_enter Tryd.func49, Tryd.ntmps49
    go_wp2
    apply region_tail 9 (.is _ :: .is _ :: .is _ :: .is _ :: .is _ :: .is _ :: .is _ :: .is _ :: .is _ :: [])
      [[], [(0, 15)], [(1, 16)], [], [(3, 18)], [(4, 19)], [], [(6, 21)], [(7, 22)], [(2, 17), (5, 20), (8, 23)], [(9, 24)]]
      [(0, 15), (1, 16), (2, 17), (3, 18), (4, 19), (5, 20), (6, 21), (7, 22), (8, 23)] (by kernel_rfl) (by kernel_rfl) (by kernel_rfl) (by kernel_rfl) (by kernel_rfl)
    case hob =>
      refine ⟨?o0, ?o1, ?o2, ?o3, ?o4, ?o5, ?o6, ?o7, ?o8, trivial⟩
      case o0 => intro W hW; change wpList _ _ _ _ _ _; go_wp2; exact pure_post rfl rfl rfl
      case o1 => intro W hW; rintro _ rfl; change wpList _ _ _ _ _ _; go_wp2; exact pure_post rfl rfl rfl
      case o2 => intro W hW; rintro _ rfl; change wpList _ _ _ _ _ _; go_wp2; exact pure_post rfl rfl rfl
      case o3 => intro W hW; change wpList _ _ _ _ _ _; go_wp2; exact pure_post rfl rfl rfl
      case o4 => intro W hW; rintro _ rfl; change wpList _ _ _ _ _ _; go_wp2; exact pure_post rfl rfl rfl
      case o5 => intro W hW; rintro _ rfl; change wpList _ _ _ _ _ _; go_wp2; exact pure_post rfl rfl rfl
      case o6 => intro W hW; change wpList _ _ _ _ _ _; go_wp2; exact pure_post rfl rfl rfl
      case o7 => intro W hW; rintro _ rfl; change wpList _ _ _ _ _ _; go_wp2; exact pure_post rfl rfl rfl
      case o8 => intro W hW; rintro _ rfl; change wpList _ _ _ _ _ _; go_wp2; exact pure_post rfl rfl rfl
    case hend =>
      intro W hW; rintro _ rfl; rintro _ rfl; rintro _ rfl; rintro _ rfl; rintro _ rfl; rintro _ rfl; rintro _ rfl; rintro _ rfl; rintro _ rfl
      simp only [given, put_lit, List.set, List.drop]
      go_wp2
      go_ret
      exact ⟨_, rfl, Own.new W w.heap.size 65 (fldP g o 0 :: fldP g o 1 :: fldP g o 2 :: []) hW.size (by simp [maxLen]), hW.alloc hW.size _⟩
  · go_enter Tryd.func49, Tryd.ntmps49
    go_wp2
    apply region_tail 6 (.is _ :: .is _ :: .is _ :: .is _ :: .is _ :: .is _ :: [])
      [[], [(0, 27)], [(1, 28)], [], [(3, 30)], [(4, 31)], [(2, 29), (5, 32)], [(6, 33)]]
      [(0, 27), (1, 28), (2, 29), (3, 30), (4, 31), (5, 32)] (by kernel_rfl) (by kernel_rfl) (by kernel_rfl) (by kernel_rfl) (by kernel_rfl)
    case hob =>
      refine ⟨?o0, ?o1, ?o2, ?o3, ?o4, ?o5, trivial⟩
      case o0 => intro W hW; change wpList _ _ _ _ _ _; go_wp2; exact pure_post rfl rfl rfl
      case o1 => intro W hW; rintro _ rfl; change wpList _ _ _ _ _ _; go_wp2; exact pure_post rfl rfl rfl
      case o2 => intro W hW; rintro _ rfl; change wpList _ _ _ _ _ _; go_wp2; exact pure_post rfl rfl rfl
      case o3 => intro W hW; change wpList _ _ _ _ _ _; go_wp2; exact pure_post rfl rfl rfl
      case o4 => intro W hW; rintro _ rfl; change wpList _ _ _ _ _ _; go_wp2; exact pure_post rfl rfl rfl
      case o5 => intro W hW; rintro _ rfl; change wpList _ _ _ _ _ _; go_wp2; exact pure_post rfl rfl rfl
    case hend =>
      intro W hW; rintro _ rfl; rintro _ rfl; rintro _ rfl; rintro _ rfl; rintro _ rfl; rintro _ rfl
      simp only [given, put_lit, List.set, List.drop]
      go_wp2
      go_ret
      exact ⟨_, rfl, Own.new W w.heap.size 65 (fldP g o 1 :: fldP g o 2 :: []) hW.size (by simp [maxLen]), hW.alloc hW.size _⟩
  · go_enter Tryd.func49, Tryd.ntmps49
    go_wp2
    go_ret
    exact ⟨_, rfl, Own.nil _ _ _, Below.refl _ _⟩
  · have hz0 : (k == 0) = false := by rw [beq_eq_false_iff_ne]; exact h0
    have hz5 : (k == 5) = false := by rw [beq_eq_false_iff_ne]; exact h5
    have hz8 : (k == 8) = false := by rw [beq_eq_false_iff_ne]; exact h8
    have hz9 : (k == 9) = false := by rw [beq_eq_false_iff_ne]; exact h9
    have HT : Kept (C.tl k = 0 :: 1 :: []) := kp (by unfold C.tl; rw [if_neg h0, if_neg h5, if_neg h8, if_neg h9])
    clear h0 h5 h8 h9
    go_enter Tryd.func49, Tryd.ntmps49
    go_wp2
    apply region_tail 6 (.is _ :: .is _ :: .is _ :: .is _ :: .is _ :: .is _ :: [])
      [[], [(0, 36)], [(1, 37)], [], [(3, 39)], [(4, 40)], [(2, 38), (5, 41)], [(6, 42)]]
      [(0, 36), (1, 37), (2, 38), (3, 39), (4, 40), (5, 41)] (by kernel_rfl) (by kernel_rfl) (by kernel_rfl) (by kernel_rfl) (by kernel_rfl)
    case hob =>
      refine ⟨?o0, ?o1, ?o2, ?o3, ?o4, ?o5, trivial⟩
      case o0 => intro W hW; change wpList _ _ _ _ _ _; go_wp2; exact pure_post rfl rfl rfl
      case o1 => intro W hW; rintro _ rfl; change wpList _ _ _ _ _ _; go_wp2; exact pure_post rfl rfl rfl
      case o2 => intro W hW; rintro _ rfl; change wpList _ _ _ _ _ _; go_wp2; exact pure_post rfl rfl rfl
      case o3 => intro W hW; change wpList _ _ _ _ _ _; go_wp2; exact pure_post rfl rfl rfl
      case o4 => intro W hW; rintro _ rfl; change wpList _ _ _ _ _ _; go_wp2; exact pure_post rfl rfl rfl
      case o5 => intro W hW; rintro _ rfl; change wpList _ _ _ _ _ _; go_wp2; exact pure_post rfl rfl rfl
    case hend =>
      intro W hW; rintro _ rfl; rintro _ rfl; rintro _ rfl; rintro _ rfl; rintro _ rfl; rintro _ rfl
      simp only [given, put_lit, List.set, List.drop]
      go_wp2
      go_ret
      rw [HT.out]
      exact ⟨_, rfl, Own.new W w.heap.size 65 (fldP g o 0 :: fldP g o 1 :: []) hW.size (by simp [maxLen]), hW.alloc hW.size _⟩
end Go.Proofs.YtiojobajcnifpaaDoor

/- What is told of a program ahead of its functions, as the program has it, walked: counts. -/
namespace Go.Proofs.YtiojobajcnifpaaDoor
open Go.RowKit

/-- The cells of a program's counts: where each lies, and the most that is read of it. -/
def cntC (g : Nat) : List Value := .pointer (some ⟨g, 0, none⟩) :: .int .i64 16 :: .pointer (some ⟨g, 1, none⟩) :: .int .i64 16 :: .pointer (some ⟨g, 2, none⟩) :: .int .i64 8 :: []

set_option maxRecDepth 100000 in
set_option maxHeartbeats 800000 in
theorem pc_counts (g : Nat) (w : World) :
    Calls Tryd.prog 33 #[.pointer (some ⟨g, 0, none⟩)] w fun e w' => ∃ g2, e = .returned (.slice (some ⟨g2, 0, none⟩) 3 3) ∧ Blk w' g2 80 (cntC g) ∧ w.heap.size ≤ g2 ∧ Below w.heap.size w w' := by
  go_enter Tryd.func33, Tryd.ntmps33
  go_wp2
  apply region_tail 12 (.is _ :: .is _ :: .is _ :: .is _ :: .is _ :: .is _ :: .is _ :: .is _ :: .is _ :: .is _ :: .is _ :: .is _ :: [])
    [[], [(0, 3)], [(1, 4)], [(2, 5)], [], [(4, 7)], [(5, 8)], [(6, 9)], [], [(8, 11)], [(9, 12)], [(10, 13)], [(3, 6), (7, 10), (11, 14)], [(12, 15)]]
    [(0, 3), (1, 4), (2, 5), (3, 6), (4, 7), (5, 8), (6, 9), (7, 10), (8, 11), (9, 12), (10, 13), (11, 14)] (by kernel_rfl) (by kernel_rfl) (by kernel_rfl) (by kernel_rfl) (by kernel_rfl)
  case hob =>
    refine ⟨?o0, ?o1, ?o2, ?o3, ?o4, ?o5, ?o6, ?o7, ?o8, ?o9, ?o10, ?o11, trivial⟩
    case o0 => intro W hW; change wpList _ _ _ _ _ _; go_wp2; exact pure_post rfl rfl rfl
    case o1 => intro W hW; rintro _ rfl; change wpList _ _ _ _ _ _; go_wp2; exact pure_post rfl rfl rfl
    case o2 => intro W hW; rintro _ rfl; change wpList _ _ _ _ _ _; go_wp2; exact pure_post rfl rfl rfl
    case o3 => intro W hW; rintro _ rfl; change wpList _ _ _ _ _ _; go_wp2; exact pure_post rfl rfl rfl
    case o4 => intro W hW; change wpList _ _ _ _ _ _; go_wp2; exact pure_post rfl rfl rfl
    case o5 => intro W hW; rintro _ rfl; change wpList _ _ _ _ _ _; go_wp2; exact pure_post rfl rfl rfl
    case o6 => intro W hW; rintro _ rfl; change wpList _ _ _ _ _ _; go_wp2; exact pure_post rfl rfl rfl
    case o7 => intro W hW; rintro _ rfl; change wpList _ _ _ _ _ _; go_wp2; exact pure_post rfl rfl rfl
    case o8 => intro W hW; change wpList _ _ _ _ _ _; go_wp2; exact pure_post rfl rfl rfl
    case o9 => intro W hW; rintro _ rfl; change wpList _ _ _ _ _ _; go_wp2; exact pure_post rfl rfl rfl
    case o10 => intro W hW; rintro _ rfl; change wpList _ _ _ _ _ _; go_wp2; exact pure_post rfl rfl rfl
    case o11 => intro W hW; rintro _ rfl; change wpList _ _ _ _ _ _; go_wp2; exact pure_post rfl rfl rfl
  case hend =>
    intro W hW; rintro _ rfl; rintro _ rfl; rintro _ rfl; rintro _ rfl; rintro _ rfl; rintro _ rfl; rintro _ rfl; rintro _ rfl; rintro _ rfl; rintro _ rfl; rintro _ rfl; rintro _ rfl
    simp only [given, put_lit, List.set, List.drop]
    go_wp2
    go_ret
    exact ⟨_, rfl, Blk.newA W _ _ _ rfl, hW.size, hW.alloc hW.size _⟩

/-- Count i of a program's: where it lies, and the most that is read of it. -/
def cntM (i : Nat) : Int := if i = 2 then 8 else 16
def cntV (g i : Nat) : Nat → Value
  | 0 => .pointer (some ⟨g, i, none⟩)
  | _ => .int .i64 (cntM i)
theorem pc_counts2 (g : Nat) (w : World) :
    Calls Tryd.prog 33 #[.pointer (some ⟨g, 0, none⟩)] w fun e w' => ∃ A, e = .returned (.slice A 3 3) ∧ Recs 2 (cntV g) w' w'.heap.size A 3 [0, 1, 2] ∧ (∀ ad, A = some ad → w.heap.size ≤ ad.block ∧ ad.block < w'.heap.size) ∧ Below w.heap.size w w' :=
  (pc_counts g w).mono fun e w' ⟨g2, h1, h2, h3, h4⟩ => ⟨_, h1, ⟨rfl, fun _ => ⟨_, rfl, h2.lt, fun k x hx j hj => by
    have hk : k < 3 := (List.getElem?_eq_some_iff.1 hx).1
    rw [add_start, h2.cell]
    have h3 : k = 0 ∨ k = 1 ∨ k = 2 := by omega
    have h4 : j = 0 ∨ j = 1 := by omega
    rcases h3 with rfl | rfl | rfl <;> rcases h4 with rfl | rfl <;> (simp at hx; subst hx; rfl)⟩⟩, fun ad e => by cases e; exact ⟨h3, h2.lt⟩, h4⟩
theorem Recs.heldAt {α : Type} {sz : Nat} {f : α → Nat → Value} {w w' : World} {B n : Nat} {A : Option Addr} {l : List α} {S : Nat → Prop} (h : Recs sz f w B A n l) (hb : Held S w w') (hS : ∀ ad, A = some ad → S ad.block) : Recs sz f w' B A n l :=
  ⟨h.len, fun hn => by
    obtain ⟨ad, e, h1, h2⟩ := h.cells hn
    exact ⟨ad, e, h1, fun k x hx j hj => (hb.cell _ (by rw [add_block]; exact hS ad e)).trans (h2 k x hx j hj)⟩⟩
end Go.Proofs.YtiojobajcnifpaaDoor

/- A node's bytes, as the program writes them, walked: writeNode. -/
namespace Go.Proofs.YtiojobajcnifpaaDoor
open Go.RowKit

theorem Own.readsB {α : Type} {f : α → Value} {w : World} {B : Nat} {e : TypeId} {v : Value} {l : List α} {n : Nat} (h : Own w B e v (l.map f)) (hn : l.length = n) :
    ∃ A cap, v = .slice A n cap ∧ n ≤ cap ∧ cap ≤ maxLen ∧ Row f w w.heap.size A n l ∧ ∀ ad, A = some ad → B ≤ ad.block ∧ ad.block < w.heap.size := by
  have hb := h.block
  obtain ⟨A, cap, rfl, h1, h2, h3⟩ := h.readsN hn
  exact ⟨A, cap, rfl, h1, h2, h3, fun ad e => by subst e; exact hb ad.block rfl⟩
theorem ndA_is (x : Nd) : ndA x = .agg (ndC x).toArray := rfl
theorem nd_fld {w : World} {g : Nat} {t : TypeId} {x : Nd} (h : Blk w g t (ndC x)) {j : Nat} (hj : j ≤ 2) : w.cell? ⟨g, 0 + (j + 1), none⟩ = some (.int .i64 (C.fld x j)) := by
  obtain ⟨_, h1, h2, h3⟩ := nd_cells h
  have : j = 0 ∨ j = 1 ∨ j = 2 := by omega
  rcases this with rfl | rfl | rfl
  · exact h1
  · exact h2
  · exact h3

set_option maxRecDepth 100000 in
set_option maxHeartbeats 800000 in
theorem pc_writeNode (K : Nat → Prop) (g : Nat) (bs : List Nat) (x : Nd) (w : World) (hk : Wr w K g bs) (hn : bs.length ≤ 800000) :
    Calls Tryd.prog 35 #[.pointer (some ⟨g, 0, none⟩), ndA x] w fun e w' => e = .returned (.tuple #[]) ∧ Wr w' K g (bs ++ C.ndB x) ∧ Held K w w' := by
  obtain ⟨js, hjs⟩ : ∃ js, C.tl x.kind = js := ⟨_, rfl⟩
  obtain ⟨n, hjn⟩ : ∃ n, js.length = n := ⟨_, rfl⟩
  have hn3 : n ≤ 3 := by rw [← hjn, ← hjs]; exact C.tl_len _
  have HLe : Kept (∀ j ∈ js, j ≤ 2) := kp (by rw [← hjs]; exact C.tl_le _)
  have HB : Kept (C.ndB x = V.put (low32 x.kind) ++ C.nums (js.map (C.fld x))) := kp (by unfold C.ndB C.told; rw [hjs])
  have HP : Kept ((V.put (low32 x.kind)).length ≤ 5) := kp (by rw [V.len_put _ (low32_lt _)]; exact V.size_le _)
  have HJ := kp hjs; have HN := kp hjn; have HK := kp hk
  clear hjs hjn hk
  obtain ⟨q, hq⟩ : ∃ q, V.put (low32 x.kind) = q := ⟨_, rfl⟩
  have HQ := kp hq
  rw [hq] at HB HP
  clear hq
  rw [ndA_is]
  obtain ⟨xc, hxc⟩ : ∃ xc, ndC x = xc := ⟨_, rfl⟩
  have HXc := kp hxc
  rw [hxc]
  clear hxc
  go_enter Tryd.func35, Tryd.ntmps35
  go_wp2_with (first
    | ((with_reducible refine wpList_box_agg rfl 49 (.tmp 1) rfl xc rfl ?_); intro g1 w1 hg1 hk1 hw1
       have HK1 := kp hk1; have HW1 := kp hw1; have hs1 := hw1.size; have hl1 := hk1.lt
       obtain ⟨hc0, _, _, _⟩ := nd_cells (by rw [HXc.out]; exact hk1 : Blk w1 g1 49 (ndC x))
       have HWr1 : Kept (Wr w1 (fun k => K k ∨ (w.heap.size ≤ k ∧ k < w1.heap.size)) g bs) := kp (HK.out.below hw1 fun k h => h)
       clear hk1 hw1)
    | (go_at_call 34; go_must (refine (wr_num _ g bs x.kind _ HWr1.out (by omega)).mono ?_); rintro e w2 ⟨rfl, hk2, hb2⟩
       rw [HQ.out] at hk2
       have HWr2 := kp hk2; have HH2 := kp hb2
       have HK2 := kp (HK1.out.held hb2 (.inr ⟨hg1, hl1⟩))
       obtain ⟨hd0, _, _, _⟩ := nd_cells (by rw [HXc.out]; exact HK2.out : Blk w2 g1 49 (ndC x))
       have hs2 := hb2.size
       clear hk2 hb2 hc0)
    | (go_at_call 49; go_must (refine (pc_told g1 0 x.kind w2 hd0).mono ?_); rintro e w3 ⟨v, rfl, hown, hb3⟩
       rw [HJ.out] at hown
       obtain ⟨A3, c3, rfl, hc3, hm3, hr3, ha3⟩ := hown.readsB HN.out
       have HR3 := kp hr3; have HA3 := kp ha3
       have hm33 : c3 ≤ 9223372036854775807 := by unfold maxLen at hm3; omega
       have HK3 := kp (HK2.out.below hb3 HK2.out.lt)
       have HWr3 : Kept (Wr w3 (fun k => K k ∨ (w.heap.size ≤ k ∧ k < w3.heap.size ∧ (k < w1.heap.size ∨ w2.heap.size ≤ k))) g (bs ++ q)) := kp (HWr2.out.below hb3 fun k h => by
         rcases h with h | ⟨h1, h2, h3 | h3⟩
         · exact .inl (.inl h)
         · exact .inl (.inr ⟨h1, h3⟩)
         · exact .inr ⟨h3, h2⟩)
       have HH3 : Kept (Held K w w3) := kp (((Held.of_below HW1.out fun k h => by obtain ⟨_, _, _, _, _, _, h6⟩ := HK.out; exact h6 k h).trans (HH2.out.less fun k h => .inl h)).trans (Held.of_below hb3 fun k h => by obtain ⟨_, _, _, _, _, _, h6⟩ := HWr2.out; exact h6 k (.inl h)))
       have hs3 := hb3.size
       clear hown hb3 hr3 hm3 ha3 hd0))
  go_loopw [12] (fun v12 wr => ∃ i : Nat, i ≤ n ∧ v12 = .int .i64 i ∧ Wr wr (fun k => K k ∨ (w.heap.size ≤ k ∧ k < w3.heap.size ∧ (k < w1.heap.size ∨ w2.heap.size ≤ k))) g (bs ++ (q ++ C.nums ((js.take i).map (C.fld x)))) ∧ Held K w wr ∧ Row (fldP g1 0) wr w3.heap.size A3 n js ∧ Blk wr g1 49 xc) (fun v12 _ => n - (intOf v12).toNat)
  case atStart => exact ⟨0, by omega, rfl, by simpa [C.nums] using HWr3.out, HH3.out, HR3.out, HK3.out⟩
  case round =>
    clear HWr3 HH3 HR3 HK3
    obtain ⟨i, hi, rfl, hkr, hbl, hrow, hblk⟩ := hrel
    have HKr := kp hkr; have HBL := kp hbl; have HRow := kp hrow; have HBlk := kp hblk
    have hlen : (C.nums ((js.take i).map (C.fld x))).length ≤ 15 := by
      have h1 : ∀ l : List Int, (C.nums l).length ≤ 5 * l.length := fun l => by
        induction l with
        | nil => simp [C.nums]
        | cons n l ih => rw [C.nums_cons, List.length_append, List.length_cons, V.len_put _ (low32_lt n)]; have := V.size_le (low32 n); omega
      have h2 := h1 ((js.take i).map (C.fld x))
      rw [List.length_map, List.length_take] at h2
      omega
    clear hkr hbl hrow hblk
    by_cases hlt : i < n
    · obtain ⟨ad, j, rfl, hab, hx, hc⟩ := HRow.out.get hlt
      have hj2 := HLe.out j (List.mem_of_getElem? hx)
      have hcf := nd_fld (by rw [HXc.out]; exact HBlk.out : Blk wr g1 49 (ndC x)) hj2
      rw [fldP_at] at hc
      obtain ⟨af, haf⟩ : ∃ af : Addr, (⟨g1, 0 + (j + 1), none⟩ : Addr) = af := ⟨_, rfl⟩
      rw [haf] at hc hcf
      have HNx : Kept (q ++ C.nums ((js.take (i + 1)).map (C.fld x)) = (q ++ C.nums ((js.take i).map (C.fld x))) ++ V.put (low32 (C.fld x j))) := kp <| by
        rw [List.take_add_one, hx, Option.toList_some, List.map_append, List.map_singleton, C.nums_snoc, List.append_assoc]
      have hql : (q ++ C.nums ((js.take i).map (C.fld x))).length ≤ 20 := by rw [List.length_append]; have := HP.out; omega
      generalize q ++ C.nums ((js.take i).map (C.fld x)) = r at *
      generalize C.fld x j = fv at *
      clear hx haf
      go_wp2_with (go_at_call 34; go_must (refine (wr_num _ g (bs ++ r) fv _ HKr.out (by rw [List.length_append]; omega)).mono ?_); rintro e w4 ⟨rfl, hk4, hb4⟩; have HK4 := kp hk4; have HB4 := kp hb4; clear hk4 hb4)
      go_roundw
      case rel => exact ⟨i + 1, by omega, by go_num, by rw [HNx.out, ← List.append_assoc]; exact HK4.out, HBL.out.trans (HB4.out.less fun k h => .inl h), HRow.out.heldAt HB4.out fun a _ e => .inr ⟨by have := (HA3.out a e).1; omega, (HA3.out a e).2, .inr (HA3.out a e).1⟩, HBlk.out.held HB4.out (.inr ⟨hg1, by omega, .inl hl1⟩)⟩
      case measure => simp [intOf]; omega
    · have hni : n = i := by omega
      subst hni
      have HE : Kept (q ++ C.nums ((js.take n).map (C.fld x)) = C.ndB x) := kp <| by rw [HB.out, List.take_of_length_le (by rw [HN.out]; exact Nat.le_refl _)]
      clear hlt
      go_wp2
      go_end0
      exact ⟨rfl, by rw [← HE.out]; exact HKr.out.less fun k h => .inl h, HBL.out⟩
end Go.Proofs.YtiojobajcnifpaaDoor

/- The document's own making of sets, walked: Mask, Of. -/
namespace Go.Proofs.YtiojobajcnifpaaDoor
open Go.RowKit

theorem pow_le31 (k : Nat) (h : k ≤ 31) : 2 ^ k ≤ 2147483648 := Nat.pow_le_pow_right (by decide) h

theorem bad_one (l : List Int) (size x : Int) (i : Nat) (h : l[i]? = some x) (hx : x < 0 ∨ size ≤ x ∨ 31 < x) : S.bad l size i = 1 := by
  unfold S.bad
  simp only [List.getD_eq_getElem?_getD, h, Option.getD_some]
  rw [if_pos hx]
theorem bad_five (l : List Int) (size x y : Int) (i : Nat) (h : l[i]? = some x) (hx : ¬ (x < 0 ∨ size ≤ x ∨ 31 < x)) (h0 : 0 < i) (hy : l[i - 1]? = some y) (hxy : x ≤ y) : S.bad l size i = 5 := by
  unfold S.bad
  simp only [List.getD_eq_getElem?_getD, h, hy, Option.getD_some]
  rw [if_neg hx, if_pos ⟨h0, hxy⟩]
theorem bad_none (l : List Int) (size x : Int) (i : Nat) (h : l[i]? = some x) (hx : ¬ (x < 0 ∨ size ≤ x ∨ 31 < x)) (hy : ¬ (0 < i ∧ x ≤ l.getD (i - 1) 0)) : S.bad l size i = 0 := by
  unfold S.bad
  simp only [List.getD_eq_getElem?_getD, h, Option.getD_some] at *
  rw [if_neg hx, if_neg hy]
theorem bad_zero (l : List Int) (size x : Int) (i : Nat) (h : l[i]? = some x) (hb : S.bad l size i = 0) : 0 ≤ x ∧ x < size ∧ x ≤ 31 := by
  unfold S.bad at hb
  simp only [List.getD_eq_getElem?_getD, h, Option.getD_some] at hb
  split at hb
  · cases hb
  · omega
theorem first_at (l : List Int) (size : Int) (n i : Nat) (h0 : S.first l size i = 0) (hi : i < n) (hb : S.bad l size i ≠ 0) : S.first l size n = S.bad l size i := by
  have h1 : S.first l size (i + 1) = S.bad l size i := by simp only [S.first]; rw [if_pos h0]
  have := S.first_stays l size (i + 1) (by rw [h1]; exact hb) (n - (i + 1))
  rw [show i + 1 + (n - (i + 1)) = n by omega] at this
  rw [this, h1]
/-- What Of answers. -/
def ofMask (l : List Int) (size : Int) : Nat := if S.first l size l.length = 0 then S.mask (l.map Int.toNat) % 4294967296 else 0
end Go.Proofs.YtiojobajcnifpaaDoor

/- The program's functions on sets, walked: One, All, Has, Within, rest. -/
namespace Go.Proofs.YtiojobajcnifpaaDoor
open Go.RowKit

theorem pow_cast (n : Nat) : (2 : Int) ^ n = ((2 ^ n : Nat) : Int) := (Int.natCast_pow 2 n).symm
theorem ne_cast (x : Nat) : (((x : Nat) : Int) != 0) = decide (x ≠ 0) := by rw [Bool.eq_iff_iff]; simp
theorem eq_cast (x : Nat) : (((x : Nat) : Int) == 0) = decide (x = 0) := by rw [Bool.eq_iff_iff]; simp
end Go.Proofs.YtiojobajcnifpaaDoor
