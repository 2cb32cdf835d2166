/- HeapMath, HeapP1, HeapP2, HeapP3, HeapP4, in one text. -/
import Derived.Test.YtfifnahcobjjdaaKit
import Derived.Test.YtfifnahcobjjdaaPk14
import Derived.Test.YtfifnahcobjjdaaPk15
import Derived.Test.YtfifnahcobjjdaaPk16
import Derived.BigQuiet
import Derived.Deep.QuietTactic
/- Numbers in a heap (no greater one above a less one), on plain lists. -/
namespace Go.Proofs.Ytfifnahcobjjdaa

namespace H
def at_ (l : List Int) (i : Nat) : Int := l.getD i 0
def swap (l : List Int) (i j : Nat) : List Int := (l.set i (at_ l j)).set j (at_ l i)
theorem swap_len (l : List Int) (i j : Nat) : (swap l i j).length = l.length := by simp [swap]
theorem at_some {l : List Int} {i : Nat} (h : i < l.length) : l[i]? = some (at_ l i) := by
  unfold at_
  rw [List.getD_eq_getElem?_getD, List.getElem?_eq_getElem h]; rfl
theorem at_of {l : List Int} {i : Nat} {x : Int} (h : l[i]? = some x) : at_ l i = x := by
  unfold at_
  rw [List.getD_eq_getElem?_getD, h]; rfl
theorem at_swap {l : List Int} {i j : Nat} (hi : i < l.length) (hj : j < l.length) (k : Nat) : at_ (swap l i j) k = if k = j then at_ l i else if k = i then at_ l j else at_ l k := by
  unfold swap
  by_cases hk : k < l.length
  · have h1 : k < ((l.set i (at_ l j)).set j (at_ l i)).length := by simpa using hk
    have h2 := at_some h1
    rw [List.getElem?_set, List.getElem?_set] at h2
    by_cases hkj : k = j
    · subst hkj
      rw [if_pos rfl, if_pos (by simpa using hk)] at h2
      rw [if_pos rfl]
      exact (Option.some.inj h2).symm
    · rw [if_neg (fun e => hkj e.symm)] at h2
      rw [if_neg hkj]
      by_cases hki : k = i
      · subst hki
        rw [if_pos rfl, if_pos hk] at h2
        rw [if_pos rfl]
        exact (Option.some.inj h2).symm
      · rw [if_neg (fun e => hki e.symm)] at h2
        rw [if_neg hki]
        exact (at_of h2)▸ rfl
  · rw [if_neg (by omega), if_neg (by omega)]
    have none_ : ∀ q : List Int, q.length ≤ k → at_ q k = 0 := fun q hq => by
      unfold at_
      rw [List.getD_eq_getElem?_getD, List.getElem?_eq_none hq]; rfl
    rw [none_ _ (by simp; omega), none_ _ (by omega)]
theorem swap_perm {l : List Int} {i j : Nat} (hi : i < l.length) (hj : j < l.length) : (swap l i j).Perm l := by
  have h1 : at_ l i = l[i] := by unfold at_; rw [List.getD_eq_getElem?_getD, List.getElem?_eq_getElem hi]; rfl
  have h2 : at_ l j = l[j] := by unfold at_; rw [List.getD_eq_getElem?_getD, List.getElem?_eq_getElem hj]; rfl
  unfold swap
  rw [h1, h2]
  exact List.set_set_perm hi hj
theorem swap_drop {l : List Int} {i j n : Nat} (hi : i < n) (hj : j < n) : (swap l i j).drop n = l.drop n := by
  unfold swap
  rw [List.drop_set_of_lt hj, List.drop_set_of_lt hi]

/-- The first n are a heap. -/
def Heap (l : List Int) (n : Nat) : Prop := ∀ k, 0 < k → k < n → at_ l ((k - 1) / 2) ≤ at_ l k
/-- But for the j-th, which may be less than the one above it. -/
def Up (l : List Int) (n j : Nat) : Prop := (∀ k, 0 < k → k < n → k ≠ j → at_ l ((k - 1) / 2) ≤ at_ l k) ∧ ∀ k, 0 < k → k < n → (k - 1) / 2 = j → 0 < j → at_ l ((j - 1) / 2) ≤ at_ l k
/-- But for the i-th, which may be greater than those below it. -/
def Down (l : List Int) (n i : Nat) : Prop := (∀ k, 0 < k → k < n → (k - 1) / 2 ≠ i → at_ l ((k - 1) / 2) ≤ at_ l k) ∧ ∀ k, 0 < k → k < n → (k - 1) / 2 = i → 0 < i → at_ l ((i - 1) / 2) ≤ at_ l k
theorem heap_nil (l : List Int) : Heap l 0 := fun k _ h => by omega
theorem up_zero {l : List Int} {n : Nat} (h : Up l n 0) : Heap l n := fun k h0 hk => h.1 k h0 hk (by omega)
theorem up_done {l : List Int} {n j : Nat} (h : Up l n j) (hle : at_ l ((j - 1) / 2) ≤ at_ l j) : Heap l n := fun k h0 hk => by
  by_cases hkj : k = j
  · subst hkj; exact hle
  · exact h.1 k h0 hk hkj
theorem up_step {l : List Int} {n i j : Nat} (h : Up l n j) (h0 : 0 < j) (hj : j < n) (hn : n ≤ l.length) (hi : i = (j - 1) / 2) (hlt : at_ l j < at_ l i) : Up (swap l i j) n i := by
  have hij : i < j := by omega
  have sw := at_swap (l := l) (i := i) (j := j) (by omega) (by omega)
  subst hi
  refine ⟨fun k hk0 hk hki => ?_, fun k hk0 hk hp hi0 => ?_⟩
  · rw [sw k, sw ((k - 1) / 2)]
    by_cases hkj : k = j
    · subst hkj
      rw [if_neg (by omega), if_pos rfl, if_pos rfl]
      omega
    · rw [if_neg hkj, if_neg hki]
      have h1 := h.1 k hk0 hk hkj
      by_cases hpj : (k - 1) / 2 = j
      · rw [if_pos hpj]
        exact h.2 k hk0 hk hpj h0
      · rw [if_neg hpj]
        by_cases hpi : (k - 1) / 2 = (j - 1) / 2
        · rw [if_pos hpi]
          rw [hpi] at h1
          omega
        · rw [if_neg hpi]; exact h1
  · rw [sw k, sw (((j - 1) / 2 - 1) / 2), if_neg (by omega), if_neg (by omega)]
    have h1 := h.1 ((j - 1) / 2) hi0 (by omega) (by omega)
    by_cases hkj : k = j
    · rw [if_pos hkj]; exact h1
    · rw [if_neg hkj, if_neg (by omega)]
      have h2 := h.1 k hk0 hk hkj
      rw [hp] at h2
      omega
theorem down_none {l : List Int} {n i : Nat} (h : Down l n i) (hn : n ≤ 2 * i + 1) : Heap l n := fun k h0 hk => h.1 k h0 hk (by omega)
/-- The least of those below. -/
def Child (l : List Int) (n i j : Nat) : Prop := j < n ∧ 0 < j ∧ (j - 1) / 2 = i ∧ ∀ k, 0 < k → k < n → (k - 1) / 2 = i → at_ l j ≤ at_ l k
theorem child_left {l : List Int} {n i : Nat} (h1 : 2 * i + 1 < n) (h2 : n ≤ 2 * i + 2 ∨ at_ l (2 * i + 1) ≤ at_ l (2 * i + 2)) : Child l n i (2 * i + 1) := by
  refine ⟨h1, by omega, by omega, fun k h0 hk hp => ?_⟩
  by_cases hk1 : k = 2 * i + 1
  · subst hk1; omega
  · have : k = 2 * i + 2 := by omega
    subst this
    omega
theorem child_right {l : List Int} {n i : Nat} (h1 : 2 * i + 2 < n) (h2 : at_ l (2 * i + 2) < at_ l (2 * i + 1)) : Child l n i (2 * i + 2) := by
  refine ⟨h1, by omega, by omega, fun k h0 hk hp => ?_⟩
  by_cases hk1 : k = 2 * i + 1
  · subst hk1; omega
  · have : k = 2 * i + 2 := by omega
    subst this
    omega
theorem down_done {l : List Int} {n i j : Nat} (h : Down l n i) (hc : Child l n i j) (hle : at_ l i ≤ at_ l j) : Heap l n := fun k h0 hk => by
  by_cases hp : (k - 1) / 2 = i
  · have := hc.2.2.2 k h0 hk hp
    rw [hp]; omega
  · exact h.1 k h0 hk hp
theorem down_step {l : List Int} {n i j : Nat} (h : Down l n i) (hc : Child l n i j) (hn : n ≤ l.length) (hlt : at_ l j < at_ l i) : Down (swap l i j) n j := by
  obtain ⟨hjn, hj0, hji, hmin⟩ := hc
  have hij : i < j := by omega
  have sw := at_swap (l := l) (i := i) (j := j) (by omega) (by omega)
  refine ⟨fun k hk0 hk hkp => ?_, fun k hk0 hk hp _ => ?_⟩
  · rw [sw k, sw ((k - 1) / 2), if_neg hkp]
    by_cases hkj : k = j
    · subst hkj
      rw [if_pos hji, if_pos rfl]
      omega
    · rw [if_neg hkj]
      by_cases hki : k = i
      · subst hki
        rw [if_neg (by omega), if_pos rfl]
        exact h.2 j hj0 hjn hji hk0
      · rw [if_neg hki]
        by_cases hpi : (k - 1) / 2 = i
        · rw [if_pos hpi]
          exact hmin k hk0 hk hpi
        · rw [if_neg hpi]
          exact h.1 k hk0 hk hpi
  · rw [hji, sw k, sw i, if_neg (by omega), if_pos rfl, if_neg (by omega), if_neg (by omega)]
    have h1 := h.1 k hk0 hk (by omega)
    rw [hp] at h1
    exact h1
theorem heap_min {l : List Int} {n : Nat} (h : Heap l n) : ∀ m k, k < m → k < n → at_ l 0 ≤ at_ l k := by
  intro m
  induction m with
  | zero => intro k hk; omega
  | succ m ih =>
    intro k hkm hk
    by_cases h0 : k = 0
    · subst h0; omega
    · have h1 := h k (by omega) hk
      have h2 := ih ((k - 1) / 2) (by omega) (by omega)
      omega
theorem at_snoc {l : List Int} {x : Int} {k : Nat} (h : k < l.length) : at_ (l ++ [x]) k = at_ l k := by
  unfold at_
  rw [List.getD_eq_getElem?_getD, List.getD_eq_getElem?_getD, List.getElem?_append_left h]
theorem push_up {l : List Int} {n : Nat} (h : Heap l n) (hn : l.length = n) (x : Int) : Up (l ++ [x]) (n + 1) n := by
  refine ⟨fun k h0 hk hkn => ?_, fun k h0 hk hp hn0 => by omega⟩
  rw [at_snoc (by omega), at_snoc (by omega)]
  exact h k h0 (by omega)
theorem pop_down {l : List Int} {n : Nat} (h : Heap l (n + 1)) (hn : l.length = n + 1) : Down (swap l 0 n) n 0 := by
  refine ⟨fun k h0 hk hkn => ?_, fun k h0 hk hp hn0 => by omega⟩
  have sw := at_swap (l := l) (i := 0) (j := n) (by omega) (by omega)
  rw [sw k, sw ((k - 1) / 2), if_neg (by omega), if_neg (by omega), if_neg (by omega), if_neg (by omega)]
  exact h k h0 (by omega)
theorem heap_take {l : List Int} {n m : Nat} (h : Heap l n) (hn : n ≤ m) : Heap (l.take m) n := fun k h0 hk => by
  have e : ∀ j, j < n → at_ (l.take m) j = at_ l j := fun j hj => by
    unfold at_
    rw [List.getD_eq_getElem?_getD, List.getD_eq_getElem?_getD, List.getElem?_take, if_pos (by omega)]
  rw [e _ (by omega), e _ hk]
  exact h k h0 hk
end H
end Go.Proofs.Ytfifnahcobjjdaa

/- The program's heap of numbers, walked: its methods. -/
namespace Go.Proofs.Ytfifnahcobjjdaa
open Go.RowKit

/-- The heap in block g holds these numbers; no block of K is its. -/
def Hp (w : World) (K : Nat → Prop) (g : Nat) (l : List Int) : Prop := Var w K g 53 3 (l.map intV)

set_option maxRecDepth 100000 in
set_option maxHeartbeats 800000 in
theorem least_len (K : Nat → Prop) (g n : Nat) (l : List Int) (w : World) (hk : Hp w K g l) (hn : l.length = n) :
    Calls Try.prog 19 #[.pointer (some ⟨g, 0, none⟩)] w fun e w' => e = .returned (.int .i64 (n : Int)) ∧ w = w' := by
  obtain ⟨A, c, hc, _, hnc, hcm, _⟩ := Var.opens hk hn
  unfold maxLen at hcm
  clear hk hn
  go_enter Try.func19, Try.ntmps19
  go_wp2
  go_ret
  exact ⟨rfl, rfl⟩

set_option maxRecDepth 100000 in
set_option maxHeartbeats 800000 in
theorem least_less (K : Nat → Prop) (g n i j : Nat) (l : List Int) (w : World) (hk : Hp w K g l) (hn : l.length = n) (hi : i < n) (hj : j < n) (b : Bool) (hb : decide (H.at_ l i < H.at_ l j) = b) :
    Calls Try.prog 61 #[.pointer (some ⟨g, 0, none⟩), .int .i64 (i : Int), .int .i64 (j : Int)] w fun e w' => e = .returned (.bool b) ∧ ∃ m, w' = w.drewN m := by
  obtain ⟨A, c, hc, _, hnc, hcm, hr, _, hblk⟩ := Var.opens hk hn
  obtain ⟨r, cur, rfl, _⟩ := hblk (by omega)
  unfold maxLen at hcm
  have h1 : w.cell? ((⟨r, 0, none⟩ : Addr).add i) = some (.int .i64 (H.at_ l i)) := by
    obtain ⟨ad, x, e, _, hx, hcx⟩ := hr.get hi
    cases e
    rw [hcx, H.at_of hx]; rfl
  have h2 : w.cell? ((⟨r, 0, none⟩ : Addr).add j) = some (.int .i64 (H.at_ l j)) := by
    obtain ⟨ad, x, e, _, hx, hcx⟩ := hr.get hj
    cases e
    rw [hcx, H.at_of hx]; rfl
  rw [add_start] at h1 h2
  generalize H.at_ l i = x at *
  generalize H.at_ l j = y at *
  have HB := kp hb
  clear hk hn hr hblk hb
  go_enter Try.func61, Try.ntmps61
  go_wp2
  go_quiet (fail)
  go_wp2
  go_ret
  exact ⟨ret_bool HB.out, _, rfl⟩

set_option maxRecDepth 100000 in
set_option maxHeartbeats 1600000 in
theorem least_swap (K : Nat → Prop) (g n i j : Nat) (l : List Int) (w : World) (hk : Hp w K g l) (hn : l.length = n) (hi : i < n) (hj : j < n) :
    Calls Try.prog 64 #[.pointer (some ⟨g, 0, none⟩), .int .i64 (i : Int), .int .i64 (j : Int)] w fun e w' => e = .returned (.tuple #[]) ∧ Hp w' K g (H.swap l i j) ∧ Held K w w' := by
  have hlt := hk.lt
  have hng := hk.not
  obtain ⟨A, c, hc0, hblk, hnc, hcm, hr, hown, hb⟩ := Var.opens hk hn
  obtain ⟨r, cur, rfl, hrb, hcl, hct, hrg, hrk⟩ := hb (by omega)
  have h1 : cur[i]? = some (.int .i64 (H.at_ l i)) := by
    have h := congrArg (fun q : List Value => q[i]?) hct
    simp only [List.getElem?_take, if_pos hi, List.getElem?_map, H.at_some (show i < l.length by omega)] at h
    exact h
  have h2 : cur[j]? = some (.int .i64 (H.at_ l j)) := by
    have h := congrArg (fun q : List Value => q[j]?) hct
    simp only [List.getElem?_take, if_pos hj, List.getElem?_map, H.at_some (show j < l.length by omega)] at h
    exact h
  have h3 : ∃ z, (cur.set i (.int .i64 (H.at_ l j)))[j]? = some (.int .i64 z) := by
    rw [List.getElem?_set]
    by_cases hij : i = j
    · subst hij
      exact ⟨_, by rw [if_pos rfl, if_pos (by omega)]⟩
    · exact ⟨_, by rw [if_neg hij]; exact h2⟩
  have HEnd : Kept (∀ W, Only (fun k => k = r) w W → Blk W r 3 ((cur.set i (.int .i64 (H.at_ l j))).set j (.int .i64 (H.at_ l i))) → Hp W K g (H.swap l i j) ∧ Held K w W) := kp fun W hO hb2 => by
    refine ⟨⟨_, hO.blk hblk (fun e => hrg e.symm), ?_, fun e => hrg (by cases e; rfl), hng, fun k hk => by cases hk; exact hrk, fun k hk => Nat.lt_of_lt_of_le (hlt k hk) hO.size⟩, ⟨hO.os, hO.tape, hO.output, hO.size, fun k hk => hO.block k (hlt k hk) fun e => hrk (by rw [← e]; exact hk)⟩⟩
    have ho := Blk.own (B := 0) (xs := (H.swap l i j).map intV) hb2 (Nat.zero_le _) (cap := c) (by simpa using hcl) (by rw [List.length_map, H.swap_len]; omega) hcm (by
      rw [List.length_map, H.swap_len, hn, List.take_set, List.take_set, hct]
      unfold H.swap
      rw [List.map_set, List.map_set]; rfl)
    rw [List.length_map, H.swap_len, hn] at ho
    exact ho
  unfold maxLen at hcm
  have HK := kp hblk; have HR := kp hrb; have HCi := kp h1; have HCj := kp h2; have HGr := kp hrg
  obtain ⟨z, h3⟩ := h3
  have HCj1 := kp h3
  generalize H.at_ l i = x at *
  generalize H.at_ l j = y at *
  have hin : (i : Int) < (n : Int) := by omega
  have hjn : (j : Int) < (n : Int) := by omega
  clear hk hn hr hown hb hct hblk hrb h1 h2 h3 hlt hng hrk hrg hc0
  go_enter Try.func64, Try.ntmps64
  go_wp2
  apply region_early (fun k => k = r) [21, 23] [0, 1, 2, 3, 4, 5, 6, 8, 9, 10, 11, 12, 13, 14, 15, 16, 17, 18, 19, 20] (phs ([fun W => Blk W r 3 cur, fun W => Blk W r 3 (cur.set i (.int .i64 y)), fun W => Blk W r 3 ((cur.set i (.int .i64 y)).set j (.int .i64 x))])) (.is _ :: .is _ :: .is _ :: .is _ :: .is _ :: .is _ :: .is _ :: .is _ :: .is _ :: .is _ :: .is _ :: .is _ :: .is _ :: .is _ :: .is _ :: .is _ :: .is _ :: .is _ :: .is _ :: .is _ :: .is _ :: .any _ :: .is _ :: .any _ :: [])
    [[], [(0, 6)], [(1, 7)], [], [], [(4, 10)], [(5, 11)], [], [], [(8, 14)], [(9, 15)], [], [(10, 16), (11, 17)], [(12, 18)], [], [(14, 20)], [(15, 21)], [], [(16, 22), (17, 23)], [(18, 24)], [(2, 8), (3, 9)], [(20, 26), (13, 19)], [(6, 12), (7, 13)], [(22, 27), (19, 25)]]
    [(0, 6), (1, 7), (2, 8), (3, 9), (4, 10), (5, 11), (6, 12), (7, 13), (8, 14), (9, 15), (10, 16), (11, 17), (12, 18), (13, 19), (14, 20), (15, 21), (16, 22), (17, 23), (18, 24), (19, 25), (20, 26), (22, 27)] (by kernel_rfl) (by kernel_rfl) (by kernel_rfl) (by kernel_rfl) (by decide)
  case h0 => exact HR.out
  case hob =>
    refine eobs_early rfl rfl ?o0 (eobs_early rfl rfl ?o1 (eobs_early rfl rfl ?o2 (eobs_early rfl rfl ?o3 (eobs_early rfl rfl ?o4 (eobs_early rfl rfl ?o5 (eobs_early rfl rfl ?o6 (eobs_calm rfl rfl ?o7 (eobs_early rfl rfl ?o8 (eobs_early rfl rfl ?o9 (eobs_early rfl rfl ?o10 (eobs_early rfl rfl ?o11 (eobs_early rfl rfl ?o12 (eobs_early rfl rfl ?o13 (eobs_early rfl rfl ?o14 (eobs_early rfl rfl ?o15 (eobs_early rfl rfl ?o16 (eobs_early rfl rfl ?o17 (eobs_early rfl rfl ?o18 (eobs_early rfl rfl ?o19 (eobs_early rfl rfl ?o20 (eobs_act 0 rfl rfl ?o21 (eobs_calm rfl rfl ?o22 (eobs_act 1 rfl rfl ?o23 (eobs_nil))))))))))))))))))))))))
    case o0 => intro W hO hJ; change wpList _ _ _ _ _ _; go_wp2; exact calm_post rfl rfl rfl hJ
    case o1 => intro W hO hJ; rintro _ rfl; change wpList _ _ _ _ _ _; go_wp2; exact calm_post rfl rfl rfl hJ
    case o2 =>
      intro W hO hJ; rintro _ rfl; change wpList _ _ _ _ _ _
      have hc := (hO.blk HK.out (fun e => HGr.out e.symm)).cell 0
      go_wp2; exact calm_post rfl rfl rfl hJ
    case o3 => intro W hO hJ; change wpList _ _ _ _ _ _; go_wp2; exact calm_post rfl rfl rfl hJ
    case o4 => intro W hO hJ; change wpList _ _ _ _ _ _; go_wp2; exact calm_post rfl rfl rfl hJ
    case o5 => intro W hO hJ; rintro _ rfl; change wpList _ _ _ _ _ _; go_wp2; exact calm_post rfl rfl rfl hJ
    case o6 =>
      intro W hO hJ; rintro _ rfl; change wpList _ _ _ _ _ _
      have hc := (hO.blk HK.out (fun e => HGr.out e.symm)).cell 0
      go_wp2; exact calm_post rfl rfl rfl hJ
    case o7 => intro p W hO hJ; change wpList _ _ _ _ _ _; go_wp2; exact calm_post rfl rfl rfl hJ
    case o8 => intro W hO hJ; change wpList _ _ _ _ _ _; go_wp2; exact calm_post rfl rfl rfl hJ
    case o9 => intro W hO hJ; rintro _ rfl; change wpList _ _ _ _ _ _; go_wp2; exact calm_post rfl rfl rfl hJ
    case o10 =>
      intro W hO hJ; rintro _ rfl; change wpList _ _ _ _ _ _
      have hc := (hO.blk HK.out (fun e => HGr.out e.symm)).cell 0
      go_wp2; exact calm_post rfl rfl rfl hJ
    case o11 => intro W hO hJ; change wpList _ _ _ _ _ _; go_wp2; exact calm_post rfl rfl rfl hJ
    case o12 => intro W hO hJ; rintro _ rfl; rintro _ rfl; change wpList _ _ _ _ _ _; go_wp2; exact calm_post rfl rfl rfl hJ
    case o13 =>
      intro W hO hJ; rintro _ rfl; change wpList _ _ _ _ _ _
      have hc := ((show Blk W r 3 cur from hJ).cell j).trans HCj.out
      go_wp2; exact calm_post rfl rfl rfl hJ
    case o14 => intro W hO hJ; change wpList _ _ _ _ _ _; go_wp2; exact calm_post rfl rfl rfl hJ
    case o15 => intro W hO hJ; rintro _ rfl; change wpList _ _ _ _ _ _; go_wp2; exact calm_post rfl rfl rfl hJ
    case o16 =>
      intro W hO hJ; rintro _ rfl; change wpList _ _ _ _ _ _
      have hc := (hO.blk HK.out (fun e => HGr.out e.symm)).cell 0
      go_wp2; exact calm_post rfl rfl rfl hJ
    case o17 => intro W hO hJ; change wpList _ _ _ _ _ _; go_wp2; exact calm_post rfl rfl rfl hJ
    case o18 => intro W hO hJ; rintro _ rfl; rintro _ rfl; change wpList _ _ _ _ _ _; go_wp2; exact calm_post rfl rfl rfl hJ
    case o19 =>
      intro W hO hJ; rintro _ rfl; change wpList _ _ _ _ _ _
      have hc := ((show Blk W r 3 cur from hJ).cell i).trans HCi.out
      go_wp2; exact calm_post rfl rfl rfl hJ
    case o20 => intro W hO hJ; rintro _ rfl; rintro _ rfl; change wpList _ _ _ _ _ _; go_wp2; exact calm_post rfl rfl rfl hJ
    case o21 =>
      intro W hO hJ; rintro _ rfl; rintro _ rfl; change wpList _ _ _ _ _ _
      have hRW : Blk W r 3 cur := hJ
      have hc := (hRW.cell i).trans HCi.out
      have hf := hRW.frozen i
      have HRn := kp (hRW.set i (.int .i64 y))
      clear hJ hRW
      go_wp2
      exact act_post0 rfl (Only.set rfl) HRn.out
    case o22 => intro p W hO hJ; rintro _ rfl; rintro _ rfl; change wpList _ _ _ _ _ _; go_wp2; exact calm_post rfl rfl rfl hJ
    case o23 =>
      intro W hO hJ; rintro _ rfl; rintro _ rfl; change wpList _ _ _ _ _ _
      have hRW : Blk W r 3 (cur.set i (.int .i64 y)) := hJ
      have hc := (hRW.cell j).trans HCj1.out
      have hf := hRW.frozen j
      have HRn := kp (hRW.set j (.int .i64 x))
      clear hJ hRW
      go_wp2
      exact act_post0 rfl (Only.set rfl) HRn.out
  case hend =>
    intro W hO hJ; rintro _ rfl; rintro _ rfl; rintro _ rfl; rintro _ rfl; rintro _ rfl; rintro _ rfl; rintro _ rfl; rintro _ rfl; rintro _ rfl; rintro _ rfl; rintro _ rfl; rintro _ rfl; rintro _ rfl; rintro _ rfl; rintro _ rfl; rintro _ rfl; rintro _ rfl; rintro _ rfl; rintro _ rfl; rintro _ rfl; rintro _ rfl; rintro _ rfl
    simp only [ggiven, put_lit, List.set]
    have HW := kp (HEnd.out W hO (show Blk W r 3 ((cur.set i (.int .i64 y)).set j (.int .i64 x)) from hJ))
    clear hO hJ
    go_wp2
    go_end0
    exact ⟨rfl, HW.out⟩
end Go.Proofs.Ytfifnahcobjjdaa

/- The program's heap of numbers, walked: Push, Pop, and container/heap's up and down over it. -/
namespace Go.Proofs.Ytfifnahcobjjdaa
open Go.RowKit

theorem assert_int (x : Int) (w : World) : (Instr.typeAssert (.iface 3 (.int .i64 x)) 20 3 true).run Try.prog w = .ok (.tuple #[.int .i64 x, .bool true]) w := by kernel_rfl
def hpV (g : Nat) : Value := .iface 52 (.pointer (some ⟨g, 0, none⟩))

set_option maxRecDepth 100000 in
set_option maxHeartbeats 800000 in
theorem least_Push (K : Nat → Prop) (g : Nat) (x : Int) (l : List Int) (w : World) (hk : Hp w K g l) (hn : l.length ≤ 1000000) :
    Calls Try.prog 63 #[.pointer (some ⟨g, 0, none⟩), .iface 3 (.int .i64 x)] w fun e w' => e = .returned (.tuple #[]) ∧ Hp w' K g (l ++ [x]) ∧ Held K w w' := by
  obtain ⟨v, hblk, hown, hne, hS1, hS2, hS3⟩ := hk
  have HK := kp hblk; have HO := kp hown; have HNe := kp hne
  have HS1 := kp hS1; have HS2 := kp hS2; have HS3 := kp hS3
  have hc : w.cell? ⟨g, 0, none⟩ = some v := hblk.cell 0
  have hgs := hblk.lt
  clear hblk hown hne hS1 hS2 hS3
  have hta := assert_int x w
  go_enter Try.func63, Try.ntmps63
  go_wp2_with (first
    | (at_builtin; go_must (refine wpList_append_one rfl (.tmp 15) (.tmp 17) 53 rfl 0 3 _ _ Try.underlying53 int_info rfl _ v _ _ rfl HO.out _ 1 rfl rfl rfl (by simp [maxLen]; omega) (by simp; omega) (Nat.zero_le _) ?_); intro v1 w1 hown1 hg1
       have HK1 := kp (HK.out.grown hg1.1 (fun e => HNe.out e.symm))
       have hf1 := HK1.out.frozen 0
       have hc1 : w1.cell? ⟨g, 0, none⟩ = some v := HK1.out.cell 0
       have HO1 := kp hown1; have HG1 := kp hg1
       obtain ⟨A1, c1, e1, _⟩ := hown1.form
       generalize (List.map intV l ++ [Value.int IntKind.i64 x]).length = n1 at e1
       subst e1
       clear hown1 hg1 hc))
  go_end0
  have hsz := HG1.out.size
  have hne1 : (Value.slice A1 n1 c1).ownBlock ≠ some g := by
    rcases HG1.out.2 with h | h
    · rw [h]; exact HNe.out
    · intro e
      have := h g e
      omega
  refine ⟨rfl, ⟨_, HK1.out.set 0 _, ?_, hne1, HS1.out, fun k hk hs => ?_, fun k hk => ?_⟩, ?_⟩
  · rw [List.map_append]
    exact HO1.out.far (grown_set (g := g) (grown_refl _ _)) (.inr hne1)
  · rcases HG1.out.2 with h | h
    · exact HS2.out k (by rw [← h]; exact hk) hs
    · have := h k hk
      have := HS3.out k hs
      omega
  · have := HS3.out k hk
    simp; omega
  · refine (Held.of_grown (row := v.ownBlock) HG1.out.1 fun k hk => ⟨HS3.out k hk, fun e => HS2.out k e.symm hk⟩).trans (Held.of_grown (row := some g) (grown_set (grown_refl _ _)) fun k hk => ⟨?_, fun e => ?_⟩)
    · have := HS3.out k hk; omega
    · cases e; exact HS1.out hk

set_option maxRecDepth 100000 in
set_option maxHeartbeats 800000 in
theorem least_Pop (K : Nat → Prop) (g m : Nat) (l : List Int) (w : World) (hk : Hp w K g l) (hn : l.length = m + 1) :
    Calls Try.prog 62 #[.pointer (some ⟨g, 0, none⟩)] w fun e w' => e = .returned (.iface 3 (.int .i64 (H.at_ l m))) ∧ Hp w' K g (l.take m) ∧ Held K w w' := by
  have hlt := hk.lt
  have hng := hk.not
  obtain ⟨A, c, hc, hblk, hnc, hcm, hr, hown, hb⟩ := Var.opens hk hn
  obtain ⟨r, cur, rfl, hrb, hcl, hct, hrg, hrk⟩ := hb (by omega)
  have hx : w.cell? ⟨r, m, none⟩ = some (.int .i64 (H.at_ l m)) := by
    obtain ⟨ad, x, e, _, hx, hcx⟩ := hr.get (show m < m + 1 by omega)
    cases e
    rw [add_start] at hcx
    rw [hcx, H.at_of hx]; rfl
  have HEnd : Kept (Hp (w.setCell ⟨g, 0, none⟩ (.slice (some ⟨r, 0, none⟩) m c)) K g (l.take m) ∧ Held K w (w.setCell ⟨g, 0, none⟩ (.slice (some ⟨r, 0, none⟩) m c))) := kp <| by
    refine ⟨⟨_, hblk.set 0 _, ?_, fun e => hrg (by cases e; rfl), hng, fun k hk => by cases hk; exact hrk, fun k hk => by have := hlt k hk; simp; omega⟩, Held.of_grown (row := some g) (grown_set (grown_refl _ _)) fun k hk => ⟨hlt k hk, fun e => hng (by cases e; exact hk)⟩⟩
    have h1 := (hown.front (m := m) (by omega)).far (grown_set (g := g) (k := 0) (v := .slice (some ⟨r, 0, none⟩) m c) (grown_refl _ _)) (.inr fun e => hrg (by cases e; rfl))
    rwa [List.map_take]
  have hf := hblk.frozen 0
  generalize H.at_ l m = x at *
  unfold maxLen at hcm
  clear hk hn hr hown hb hct hblk hrb hlt hng hrk hrg
  go_enter Try.func62, Try.ntmps62
  go_wp2_with ((with_reducible show wpList _ _ _ (⟨some 21, _, _, _, _, _⟩ :: _) _ _); go_must (refine wpList_slice_front rfl 53 (.tmp 19) (.tmp 20) rfl 3 Try.underlying53 size1i (some ⟨r, 0, none⟩) (m + 1) c rfl .i64 m rfl (by omega) ?_))
  go_ret
  exact ⟨rfl, HEnd.out⟩
end Go.Proofs.Ytfifnahcobjjdaa

/- container/heap's up and down over the program's heap, walked. -/
namespace Go.Proofs.Ytfifnahcobjjdaa
open Go.RowKit

theorem Hp.drawn {w : World} {K : Nat → Prop} {g : Nat} {l : List Int} (h : Hp w K g l) (m : Nat) : Hp (w.drewN m) K g l := Var.drewN h m

set_option maxRecDepth 100000 in
set_option maxHeartbeats 1600000 in
theorem heap_up (K : Nat → Prop) (g n j0 : Nat) (l : List Int) (w : World) (hk : Hp w K g l) (hn : l.length = n) (hj : j0 < n) (hup : H.Up l n j0) (hn6 : n ≤ 1000000) :
    Calls Try.prog 35 #[hpV g, .int .i64 (j0 : Int)] w fun e w' => e = .returned (.tuple #[]) ∧ ∃ l', Hp w' K g l' ∧ l'.Perm l ∧ H.Heap l' n ∧ Held K w w' := by
  have HK := kp hk; have HN := kp hn; have HU := kp hup
  clear hk hn hup
  unfold hpV
  go_enter Try.func35, Try.ntmps35
  go_wp2
  go_loopw [1] (fun v1 wr => ∃ (j : Nat) (l1 : List Int), v1 = .int .i64 (j : Int) ∧ j < n ∧ l1.Perm l ∧ H.Up l1 n j ∧ Hp wr K g l1 ∧ Held K w wr) (fun v1 _ => (intOf v1).toNat)
  case atStart => exact ⟨j0, l, rfl, hj, List.Perm.refl _, HU.out, HK.out, Held.refl _ _⟩
  case round =>
    clear HK HU hj
    obtain ⟨j, l1, rfl, hj, hp, hup, hk, hh⟩ := hrel
    have HK := kp hk; have HU := kp hup; have HP := kp hp; have HH := kp hh
    have HN1 := kp (hp.length_eq.trans HN.out)
    clear hk hup hp hh
    by_cases h0 : j = 0
    · subst h0
      have HEnd : Kept (H.Heap l1 n) := kp (H.up_zero HU.out)
      go_wp2
      go_end0
      exact ⟨rfl, l1, HK.out, HP.out, HEnd.out, HH.out⟩
    · obtain ⟨i, hi⟩ : ∃ i, i = (j - 1) / 2 := ⟨_, rfl⟩
      have hq : ((j : Int) - 1).tdiv 2 = (i : Int) := by
        rw [Int.tdiv_eq_ediv_of_nonneg (by omega)]; omega
      have hij : ((i : Int) == (j : Int)) = false := by simp; omega
      have hin : i < n := by omega
      obtain ⟨b, hb⟩ : ∃ b, decide (H.at_ l1 j < H.at_ l1 i) = b := ⟨_, rfl⟩
      have HB := kp hb; have HI := kp hi; have HJ0 := kp h0
      clear hb hi h0
      cases b
      · have HEnd : Kept (H.Heap l1 n) := kp (H.up_done HU.out (by have := of_decide_eq_false HB.out; rw [← HI.out]; omega))
        go_wp2_with (go_at_call 61; go_must (refine (least_less K g n j i l1 wr HK.out HN1.out hj hin false HB.out).mono ?_); rintro e w5 ⟨rfl, m5, hw5⟩; have HK5 : Kept (Hp w5 K g l1) := kp (by rw [hw5]; exact HK.out.drawn m5); have HH5 : Kept (Held K w w5) := kp (by rw [hw5]; exact HH.out.drewN m5); clear hw5)
        go_end0
        exact ⟨rfl, l1, HK5.out, HP.out, HEnd.out, HH5.out⟩
      · have HStep : Kept (H.Up (H.swap l1 i j) n i) := kp (H.up_step HU.out (by have := HJ0.out; omega) hj (by rw [HN1.out]; exact Nat.le_refl _) HI.out (of_decide_eq_true HB.out))
        have HPs : Kept ((H.swap l1 i j).Perm l) := kp ((H.swap_perm (by rw [HN1.out]; exact hin) (by rw [HN1.out]; exact hj)).trans HP.out)
        have hlt : i < j := by have := HI.out; have := HJ0.out; omega
        go_wp2_with (first
          | (go_at_call 61; go_must (refine (least_less K g n j i l1 wr HK.out HN1.out hj hin true HB.out).mono ?_); rintro e w5 ⟨rfl, m5, hw5⟩; have HK5 : Kept (Hp w5 K g l1) := kp (by rw [hw5]; exact HK.out.drawn m5); have HH5 : Kept (Held K w w5) := kp (by rw [hw5]; exact HH.out.drewN m5); clear hw5)
          | (go_at_call 64; go_must (refine (least_swap K g n i j l1 w5 HK5.out HN1.out hin hj).mono ?_); rintro e w6 ⟨rfl, hk6, hh6⟩; have HK6 := kp hk6; have HH6 := kp (HH5.out.trans hh6); clear hk6 hh6))
        go_roundw
        case rel => exact ⟨i, H.swap l1 i j, rfl, hin, HPs.out, HStep.out, HK6.out, HH6.out⟩
        case measure => simp [intOf]; omega

set_option maxRecDepth 100000 in
set_option maxHeartbeats 3200000 in
theorem heap_down (K : Nat → Prop) (g n N : Nat) (l : List Int) (w : World) (hk : Hp w K g l) (hn : l.length = N) (hnN : n < N) (hdn : H.Down l n 0) (hn6 : N ≤ 1000000) :
    Calls Try.prog 42 #[hpV g, .int .i64 0, .int .i64 (n : Int)] w fun e w' => ∃ b, e = .returned (.bool b) ∧ ∃ l', Hp w' K g l' ∧ l'.Perm l ∧ l'.drop n = l.drop n ∧ H.Heap l' n ∧ Held K w w' := by
  have HK := kp hk; have HN := kp hn; have HD := kp hdn
  clear hk hn hdn
  unfold hpV
  go_enter Try.func42, Try.ntmps42
  go_wp2
  go_loopw [7] (fun v7 wr => ∃ (i : Nat) (l1 : List Int), v7 = .int .i64 (i : Int) ∧ i ≤ n ∧ l1.Perm l ∧ l1.drop n = l.drop n ∧ H.Down l1 n i ∧ Hp wr K g l1 ∧ Held K w wr) (fun v7 _ => n - (intOf v7).toNat)
  case atStart => exact ⟨0, l, rfl, Nat.zero_le _, List.Perm.refl _, rfl, HD.out, HK.out, Held.refl _ _⟩
  case round =>
    clear HK HD
    obtain ⟨i, l1, rfl, hi, hp, hdr, hdn, hk, hh⟩ := hrel
    have HK := kp hk; have HD := kp hdn; have HP := kp hp; have HH := kp hh; have HDr := kp hdr
    have HN1 := kp (hp.length_eq.trans HN.out)
    clear hk hdn hp hh hdr
    obtain ⟨j1, hj1⟩ : ∃ j1, j1 = 2 * i + 1 := ⟨_, rfl⟩
    have e1 : 2 * (i : Int) + 1 = (j1 : Int) := by omega
    by_cases h1 : j1 < n
    · obtain ⟨j2, hj2⟩ : ∃ j2, j2 = j1 + 1 := ⟨_, rfl⟩
      have e2 : (j1 : Int) + 1 = (j2 : Int) := by omega
      have HJ1 := kp hj1; have HJ2 := kp hj2
      by_cases h2 : j2 < n
      · obtain ⟨b, hb⟩ : ∃ b, decide (H.at_ l1 j2 < H.at_ l1 j1) = b := ⟨_, rfl⟩
        have HB := kp hb
        clear hb
        cases b
        · obtain ⟨c, hc⟩ : ∃ c, decide (H.at_ l1 j1 < H.at_ l1 i) = c := ⟨_, rfl⟩
          have HC := kp hc
          have HCh : Kept (H.Child l1 n i j1) := kp (by rw [hj1]; exact H.child_left (by omega) (.inr (by have := of_decide_eq_false HB.out; rw [show j2 = 2 * i + 2 by omega, hj1] at this; omega)))
          clear hc hj1 hj2
          cases c
          · have HEnd : Kept (H.Heap l1 n) := kp (H.down_done HD.out HCh.out (by have := of_decide_eq_false HC.out; omega))
            go_wp2_with (first
              | (go_at_call_of 61 #[Value.pointer (some ⟨g, 0, none⟩), Value.int IntKind.i64 (j2 : Int), Value.int IntKind.i64 (j1 : Int)]; go_must (refine (least_less K g N j2 j1 l1 wr HK.out HN1.out (by omega) (by omega) false HB.out).mono ?_); rintro e w4 ⟨rfl, m4, hw4⟩; have HK4 : Kept (Hp w4 K g l1) := kp (by rw [hw4]; exact HK.out.drawn m4); have HH4 : Kept (Held K w w4) := kp (by rw [hw4]; exact HH.out.drewN m4); clear hw4)
              | (go_at_call_of 61 #[Value.pointer (some ⟨g, 0, none⟩), Value.int IntKind.i64 (j1 : Int), Value.int IntKind.i64 (i : Int)]; go_must (refine (least_less K g N j1 i l1 w4 HK4.out HN1.out (by omega) (by omega) false HC.out).mono ?_); rintro e w5 ⟨rfl, m5, hw5⟩; have HK5 : Kept (Hp w5 K g l1) := kp (by rw [hw5]; exact HK4.out.drawn m5); have HH5 : Kept (Held K w w5) := kp (by rw [hw5]; exact HH4.out.drewN m5); clear hw5))
            go_ret
            exact ⟨_, rfl, l1, HK5.out, HP.out, HDr.out, HEnd.out, HH5.out⟩
          · have HStep : Kept (H.Down (H.swap l1 i j1) n j1) := kp (H.down_step HD.out HCh.out (by rw [HN1.out]; omega) (of_decide_eq_true HC.out))
            have HPs : Kept ((H.swap l1 i j1).Perm l) := kp ((H.swap_perm (by rw [HN1.out]; omega) (by rw [HN1.out]; omega)).trans HP.out)
            have HDs : Kept ((H.swap l1 i j1).drop n = l.drop n) := kp ((H.swap_drop (by omega) (by omega)).trans HDr.out)
            go_wp2_with (first
              | (go_at_call_of 61 #[Value.pointer (some ⟨g, 0, none⟩), Value.int IntKind.i64 (j2 : Int), Value.int IntKind.i64 (j1 : Int)]; go_must (refine (least_less K g N j2 j1 l1 wr HK.out HN1.out (by omega) (by omega) false HB.out).mono ?_); rintro e w4 ⟨rfl, m4, hw4⟩; have HK4 : Kept (Hp w4 K g l1) := kp (by rw [hw4]; exact HK.out.drawn m4); have HH4 : Kept (Held K w w4) := kp (by rw [hw4]; exact HH.out.drewN m4); clear hw4)
              | (go_at_call_of 61 #[Value.pointer (some ⟨g, 0, none⟩), Value.int IntKind.i64 (j1 : Int), Value.int IntKind.i64 (i : Int)]; go_must (refine (least_less K g N j1 i l1 w4 HK4.out HN1.out (by omega) (by omega) true HC.out).mono ?_); rintro e w5 ⟨rfl, m5, hw5⟩; have HK5 : Kept (Hp w5 K g l1) := kp (by rw [hw5]; exact HK4.out.drawn m5); have HH5 : Kept (Held K w w5) := kp (by rw [hw5]; exact HH4.out.drewN m5); clear hw5)
              | (go_at_call 64; go_must (refine (least_swap K g N i j1 l1 w5 HK5.out HN1.out (by omega) (by omega)).mono ?_); rintro e w6 ⟨rfl, hk6, hh6⟩; have HK6 := kp hk6; have HH6 := kp (HH5.out.trans hh6); clear hk6 hh6))
            go_roundw
            case rel => exact ⟨j1, H.swap l1 i j1, rfl, by omega, HPs.out, HDs.out, HStep.out, HK6.out, HH6.out⟩
            case measure => simp [intOf]; omega
        · obtain ⟨c, hc⟩ : ∃ c, decide (H.at_ l1 j2 < H.at_ l1 i) = c := ⟨_, rfl⟩
          have HC := kp hc
          have HCh : Kept (H.Child l1 n i j2) := kp (by rw [show j2 = 2 * i + 2 by omega]; exact H.child_right (by omega) (by have := of_decide_eq_true HB.out; rw [show j2 = 2 * i + 2 by omega, hj1] at this; exact this))
          clear hc hj1 hj2
          cases c
          · have HEnd : Kept (H.Heap l1 n) := kp (H.down_done HD.out HCh.out (by have := of_decide_eq_false HC.out; omega))
            go_wp2_with (first
              | (go_at_call_of 61 #[Value.pointer (some ⟨g, 0, none⟩), Value.int IntKind.i64 (j2 : Int), Value.int IntKind.i64 (j1 : Int)]; go_must (refine (least_less K g N j2 j1 l1 wr HK.out HN1.out (by omega) (by omega) true HB.out).mono ?_); rintro e w4 ⟨rfl, m4, hw4⟩; have HK4 : Kept (Hp w4 K g l1) := kp (by rw [hw4]; exact HK.out.drawn m4); have HH4 : Kept (Held K w w4) := kp (by rw [hw4]; exact HH.out.drewN m4); clear hw4)
              | (go_at_call_of 61 #[Value.pointer (some ⟨g, 0, none⟩), Value.int IntKind.i64 (j2 : Int), Value.int IntKind.i64 (i : Int)]; go_must (refine (least_less K g N j2 i l1 w4 HK4.out HN1.out (by omega) (by omega) false HC.out).mono ?_); rintro e w5 ⟨rfl, m5, hw5⟩; have HK5 : Kept (Hp w5 K g l1) := kp (by rw [hw5]; exact HK4.out.drawn m5); have HH5 : Kept (Held K w w5) := kp (by rw [hw5]; exact HH4.out.drewN m5); clear hw5))
            go_ret
            exact ⟨_, rfl, l1, HK5.out, HP.out, HDr.out, HEnd.out, HH5.out⟩
          · have HStep : Kept (H.Down (H.swap l1 i j2) n j2) := kp (H.down_step HD.out HCh.out (by rw [HN1.out]; omega) (of_decide_eq_true HC.out))
            have HPs : Kept ((H.swap l1 i j2).Perm l) := kp ((H.swap_perm (by rw [HN1.out]; omega) (by rw [HN1.out]; omega)).trans HP.out)
            have HDs : Kept ((H.swap l1 i j2).drop n = l.drop n) := kp ((H.swap_drop (by omega) (by omega)).trans HDr.out)
            go_wp2_with (first
              | (go_at_call_of 61 #[Value.pointer (some ⟨g, 0, none⟩), Value.int IntKind.i64 (j2 : Int), Value.int IntKind.i64 (j1 : Int)]; go_must (refine (least_less K g N j2 j1 l1 wr HK.out HN1.out (by omega) (by omega) true HB.out).mono ?_); rintro e w4 ⟨rfl, m4, hw4⟩; have HK4 : Kept (Hp w4 K g l1) := kp (by rw [hw4]; exact HK.out.drawn m4); have HH4 : Kept (Held K w w4) := kp (by rw [hw4]; exact HH.out.drewN m4); clear hw4)
              | (go_at_call_of 61 #[Value.pointer (some ⟨g, 0, none⟩), Value.int IntKind.i64 (j2 : Int), Value.int IntKind.i64 (i : Int)]; go_must (refine (least_less K g N j2 i l1 w4 HK4.out HN1.out (by omega) (by omega) true HC.out).mono ?_); rintro e w5 ⟨rfl, m5, hw5⟩; have HK5 : Kept (Hp w5 K g l1) := kp (by rw [hw5]; exact HK4.out.drawn m5); have HH5 : Kept (Held K w w5) := kp (by rw [hw5]; exact HH4.out.drewN m5); clear hw5)
              | (go_at_call 64; go_must (refine (least_swap K g N i j2 l1 w5 HK5.out HN1.out (by omega) (by omega)).mono ?_); rintro e w6 ⟨rfl, hk6, hh6⟩; have HK6 := kp hk6; have HH6 := kp (HH5.out.trans hh6); clear hk6 hh6))
            go_roundw
            case rel => exact ⟨j2, H.swap l1 i j2, rfl, by omega, HPs.out, HDs.out, HStep.out, HK6.out, HH6.out⟩
            case measure => simp [intOf]; omega
      · obtain ⟨c, hc⟩ : ∃ c, decide (H.at_ l1 j1 < H.at_ l1 i) = c := ⟨_, rfl⟩
        have HC := kp hc
        have HCh : Kept (H.Child l1 n i j1) := kp (by rw [hj1]; exact H.child_left (by omega) (.inl (by omega)))
        clear hc hj1 hj2
        cases c
        · have HEnd : Kept (H.Heap l1 n) := kp (H.down_done HD.out HCh.out (by have := of_decide_eq_false HC.out; omega))
          go_wp2_with (first
            | (go_at_call_of 61 #[Value.pointer (some ⟨g, 0, none⟩), Value.int IntKind.i64 (j1 : Int), Value.int IntKind.i64 (i : Int)]; go_must (refine (least_less K g N j1 i l1 wr HK.out HN1.out (by omega) (by omega) false HC.out).mono ?_); rintro e w5 ⟨rfl, m5, hw5⟩; have HK5 : Kept (Hp w5 K g l1) := kp (by rw [hw5]; exact HK.out.drawn m5); have HH5 : Kept (Held K w w5) := kp (by rw [hw5]; exact HH.out.drewN m5); clear hw5))
          go_ret
          exact ⟨_, rfl, l1, HK5.out, HP.out, HDr.out, HEnd.out, HH5.out⟩
        · have HStep : Kept (H.Down (H.swap l1 i j1) n j1) := kp (H.down_step HD.out HCh.out (by rw [HN1.out]; omega) (of_decide_eq_true HC.out))
          have HPs : Kept ((H.swap l1 i j1).Perm l) := kp ((H.swap_perm (by rw [HN1.out]; omega) (by rw [HN1.out]; omega)).trans HP.out)
          have HDs : Kept ((H.swap l1 i j1).drop n = l.drop n) := kp ((H.swap_drop (by omega) (by omega)).trans HDr.out)
          go_wp2_with (first
            | (go_at_call_of 61 #[Value.pointer (some ⟨g, 0, none⟩), Value.int IntKind.i64 (j1 : Int), Value.int IntKind.i64 (i : Int)]; go_must (refine (least_less K g N j1 i l1 wr HK.out HN1.out (by omega) (by omega) true HC.out).mono ?_); rintro e w5 ⟨rfl, m5, hw5⟩; have HK5 : Kept (Hp w5 K g l1) := kp (by rw [hw5]; exact HK.out.drawn m5); have HH5 : Kept (Held K w w5) := kp (by rw [hw5]; exact HH.out.drewN m5); clear hw5)
            | (go_at_call 64; go_must (refine (least_swap K g N i j1 l1 w5 HK5.out HN1.out (by omega) (by omega)).mono ?_); rintro e w6 ⟨rfl, hk6, hh6⟩; have HK6 := kp hk6; have HH6 := kp (HH5.out.trans hh6); clear hk6 hh6))
          go_roundw
          case rel => exact ⟨j1, H.swap l1 i j1, rfl, by omega, HPs.out, HDs.out, HStep.out, HK6.out, HH6.out⟩
          case measure => simp [intOf]; omega
    · have HEnd : Kept (H.Heap l1 n) := kp (H.down_none HD.out (by omega))
      clear hj1
      go_wp2
      go_ret
      exact ⟨_, rfl, l1, HK.out, HP.out, HDr.out, HEnd.out, HH.out⟩

end Go.Proofs.Ytfifnahcobjjdaa

/- container/heap's Push and Pop over the program's heap, and the program's pop, walked. -/
namespace Go.Proofs.Ytfifnahcobjjdaa
open Go.RowKit

/-- The heap in block g, whole: a heap of these numbers. -/
def HpH (w : World) (K : Nat → Prop) (g : Nat) (l : List Int) : Prop := Hp w K g l ∧ H.Heap l l.length
theorem HpH.kept {w w' : World} {K K' : Nat → Prop} {g : Nat} {l : List Int} {row : Option Nat} (h : HpH w K g l) (hg : w.grownBy w' row) (hr : ∀ k, row = some k → K k) (hS : ∀ k, K' k → K k ∨ (w.heap.size ≤ k ∧ k < w'.heap.size)) : HpH w' K' g l := ⟨Var.kept h.1 hg hr hS, h.2⟩
theorem HpH.below {w w' : World} {K K' : Nat → Prop} {g : Nat} {l : List Int} (h : HpH w K g l) (hb : Below w.heap.size w w') (hS : ∀ k, K' k → K k ∨ (w.heap.size ≤ k ∧ k < w'.heap.size)) : HpH w' K' g l := ⟨Var.below h.1 hb hS, h.2⟩

set_option maxRecDepth 100000 in
set_option maxHeartbeats 800000 in
theorem heap_Push (K : Nat → Prop) (g : Nat) (x : Int) (l : List Int) (w : World) (hk : HpH w K g l) (hn : l.length ≤ 100000) :
    Calls Try.prog 18 #[hpV g, .iface 3 (.int .i64 x)] w fun e w' => e = .returned (.tuple #[]) ∧ ∃ l', HpH w' K g l' ∧ l'.Perm (x :: l) ∧ Held K w w' := by
  obtain ⟨n, hnn⟩ : ∃ n, l.length = n := ⟨_, rfl⟩
  have HK := kp hk.1; have HN := kp hnn
  have HU := kp (H.push_up hk.2 rfl x)
  have HN1 : Kept ((l ++ [x]).length = n + 1) := kp (by simp [hnn])
  rw [hnn] at HU hn
  clear hk hnn
  unfold hpV
  go_enter Try.func18, Try.ntmps18
  go_wp2_with (first
    | (go_at_call 63; go_must (refine (least_Push K g x l w HK.out (by rw [HN.out]; omega)).mono ?_); rintro e w1 ⟨rfl, hk1, hh1⟩; have HK1 := kp hk1; have HH1 := kp hh1; clear hk1 hh1)
    | (go_at_call 19; go_must (refine (least_len K g (n + 1) _ w1 HK1.out HN1.out).mono ?_); rintro e w2 ⟨rfl, rfl⟩)
    | (go_at_call 35; go_must (refine (heap_up K g (n + 1) n _ w1 HK1.out HN1.out (by omega) HU.out (by omega)).mono ?_); rintro e w3 ⟨rfl, l3, hk3, hp3, hh3, hd3⟩; have HK3 := kp hk3; have HP3 := kp hp3; have HH3 := kp hh3; have HD3 := kp (HH1.out.trans hd3); clear hk3 hp3 hh3 hd3))
  go_end0
  exact ⟨rfl, l3, ⟨HK3.out, by rw [HP3.out.length_eq, HN1.out]; exact HH3.out⟩, HP3.out.trans (List.perm_append_singleton x l), HD3.out⟩

set_option maxRecDepth 100000 in
set_option maxHeartbeats 800000 in
theorem heap_Pop (K : Nat → Prop) (g m : Nat) (l : List Int) (w : World) (hk : HpH w K g l) (hn : l.length = m + 1) (hm : m ≤ 100000) :
    Calls Try.prog 36 #[hpV g] w fun e w' => ∃ (x : Int) (l' : List Int), e = .returned (.iface 3 (.int .i64 x)) ∧ HpH w' K g l' ∧ l.Perm (x :: l') ∧ (∀ y ∈ l, x ≤ y) ∧ Held K w w' := by
  have hheap := hk.2
  rw [hn] at hheap
  have HK := kp hk.1; have HN := kp hn
  have HD := kp (H.pop_down hheap hn)
  have HPs : Kept ((H.swap l 0 m).Perm l) := kp (H.swap_perm (by omega) (by omega))
  have HN1 := kp (HPs.out.length_eq.trans hn)
  have HMin : Kept (∀ y ∈ l, H.at_ l 0 ≤ y) := kp fun y hy => by
    obtain ⟨k, hk⟩ := List.mem_iff_getElem?.1 hy
    have hkl := (List.getElem?_eq_some_iff.1 hk).1
    have h1 := H.heap_min hheap (k + 1) k (by omega) (by omega)
    rw [H.at_of hk] at h1
    exact h1
  have HAt : Kept (H.at_ (H.swap l 0 m) m = H.at_ l 0) := kp (by rw [H.at_swap (by omega) (by omega), if_pos rfl])
  clear hk hn hheap
  unfold hpV
  go_enter Try.func36, Try.ntmps36
  go_wp2_with (first
    | (go_at_call 19; go_must (refine (least_len K g (m + 1) _ w HK.out HN.out).mono ?_); rintro e w2 ⟨rfl, rfl⟩)
    | (go_at_call 64; go_must (refine (least_swap K g (m + 1) 0 m l w HK.out HN.out (by omega) (by omega)).mono ?_); rintro e w1 ⟨rfl, hk1, hh1⟩; have HK1 := kp hk1; have HH1 := kp hh1; clear hk1 hh1)
    | (go_at_call 42; go_must (refine (heap_down K g m (m + 1) _ w1 HK1.out HN1.out (by omega) HD.out (by omega)).mono ?_); rintro e w3 ⟨b3, rfl, l3, hk3, hp3, hr3, hh3, hd3⟩; have HK3 := kp hk3; have HP3 := kp hp3; have HR3 := kp hr3; have HH3 := kp hh3; have HD3 := kp (HH1.out.trans hd3); have HN3 := kp (hp3.length_eq.trans HN1.out); clear hk3 hp3 hr3 hh3 hd3)
    | (go_at_call 62; go_must (refine (least_Pop K g m l3 w3 HK3.out HN3.out).mono ?_); rintro e w4 ⟨rfl, hk4, hh4⟩; have HK4 := kp hk4; have HH4 := kp (HD3.out.trans hh4); clear hk4 hh4))
  go_ret
  have hat : H.at_ l3 m = H.at_ l 0 := by
    rw [← HAt.out]
    have e1 : l3[m]? = (H.swap l 0 m)[m]? := by
      have := congrArg (fun q : List Int => q[0]?) HR3.out
      simpa [List.getElem?_drop] using this
    rw [H.at_some (by rw [HN3.out]; omega), H.at_some (by rw [HN1.out]; omega)] at e1
    exact Option.some.inj e1
  refine ⟨H.at_ l3 m, l3.take m, rfl, ⟨HK4.out, ?_⟩, ?_, fun y hy => by rw [hat]; exact HMin.out y hy, HH4.out⟩
  · rw [List.length_take, HN3.out, Nat.min_eq_left (by omega)]
    exact H.heap_take HH3.out (Nat.le_refl _)
  · have e1 : l3 = l3.take m ++ [H.at_ l3 m] := by
      have h1 := List.take_append_drop m l3
      have h2 : l3.drop m = [H.at_ l3 m] := by
        rw [List.drop_eq_getElem_cons (by rw [HN3.out]; omega), List.drop_of_length_le (by rw [HN3.out]; omega)]
        have h3 := H.at_some (l := l3) (i := m) (by rw [HN3.out]; omega)
        rw [List.getElem?_eq_getElem (by rw [HN3.out]; omega)] at h3
        rw [Option.some.inj h3]
      rw [h2] at h1
      exact h1.symm
    have h4 : (l3.take m ++ [H.at_ l3 m]).Perm l := by rw [← e1]; exact HP3.out.trans HPs.out
    exact (h4.symm).trans (List.perm_append_singleton _ _)

set_option maxRecDepth 100000 in
set_option maxHeartbeats 800000 in
theorem least_pop (K : Nat → Prop) (g m : Nat) (l : List Int) (w : World) (hk : HpH w K g l) (hn : l.length = m + 1) (hm : m ≤ 100000) :
    Calls Try.prog 20 #[.pointer (some ⟨g, 0, none⟩)] w fun e w' => ∃ (x : Int) (l' : List Int), e = .returned (.int .i64 x) ∧ HpH w' K g l' ∧ l.Perm (x :: l') ∧ (∀ y ∈ l, x ≤ y) ∧ Held K w w' := by
  have HK := kp hk; have HN := kp hn
  clear hk hn
  go_enter Try.func20, Try.ntmps20
  go_wp2_with (go_at_call 36; go_must (refine (heap_Pop K g m l w HK.out HN.out hm).mono ?_); rintro e w1 ⟨x, l1, rfl, hk1, hp1, hm1, hh1⟩; have HK1 := kp hk1; have HP1 := kp hp1; have HM1 := kp hm1; have HH1 := kp hh1; have hta := assert_int x w1; clear hk1 hp1 hm1 hh1)
  go_ret
  exact ⟨x, l1, rfl, HK1.out, HP1.out, HM1.out, HH1.out⟩
end Go.Proofs.Ytfifnahcobjjdaa
