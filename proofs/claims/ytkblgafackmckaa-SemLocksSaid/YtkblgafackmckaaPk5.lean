/- ProgRef2, Arr2, Reach, in one text. -/
import Derived.Test.YtkblgafackmckaaPk4
import Derived.Test.YtkblgafackmckaaPk3
import Derived.Laws.CopyOwn
import Derived.Laws.MakeOwn
import Derived.WalkKit
/- The document's own telling of nodes, walked: Row, size, May. -/
namespace Go.Proofs.Ytkblgafackmckaa
open Go.RowKit

def rowsB : List ByteArray := [⟨#[45, 110, 45]⟩, ⟨#[103, 110, 45]⟩, ⟨#[103, 110, 45]⟩, ⟨#[108, 110, 45]⟩, ⟨#[108, 110, 45]⟩, ⟨#[102, 110, 115]⟩, ⟨#[115, 110, 45]⟩, ⟨#[102, 110, 45]⟩, ⟨#[45, 110, 110]⟩, ⟨#[45, 45, 45]⟩]
def rowB (k : Int) : ByteArray := if k < 0 ∨ 9 < k then ⟨#[]⟩ else rowsB.getD k.toNat ⟨#[]⟩
theorem kinds (k : Int) (h0 : 0 ≤ k) (h9 : k ≤ 9) : k = 0 ∨ k = 1 ∨ k = 2 ∨ k = 3 ∨ k = 4 ∨ k = 5 ∨ k = 6 ∨ k = 7 ∨ k = 8 ∨ k = 9 := by omega
theorem rowB_size (k : Int) (h0 : 0 ≤ k) (h9 : k ≤ 9) : (rowB k).size = 3 ∧ Q.row k ≠ [] := by
  rcases kinds k h0 h9 with h | h | h | h | h | h | h | h | h | h <;> subst h <;> decide
theorem rowB_full (k : Int) (h0 : 0 ≤ k) (h9 : k ≤ 9) : (rowB k).toList.isEmpty = false := by
  rcases kinds k h0 h9 with h | h | h | h | h | h | h | h | h | h <;> subst h <;> decide +kernel
theorem rowB_at (k : Int) (h0 : 0 ≤ k) (h9 : k ≤ 9) (i : Nat) (hi : i < 3) (hs : i < (rowB k).size) : (rowB k)[i].toNat = (Q.row k).getD i 0 := by
  have h3 : i = 0 ∨ i = 1 ∨ i = 2 := by omega
  rcases kinds k h0 h9 with h | h | h | h | h | h | h | h | h | h <;> subst h <;> rcases h3 with h | h | h <;> subst h <;> rfl

set_option maxRecDepth 100000 in
set_option maxHeartbeats 1600000 in
theorem ref_row (k : Int) (hk : I64 k) (s : ByteArray) (hs : rowB k = s) (w : World) :
    Calls Try.prog 45 #[.int .i64 k] w fun e w' => e = .returned (.string s) ∧ Below w.heap.size w w' := by
  have HS := kp hs; clear hs
  obtain ⟨hk1, hk2⟩ := hk
  by_cases h : k < 0 ∨ 9 < k
  · have HE : Kept (⟨#[]⟩ = s) := kp <| by rw [← HS.out]; unfold rowB; rw [if_pos h]
    rcases h with h | h
    · go_enter Try.func45, Try.ntmps45
      go_wp2
      go_ret
      exact ⟨congrArg (fun u => Ending.returned (Value.string u)) HE.out, Below.refl _ _⟩
    · go_enter Try.func45, Try.ntmps45
      go_wp2
      go_ret
      exact ⟨congrArg (fun u => Ending.returned (Value.string u)) HE.out, Below.refl _ _⟩
  · rcases kinds k (by omega) (by omega) with h | h | h | h | h | h | h | h | h | h
    all_goals subst h
    all_goals clear hk1 hk2
    all_goals go_enter Try.func45, Try.ntmps45
    all_goals go_wp2
    all_goals go_ret
    all_goals exact ⟨congrArg (fun u => Ending.returned (Value.string u)) HS.out, (Below.refl _ _).alloc (Nat.le_refl _) _⟩

set_option maxRecDepth 100000 in
set_option maxHeartbeats 1600000 in
theorem ref_size (p : Pg) (c : Nat) (nodes : Int) (hn : I64 nodes) (w : World) :
    Calls Try.prog 46 #[pgA p, .int .u8 (c : Int), .int .i64 nodes] w fun e w' => e = .returned (.int .i64 (Q.size p.g p.l p.s p.len c nodes)) ∧ Below w.heap.size w w' := by
  have HR : Kept (Q.size p.g p.l p.s p.len c nodes = Q.size p.g p.l p.s p.len c nodes) := kp rfl
  obtain ⟨r, hr⟩ : ∃ r, Q.size p.g p.l p.s p.len c nodes = r := ⟨_, rfl⟩
  have HRr := kp hr
  rw [hr]
  clear HR hr
  obtain ⟨hn1, hn2⟩ := hn
  rw [pgA_is]
  by_cases h1 : c = 103
  · have HE : Kept (p.g = r) := kp <| by rw [← HRr.out]; unfold Q.size; rw [if_pos h1]
    subst h1
    go_enter Try.func46, Try.ntmps46
    go_wp2_with ((with_reducible refine wpList_box_agg rfl 24 (.tmp 0) rfl (pgC p) rfl ?_); intro g1 w1 hg1 hk1 hw1; obtain ⟨hc0, hc1, hc2, hc3⟩ := pg_cells hk1; have HW1 := kp hw1; clear hg1 hk1 hw1)
    go_ret
    exact ⟨ret_int HE.out, HW1.out⟩
  · by_cases h2 : c = 108
    · have HE : Kept (p.l = r) := kp <| by rw [← HRr.out]; unfold Q.size; rw [if_neg h1, if_pos h2]
      subst h2
      go_enter Try.func46, Try.ntmps46
      go_wp2_with ((with_reducible refine wpList_box_agg rfl 24 (.tmp 0) rfl (pgC p) rfl ?_); intro g1 w1 hg1 hk1 hw1; obtain ⟨hc0, hc1, hc2, hc3⟩ := pg_cells hk1; have HW1 := kp hw1; clear hg1 hk1 hw1)
      go_ret
      exact ⟨ret_int HE.out, HW1.out⟩
    · by_cases h3 : c = 115
      · have HE : Kept (p.s = r) := kp <| by rw [← HRr.out]; unfold Q.size; rw [if_neg h1, if_neg h2, if_pos h3]
        subst h3
        go_enter Try.func46, Try.ntmps46
        go_wp2_with ((with_reducible refine wpList_box_agg rfl 24 (.tmp 0) rfl (pgC p) rfl ?_); intro g1 w1 hg1 hk1 hw1; obtain ⟨hc0, hc1, hc2, hc3⟩ := pg_cells hk1; have HW1 := kp hw1; clear hg1 hk1 hw1)
        go_ret
        exact ⟨ret_int HE.out, HW1.out⟩
      · by_cases h4 : c = 102
        · have HE : Kept ((p.len : Int) = r) := kp <| by rw [← HRr.out]; unfold Q.size; rw [if_neg h1, if_neg h2, if_neg h3, if_pos h4]
          subst h4
          go_enter Try.func46, Try.ntmps46
          go_wp2_with ((with_reducible refine wpList_box_agg rfl 24 (.tmp 0) rfl (pgC p) rfl ?_); intro g1 w1 hg1 hk1 hw1; obtain ⟨hc0, hc1, hc2, hc3⟩ := pg_cells hk1; have HW1 := kp hw1; clear hg1 hk1 hw1)
          go_ret
          exact ⟨ret_int HE.out, HW1.out⟩
        · by_cases h5 : c = 110
          · have HE : Kept (max nodes 1 = r) := kp <| by rw [← HRr.out]; unfold Q.size; rw [if_neg h1, if_neg h2, if_neg h3, if_neg h4, if_pos h5]
            subst h5
            go_enter Try.func46, Try.ntmps46
            go_wp2_with ((with_reducible refine wpList_box_agg rfl 24 (.tmp 0) rfl (pgC p) rfl ?_); intro g1 w1 hg1 hk1 hw1; obtain ⟨hc0, hc1, hc2, hc3⟩ := pg_cells hk1; have HW1 := kp hw1; clear hg1 hk1 hw1)
            all_goals go_ret
            all_goals exact ⟨ret_int (by rw [← HE.out]; omega), HW1.out⟩
          · have HE : Kept (1 = r) := kp <| by rw [← HRr.out]; unfold Q.size; rw [if_neg h1, if_neg h2, if_neg h3, if_neg h4, if_neg h5]
            have e1 : ((c : Int) == 103) = false := by simp; omega
            have e2 : ((c : Int) == 108) = false := by simp; omega
            have e3 : ((c : Int) == 115) = false := by simp; omega
            have e4 : ((c : Int) == 102) = false := by simp; omega
            have e5 : ((c : Int) == 110) = false := by simp; omega
            clear h1 h2 h3 h4 h5
            go_enter Try.func46, Try.ntmps46
            go_wp2_with ((with_reducible refine wpList_box_agg rfl 24 (.tmp 0) rfl (pgC p) rfl ?_); intro g1 w1 hg1 hk1 hw1; obtain ⟨hc0, hc1, hc2, hc3⟩ := pg_cells hk1; have HW1 := kp hw1; clear hg1 hk1 hw1)
            go_ret
            exact ⟨ret_int HE.out, HW1.out⟩

theorem pg_size : (Try.prog.info? 24).map (·.size) = some 4 := by kernel_rfl

set_option maxRecDepth 100000 in
set_option maxHeartbeats 1600000 in
theorem ref_may (p : Pg) (x : Nd) (hx : x.Ok) (nodes : Int) (hn : I64 nodes) (r : Bool) (hr : Q.may p.g p.l p.s p.len x nodes = r) (w : World) :
    Calls Try.prog 29 #[pgA p, ndA x, .int .i64 nodes] w fun e w' => e = .returned (.bool r) ∧ Below w.heap.size w w' := by
  have HR := kp hr; have HX := kp hx; have HNd := kp hn
  obtain ⟨s, hs⟩ : ∃ s, rowB x.kind = s := ⟨_, rfl⟩
  have HS := kp hs
  clear hr hx hn hs
  rw [pgA_is, show ndA x = .agg (ndC x).toArray from rfl]
  by_cases hk : x.kind < 0 ∨ 9 < x.kind
  · have HE : Kept (false = r) := kp <| by rw [← HR.out]; unfold Q.may Q.row; rw [if_pos hk]; rfl
    have hse : s = ⟨#[]⟩ := by rw [← HS.out]; unfold rowB; rw [if_pos hk]
    subst hse
    clear hk
    go_enter Try.func29, Try.ntmps29
    go_wp2_with (first
      | ((with_reducible refine wpList_box_agg rfl 24 (.tmp 0) rfl (pgC p) rfl ?_); intro g1 w1 hg1 hk1 hw1; have HW1 := kp hw1; have hs1 := hw1.size; clear hg1 hk1 hw1)
      | ((with_reducible refine wpList_box_agg rfl 47 (.tmp 1) rfl (ndC x) rfl ?_); intro g2 w2 hg2 hk2 hw2; obtain ⟨hc0, hc1, hc2, hc3⟩ := nd_cells hk2; have HW2 := kp (HW1.out.trans (hw2.mono hs1)); have hs2 := HW2.out.size; clear hg2 hk2 hw2)
      | (go_at_call 45; go_must (refine (ref_row x.kind HX.out.kind _ HS.out _).mono ?_); rintro e w3 ⟨rfl, hw3⟩; have HW3 := kp (HW2.out.trans (hw3.mono hs2)); clear hw3))
    go_ret
    exact ⟨ret_bool HE.out, HW3.out⟩
  · have hk0 : 0 ≤ x.kind := by omega
    have hk9 : x.kind ≤ 9 := by omega
    obtain ⟨hs3, hrow⟩ := rowB_size x.kind hk0 hk9
    have HAt : Kept (∀ (i : Nat) (hi : i < s.size), i < 3 → s[i].toNat = (Q.row x.kind).getD i 0) := kp fun i hi h3 => by
      have hs := HS.out
      subst hs
      exact rowB_at x.kind hk0 hk9 i h3 hi
    rw [HS.out] at hs3
    have HMay : Kept (((List.range 3).all fun i => decide (0 ≤ (Q.fields x).getD i 0 ∧ (Q.fields x).getD i 0 < Q.size p.g p.l p.s p.len ((Q.row x.kind).getD i 0) nodes)) = r) := kp <| by rw [← HR.out]; unfold Q.may; rw [decide_eq_true hrow]; rfl
    have hse : s.toList.isEmpty = false := by rw [← HS.out]; exact rowB_full x.kind hk0 hk9
    clear hk hk0 hk9 hrow
    go_enter Try.func29, Try.ntmps29
    go_wp2_with (first
      | ((with_reducible refine wpList_box_agg rfl 24 (.tmp 0) rfl (pgC p) rfl ?_); intro g1 w1 hg1 hk1 hw1; have HK0 := kp hk1; have HW1 := kp hw1; have hs1 := hw1.size; clear hg1 hk1 hw1)
      | ((with_reducible refine wpList_box_agg rfl 47 (.tmp 1) rfl (ndC x) rfl ?_); intro g2 w2 hg2 hk2 hw2; have HK2 := kp hk2; obtain ⟨hc0, hc1, hc2, hc3⟩ := nd_cells hk2; have HW2 := kp (HW1.out.trans (hw2.mono hs1)); have HK1 := kp (HK0.out.below hw2 HK0.out.lt); have hs2 := HW2.out.size; clear hg2 hk2 hw2)
      | (go_at_call 45; go_must (refine (ref_row x.kind HX.out.kind _ HS.out _).mono ?_); rintro e w3 ⟨rfl, hw3⟩; obtain ⟨hd0, hd1, hd2, hd3⟩ := nd_cells (HK2.out.below hw3 HK2.out.lt); have HK3 := kp (HK1.out.below hw3 HK1.out.lt); have HW3 := kp (HW2.out.trans (hw3.mono hs2)); have hs3' := HW3.out.size; clear hw3 hc0 hc1 hc2 hc3))
    obtain ⟨w4, e4, hm4, hb4⟩ : ∃ w4, w3.alloc (.cells #[.int .i64 x.arg, .int .i64 x.next, .int .i64 x.alt] 3) = w4 ∧ Row intV w4 w4.heap.size (some ⟨w3.heap.size, 0, none⟩) 3 (Q.fields x) ∧ Below w3.heap.size w3 w4 := ⟨_, rfl, Row.made intV w3 (Q.fields x) #[.int .i64 x.arg, .int .i64 x.next, .int .i64 x.alt] rfl 3, (Below.refl _ _).alloc (Nat.le_refl _) _⟩
    rw [e4]
    have HK4 := kp (HK3.out.below hb4 HK3.out.lt)
    have HW4 := kp (HW3.out.trans (hb4.mono hs3'))
    have HM4 := kp hm4
    have hs4 := HW4.out.size
    have hgw : w3.heap.size < w4.heap.size := by rw [← e4]; simp
    clear e4 hm4 hb4 hd0 hd1 hd2 hd3 HK0 HK2 HK3
    have HK1 := HK4
    go_loopw [9] (fun v9 wr => ∃ i : Nat, i ≤ 3 ∧ v9 = .int .i64 i ∧ Below w4.heap.size w4 wr ∧ ((List.range i).all fun i => decide (0 ≤ (Q.fields x).getD i 0 ∧ (Q.fields x).getD i 0 < Q.size p.g p.l p.s p.len ((Q.row x.kind).getD i 0) nodes)) = true) (fun v9 _ => 3 - (intOf v9).toNat)
    case atStart => exact ⟨0, by omega, rfl, Below.refl _ _, rfl⟩
    case round =>
      obtain ⟨i, hi, rfl, hbl, hall⟩ := hrel
      have hblz := hbl.size
      have HBL := kp hbl; have HAll := kp hall
      have HK1 := kp (HK4.out.below hbl HK4.out.lt)
      clear hall hbl
      by_cases hlt : i < 3
      · obtain ⟨y, hy⟩ : ∃ y, (Q.fields x)[i]? = some y := ⟨_, List.getElem?_eq_getElem (by show i < 3; exact hlt)⟩
        have hyd : (Q.fields x).getD i 0 = y := by rw [List.getD_eq_getElem?_getD, hy]; rfl
        obtain ⟨c, hc⟩ : ∃ c, (Q.row x.kind).getD i 0 = c := ⟨_, rfl⟩
        have hsi : i < s.size := by omega
        have hch : s[i].toNat = c := by rw [HAt.out i hsi hlt, hc]
        obtain ⟨m, hm⟩ : ∃ m, Q.size p.g p.l p.s p.len c nodes = m := ⟨_, rfl⟩
        have HSz := kp hm
        obtain ⟨d, hd⟩ : ∃ d, decide (0 ≤ y ∧ y < m) = d := ⟨_, rfl⟩
        have HNx : Kept (((List.range (i + 1)).all fun i => decide (0 ≤ (Q.fields x).getD i 0 ∧ (Q.fields x).getD i 0 < Q.size p.g p.l p.s p.len ((Q.row x.kind).getD i 0) nodes)) = d) := kp <| by
          rw [List.range_succ, List.all_append, HAll.out]
          simp only [List.all_cons, List.all_nil, Bool.and_true, Bool.true_and]
          rw [hyd, hc, hm, hd]
        have HNo : Kept (d = false → false = r) := kp fun h => by
          rw [← HMay.out]
          symm
          rw [List.all_eq_false]
          refine ⟨i, List.mem_range.2 hlt, ?_⟩
          rw [hyd, hc, hm, hd, h]
          decide
        have HY := kp hy; have HD := kp hd
        have HCh := kp hch
        clear hy hyd hc hm hd
        go_wp2
        apply region_list (.is _ :: .is _ :: .is _ :: .is _ :: .is _ :: .is _ :: .is _ :: [])
          [[], [], [], [(1, 28), (2, 29)], [], [(0, 27), (3, 30), (4, 31)], [(5, 32)]]
          [(0, 27), (1, 28), (2, 29), (3, 30), (4, 31), (5, 32), (6, 10)] (by kernel_rfl) (by kernel_rfl)
        case hob =>
          refine ⟨?o0, ?o1, ?o2, ?o3, ?o4, ?o5, ?o6, trivial⟩
          case o0 =>
            intro W hW; change wpList _ _ _ _ _ _
            refine wpList_load_blk rfl 24 (.tmp 3) rfl g1 rfl _ (pgC p) _ (HK1.out.below hW HK1.out.lt) Try.underlying24 rfl pg_size ?_
            go_wp2; exact pure_post rfl rfl rfl
          case o1 => intro W hW; change wpList _ _ _ _ _ _; go_wp2; exact pure_post rfl rfl rfl
          case o2 => intro W hW; change wpList _ _ _ _ _ _; go_wp2; exact pure_post rfl rfl rfl
          case o3 => intro W hW; rintro _ rfl; rintro _ rfl; change wpList _ _ _ _ _ _; go_wp2; exact pure_post rfl rfl rfl
          case o4 => intro W hW; change wpList _ _ _ _ _ _; go_wp2; exact pure_post rfl rfl rfl
          case o5 =>
            intro W hW; rintro _ rfl; rintro _ rfl; rintro _ rfl; change wpList _ _ _ _ _ _
            go_wp2_with (go_at_call 46; go_must (refine (ref_size p c nodes HNd.out _).mono ?_); rintro e2 w9 ⟨rfl, hw9⟩)
            exact made_post rfl rfl rfl hw9 rfl
          case o6 => intro W hW; rintro _ rfl; change wpList _ _ _ _ _ _; go_wp2; exact pure_post rfl rfl rfl
        case hend =>
          intro W hW; rintro _ rfl; rintro _ rfl; rintro _ rfl; rintro _ rfl; rintro _ rfl; rintro _ rfl; rintro _ rfl
          simp only [given, put_lit, List.set]
          have hcy : W.cell? ((⟨w3.heap.size, 0, none⟩ : Addr).add i) = some (.int .i64 y) := by
            have h1 := HM4.out.cells (by omega)
            obtain ⟨ad, e1, hb, hcs⟩ := h1
            cases e1
            have hB : (((⟨w3.heap.size, 0, none⟩ : Addr).add i)).block < w4.heap.size := by rw [add_block]; exact hgw
            rw [hW.cell (by omega), HBL.out.cell hB, hcs i hlt, HY.out]
            rfl
          rw [add_start] at hcy
          have HBW : Kept (Below w4.heap.size w4 W) := kp (HBL.out.trans (hW.mono hblz))
          by_cases hd : 0 ≤ y ∧ y < m
          · obtain ⟨hd1, hd2⟩ := hd
            have hdt : d = true := by rw [← HD.out, decide_eq_true ⟨hd1, hd2⟩]
            rw [HSz.out]
            go_wp2
            go_roundw
            case rel => exact ⟨i + 1, by omega, by go_num, HBW.out, by rw [HNx.out, hdt]⟩
            case measure => simp [intOf]; omega
          · have hdf : d = false := by rw [← HD.out, decide_eq_false hd]
            have HE := kp (HNo.out hdf)
            rw [HSz.out]
            have HBF := kp (HW4.out.trans (HBW.out.mono hs4))
            by_cases hy0 : y < 0
            · clear hd
              go_wp2
              go_ret
              exact ⟨ret_bool HE.out, HBF.out⟩
            · have hym : m ≤ y := by omega
              clear hd
              go_wp2
              go_ret
              exact ⟨ret_bool HE.out, HBF.out⟩
      · have hge : 3 ≤ i := by omega
        have HE : Kept (true = r) := kp <| by rw [← HMay.out, ← HAll.out, show i = 3 by omega]
        clear hlt
        go_wp2
        go_ret
        exact ⟨ret_bool HE.out, HW4.out.trans (HBL.out.mono hs4)⟩
end Go.Proofs.Ytkblgafackmckaa

/- More of rows: copy into a block, make with room behind, a value built by its own run. -/
namespace Go.Proofs.Ytkblgafackmckaa
open Go.RowKit

/-- copy into the middle of a block; something is copied. -/
theorem wpList_copy_blk {P : Program} {w : World} {ops : Array Oper} {rest : List Oper} {o : Oper} {a : Act} {Q : Exit → Act → World → Prop} (hgd : o.guard = none) (d s : Operand) (dT sT : TypeId)
    (ho : o.op = .call { callee := .builtin .copy, args := #[d, s], argTypes := #[dT, sT] }) (elem : TypeId) (hu : P.underlying dT = some (.slice elem)) (hsz : (P.info? elem).map (·.size) = some 1)
    (g off dLen dCap : Nat) (ad : Addr) (sLen sCap : Nat) (hd : a.eval d = .slice (some ⟨g, off, none⟩) dLen dCap) (hs : a.eval s = .slice (some ad) sLen sCap)
    (t : TypeId) (cur : List Value) (hg : Blk w g t cur) (cs : List Value) (m : Nat) (hm : cs.length = m) (hn : m = Nat.min sLen dLen)
    (hsrc : ∀ j v, cs[j]? = some v → w.cell? (ad.add j) = some v) (hfit : off + m ≤ cur.length) (h1 : ∀ v ∈ cs, v.oneCell' = true)
    (h : ∀ w', Blk w' g t (splice cur off cs) → w.grownBy w' (some g) → wpList P ops Q rest (a.put o.dst (goInt m)) w') : wpList P ops Q (o :: rest) a w := by
  subst hm
  exact wpList_copy_own hgd d s dT sT ho elem hu hsz g off dLen dCap ad sLen sCap hd hs cur.toArray t hg cs hn hsrc (by simpa using hfit) h1
    (h _ (by have := setRow_heap w g _ (splice cur off cs).toArray t _ hg; simpa [Blk, splice] using this) ⟨rfl, rfl, rfl, by simp, fun i _ hne => setRow_other w g i _ (by intro e; exact hne (by rw [e]))⟩)
/-- A new slice of one-cell elements, all zero, with room behind. -/
theorem wpList_make_blk {P : Program} {ops : Array Oper} {rest : List Oper} {o : Oper} {a : Act} {w : World} {Q : Exit → Act → World → Prop} (hgd : o.guard = none) (t : TypeId) (l c : Operand) (ho : o.op = .makeSlice t l c)
    (e : TypeId) (z : Value) (bytes : Nat) (ht : P.underlying t = some (.slice e)) (hi : (P.info? e).map (fun i => (i.zero, i.size, i.bytes)) = some (some z, 1, bytes)) (hz1 : z.cells = #[z])
    (kl kc : IntKind) (n m : Nat) (hl : a.eval l = .int kl (n : Int)) (hc : a.eval c = .int kc (m : Int)) (hnm : n ≤ m) (hb : bytes * m ≤ 281474976710656) (h63 : m ≤ 9223372036854775807)
    (h : ∀ g w', w.heap.size ≤ g → Blk w' g e (List.replicate m z) → Below w.heap.size w w' → wpList P ops Q rest (a.put o.dst (.slice (some ⟨g, 0, none⟩) n m)) w') : wpList P ops Q (o :: rest) a w := by
  refine wpList_plain hgd fun K hK => ?_
  obtain ⟨i, hi0, hzz⟩ := Option.map_eq_some_iff.1 hi
  simp only [Prod.mk.injEq] at hzz
  obtain ⟨hz, hs, hbb⟩ := hzz
  have hb' : (i.bytes : Int) * (m : Int) ≤ 281474976710656 := by
    have h : ((i.bytes * m : Nat) : Int) ≤ 281474976710656 := by rw [hbb]; omega
    rwa [Int.natCast_mul] at h
  have hr := run_make (P := P) w t e i z ht hi0 hz kl kc n m (by omega) (by omega) hb' (by omega)
  simp only [Int.toNat_natCast, hs, Nat.mul_one, hz1] at hr
  have hmc : madeCells #[z] m = (List.replicate m z).toArray := by
    apply Array.ext
    · simp [madeCells]
    · intro k h1 h2
      simp [madeCells, Nat.mod_one]
  unfold Oper.wp
  simp [execOp, ho, hl, hc, hr, Result.andThen]
  exact hK _ _ (h _ _ (Nat.le_refl _) (Blk.newAt hmc rfl) ((Below.refl _ _).alloc (Nat.le_refl _) _))
/-- A value that is built, by its own run. -/
theorem wpList_build_run {P : Program} {ops : Array Oper} {rest : List Oper} {o : Oper} {a : Act} {w : World} {Q : Exit → Act → World → Prop} (hgd : o.guard = none) (t : TypeId) (ps : Array (Nat × Operand)) (ho : o.op = .build t ps)
    (qs : Array (Nat × Value)) (hq : ps.map (fun (i, x) => (i, a.eval x)) = qs) (v : Value) (hrun : ∀ w, (Instr.build t qs).run P w = .ok v w)
    (h : wpList P ops Q rest (a.put o.dst v) w) : wpList P ops Q (o :: rest) a w := by
  refine wpList_plain hgd fun K hK => ?_
  subst hq
  unfold Oper.wp execOp
  simp only [ho, hrun, Sem.run_bind, Sem.run_pure, Result.andThen_ok]
  exact hK _ _ h
/-- A block that the call made, as a slice of its own. -/
theorem Blk.own {w : World} {g B : Nat} {e : TypeId} {cs xs : List Value} {cap : Nat} (h : Blk w g e cs) (hB : B ≤ g) (hc : cs.length = cap) (hn : xs.length ≤ cap) (hm : cap ≤ maxLen) (hx : cs.take xs.length = xs) :
    Own w B e (.slice (some ⟨g, 0, none⟩) xs.length cap) xs :=
  ⟨by simp, .inr ⟨g, cap, cs.toArray, rfl, hB, h, hn, hm, by simpa using hc, by simpa using hx⟩⟩
end Go.Proofs.Ytkblgafackmckaa

/- Who comes to whom, by a matrix that is closed step by step: nothing here speaks of the program. -/
namespace Go.Proofs.Ytkblgafackmckaa.Q

/-- By steps, all but the last one within n. -/
inductive Reach (R : Nat → Nat → Prop) (n : Nat) : Nat → Nat → Prop
  | one {x y : Nat} : R x y → Reach R n x y
  | more {x j y : Nat} : R x j → j < n → Reach R n j y → Reach R n x y
theorem Reach.trans {R : Nat → Nat → Prop} {n x j y : Nat} (h : Reach R n x j) (hj : j < n) (k : Reach R n j y) : Reach R n x y := by
  induction h with
  | one h => exact .more h hj k
  | more h hl _ ih => exact .more h hl (ih hj k)
/-- By steps within k. -/
def Via (R : Nat → Nat → Prop) : Nat → Nat → Nat → Prop
  | 0 => R
  | k + 1 => fun x y => Via R k x y ∨ (Via R k x k ∧ Via R k k y)
theorem via_base {R : Nat → Nat → Prop} {x y : Nat} (h : R x y) : ∀ k, Via R k x y
  | 0 => h
  | k + 1 => .inl (via_base h k)
theorem via_trans {R : Nat → Nat → Prop} : ∀ (k j x y : Nat), j < k → Via R k x j → Via R k j y → Via R k x y
  | 0, j, _, _, hj, _, _ => by omega
  | k + 1, j, x, y, hj, h1, h2 => by
    rcases Nat.lt_or_ge j k with hlt | hge
    · rcases h1 with h1 | ⟨h1, h1'⟩
      · rcases h2 with h2 | ⟨h2, h2'⟩
        · exact .inl (via_trans k j x y hlt h1 h2)
        · exact .inr ⟨via_trans k j x k hlt h1 h2, h2'⟩
      · rcases h2 with h2 | ⟨_, h2'⟩
        · exact .inr ⟨h1, via_trans k j k y hlt h1' h2⟩
        · exact .inr ⟨h1, h2'⟩
    · have e : j = k := by omega
      subst e
      have a : Via R j x j := by rcases h1 with h1 | ⟨h1, _⟩ <;> exact h1
      have b : Via R j j y := by rcases h2 with h2 | ⟨_, h2⟩ <;> exact h2
      exact .inr ⟨a, b⟩
theorem via_reach {R : Nat → Nat → Prop} {n : Nat} : ∀ (k x y : Nat), k ≤ n → Via R k x y → Reach R n x y
  | 0, _, _, _, h => .one h
  | k + 1, x, y, hk, h => by
    rcases h with h | ⟨h, h'⟩
    · exact via_reach k x y (by omega) h
    · exact (via_reach k x k (by omega) h).trans (by omega) (via_reach k k y (by omega) h')
theorem reach_via {R : Nat → Nat → Prop} {n x y : Nat} (h : Reach R n x y) : Via R n x y := by
  induction h with
  | one h => exact via_base h n
  | more h hj _ ih => exact via_trans n _ _ _ hj (via_base h n) ih

/-- An entry of a matrix. -/
def mget (M : List (List Nat)) (a b : Nat) : Nat := (M.getD a []).getD b 0
def mset (M : List (List Nat)) (a b : Nat) : List (List Nat) := M.set a ((M.getD a []).set b 1)
def Square (n : Nat) (M : List (List Nat)) : Prop := M.length = n ∧ ∀ r ∈ M, r.length = n
theorem Square.row {n : Nat} {M : List (List Nat)} (h : Square n M) {a : Nat} (ha : a < n) : ∃ r, M[a]? = some r ∧ r.length = n ∧ M.getD a [] = r := by
  have hl : a < M.length := by rw [h.1]; exact ha
  exact ⟨M[a], List.getElem?_eq_getElem hl, h.2 _ (List.getElem_mem hl), by rw [List.getD_eq_getElem?_getD, List.getElem?_eq_getElem hl]; rfl⟩
theorem mset_square {n : Nat} {M : List (List Nat)} (h : Square n M) {a b : Nat} (ha : a < n) : Square n (mset M a b) := by
  obtain ⟨r, _, hr, e⟩ := h.row ha
  refine ⟨by unfold mset; rw [List.length_set]; exact h.1, fun x hx => ?_⟩
  unfold mset at hx
  rcases List.mem_or_eq_of_mem_set hx with hx | hx
  · exact h.2 x hx
  · rw [hx, List.length_set, e, hr]
theorem mget_mset {n : Nat} {M : List (List Nat)} (h : Square n M) {a b : Nat} (ha : a < n) (hb : b < n) (x y : Nat) : mget (mset M a b) x y = if x = a ∧ y = b then 1 else mget M x y := by
  obtain ⟨r, hra, hr, e⟩ := h.row ha
  have hl : a < M.length := by rw [h.1]; exact ha
  unfold mget mset
  rw [e]
  by_cases hx : x = a
  · subst hx
    have h1 : (M.set x (r.set b 1)).getD x [] = r.set b 1 := by rw [List.getD_eq_getElem?_getD, List.getElem?_set_self hl]; rfl
    rw [h1, e]
    by_cases hy : y = b
    · subst hy
      rw [if_pos ⟨rfl, rfl⟩, List.getD_eq_getElem?_getD, List.getElem?_set_self (by rw [hr]; exact hb)]
      rfl
    · rw [if_neg (by intro h; exact hy h.2), List.getD_eq_getElem?_getD, List.getElem?_set_ne (by omega), ← List.getD_eq_getElem?_getD]
  · have h2 : (M.set a (r.set b 1)).getD x [] = M.getD x [] := by rw [List.getD_eq_getElem?_getD, List.getElem?_set_ne (by omega), ← List.getD_eq_getElem?_getD]
    rw [if_neg (by intro h; exact hx h.1), h2]

/-- The matrix on its way: in round k, all ahead of (a, b) done. -/
structure Closing (R : Nat → Nat → Prop) (n k a b : Nat) (M : List (List Nat)) : Prop where
  sq : Square n M
  sound : ∀ x y, x < n → y < n → mget M x y = 1 → Reach R n x y
  base : ∀ x y, x < n → y < n → Via R k x y → mget M x y = 1
  done : ∀ x y, x < n → y < n → (x < a ∨ (x = a ∧ y < b)) → Via R k x k → Via R k k y → mget M x y = 1
theorem Closing.set {R : Nat → Nat → Prop} {n k a b : Nat} {M : List (List Nat)} (h : Closing R n k a b M) (hk : k < n) (ha : a < n) (hb : b < n) (h1 : mget M a k = 1) (h2 : mget M k b = 1) : Closing R n k a (b + 1) (mset M a b) := by
  refine ⟨mset_square h.sq ha, fun x y hx hy e => ?_, fun x y hx hy v => ?_, fun x y hx hy hlt v1 v2 => ?_⟩
  · rw [mget_mset h.sq ha hb] at e
    split at e
    · rename_i hxy
      rw [hxy.1, hxy.2]
      exact (h.sound a k ha hk h1).trans hk (h.sound k b hk hb h2)
    · exact h.sound x y hx hy e
  · rw [mget_mset h.sq ha hb]
    split
    · rfl
    · exact h.base x y hx hy v
  · rw [mget_mset h.sq ha hb]
    split
    · rfl
    · rename_i hxy
      exact h.done x y hx hy (by omega) v1 v2
theorem Closing.skip {R : Nat → Nat → Prop} {n k a b : Nat} {M : List (List Nat)} (h : Closing R n k a b M) (hk : k < n) (h1 : ¬ (mget M a k = 1 ∧ mget M k b = 1)) : Closing R n k a (b + 1) M := by
  refine ⟨h.sq, h.sound, h.base, fun x y hx hy hlt v1 v2 => ?_⟩
  by_cases e : x = a ∧ y = b
  · exfalso
    obtain ⟨rfl, rfl⟩ := e
    exact h1 ⟨h.base x k hx hk v1, h.base k y hk hy v2⟩
  · exact h.done x y hx hy (by omega) v1 v2
theorem Closing.line {R : Nat → Nat → Prop} {n k a : Nat} {M : List (List Nat)} (h : Closing R n k a n M) : Closing R n k (a + 1) 0 M :=
  ⟨h.sq, h.sound, h.base, fun x y hx hy _ v1 v2 => h.done x y hx hy (by omega) v1 v2⟩
theorem Closing.round {R : Nat → Nat → Prop} {n k : Nat} {M : List (List Nat)} (h : Closing R n k n 0 M) : Closing R n (k + 1) 0 0 M :=
  ⟨h.sq, h.sound, fun x y hx hy v => by
    rcases v with v | ⟨v1, v2⟩
    · exact h.base x y hx hy v
    · exact h.done x y hx hy (by omega) v1 v2, fun x y _ _ hlt _ _ => by omega⟩
theorem Closing.end_ {R : Nat → Nat → Prop} {n : Nat} {M : List (List Nat)} (h : Closing R n n 0 0 M) (x y : Nat) (hx : x < n) (hy : y < n) : mget M x y = 1 ↔ Reach R n x y :=
  ⟨h.sound x y hx hy, fun r => h.base x y hx hy (reach_via r)⟩
theorem Closing.start {R : Nat → Nat → Prop} {n : Nat} {M : List (List Nat)} (hs : Square n M) (h : ∀ x y, x < n → y < n → (mget M x y = 1 ↔ R x y)) : Closing R n 0 0 0 M :=
  ⟨hs, fun x y hx hy e => .one ((h x y hx hy).1 e), fun x y hx hy v => (h x y hx hy).2 v, fun x y _ _ hlt _ _ => by omega⟩
end Go.Proofs.Ytkblgafackmckaa.Q
