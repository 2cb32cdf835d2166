/- SemR7, SemR8, SemDoc, in one text. -/
import Derived.Test.YtkblgafackmckaaPr1
import Derived.Test.YtkblgafackmckaaPr3
import Derived.Test.YtkblgafackmckaaPr2
import Derived.Test.YtkblgafackmckaaSemTwo
import Derived.Test.YtkblgafackmckaaPq13
/- The document's interpreter, walked: Step, whatever the pick. -/
namespace Go.Proofs.Ytkblgafackmckaa
open Go.RowKit

theorem rs_step (B : Nat) (p : Pg) (hf : Fine p) (q : Rc) (w : World) (hp : p.Ok w B) (hq : q.Ok w B) (hg : M.Good p q.cf) (hB : B ≤ w.heap.size) (t : Int) (ht : I64 t) (way : Bool) :
    Calls Try.prog 25 #[rcA q, pgA p, .agg #[.int .i64 t, .bool way]] w (StepR w (M.step p q.cf t way)) := by
  cases hen : M.enabled p q.cf t with
  | false => rw [M.step_same hen]; exact rs_step_no B p hf q w hp hq hg hB t ht way hen
  | true =>
    have h0 := (M.enabled_split hen).1
    obtain ⟨k, rfl⟩ : ∃ k : Nat, t = (k : Int) := ⟨t.toNat, by omega⟩
    have henN : M.enabledN p q.cf k = true := by have h := (M.enabled_split hen).2; rwa [Int.toNat_natCast] at h
    have hlN := M.enabled_lives henN
    obtain ⟨fn, hfn, _, _⟩ := M.node_is hg hlN
    have hfit := (M.node_fit hf hg hlN hfn).kind
    have hst : M.step p q.cf (k : Int) way = M.act q.cf k (M.node p q.cf k) way := by unfold M.step; rw [if_pos hen, Int.toNat_natCast]
    rw [hst]
    obtain ⟨x, hx⟩ : ∃ x, M.node p q.cf k = x := ⟨_, rfl⟩
    rw [hx] at hfit ⊢
    by_cases h9 : x.kind = 9
    · exact rs_step_9 B p hf q w hp hq hg hB k way hlN hen x hx h9
    by_cases h3 : x.kind = 3
    · exact rs_step_3 B p hf q w hp hq hg hB k way hlN hen x hx h3
    by_cases h4 : x.kind = 4
    · by_cases ho : q.ow.getD x.arg.toNat 0 = k + 1
      · exact rs_step_4y B p hf q w hp hq hg hB k way hlN hen x hx h4 ho
      · exact rs_step_4n B p hf q w hp hq hg hB k way hlN hen x hx h4 ho
    by_cases h5 : x.kind = 5
    · exact rs_step_5 B p hf q w hp hq hg hB k way hlN hen x hx h5
    by_cases h7 : x.kind = 7
    · exact rs_step_7 B p hf q w hp hq hg hB k way hlN hen x hx h7
    by_cases h8 : x.kind = 8
    · cases way with
      | false => exact rs_step_8f B p hf q w hp hq hg hB k false hlN hen x hx h8 rfl
      | true => exact rs_step_8t B p hf q w hp hq hg hB k true hlN hen x hx h8 rfl
    exact rs_step_go B p hf q w hp hq hg hB k way hlN hen x hx ⟨h3, h4, h5, h7, h8, h9⟩
end Go.Proofs.Ytkblgafackmckaa

/- The document's interpreter, walked: Start. -/
namespace Go.Proofs.Ytkblgafackmckaa
open Go.RowKit

theorem built_start (A : Option Addr) (n c : Nat) (A2 : Option Addr) (n2 c2 : Nat) : Try.prog.built 40 [(0, .slice A n c), (1, .slice A2 n2 c2)] = some (Value.slice A n c :: .slice A2 n2 c2 :: zeros 16).toArray := by kernel_rfl

theorem start_ones (A : Option Addr) (n c : Nat) (A2 : Option Addr) (n2 c2 : Nat) : ∀ u ∈ Value.slice A n c :: .slice A2 n2 c2 :: zeros 16, u.oneCell' = true := by
  intro u hu
  rcases List.mem_cons.1 hu with rfl | hu
  · rfl
  rcases List.mem_cons.1 hu with rfl | hu
  · rfl
  · rw [List.eq_of_mem_replicate hu]; rfl
theorem zeros16 : zeros 16 = (List.replicate 16 0 : List Nat).map natV := by rfl
theorem zeros8c : zeros 8 = cellsR 8 slV [List.replicate 8 0] := by rfl
/-- A config of one thread. -/
def rcOne (gF gM gZ : Nat) : Rc := ⟨some ⟨gM, 0, none⟩, 1, [⟨some ⟨gF, 0, none⟩, 1, 1, [(0, 0)]⟩], some ⟨gZ, 0, none⟩, 1, [List.replicate 8 0], 1, List.replicate 16 0⟩
theorem rcOne_cells (gF gM gZ : Nat) : rcC (rcOne gF gM gZ) = Value.slice (some ⟨gM, 0, none⟩) 1 1 :: .slice (some ⟨gZ, 0, none⟩) 1 1 :: zeros 16 := by unfold rcC rcOne; rw [zeros16]
theorem rcOne_mine {w : World} {B gF gM gZ : Nat} (hF : Blk w gF 68 [.int .i64 ((0 : Nat) : Int), .int .i64 0]) (hM : Blk w gM 66 [.slice (some ⟨gF, 0, none⟩) 1 1]) (hZ : Blk w gZ 61 (zeros 8)) (h1 : B ≤ gF) (h2 : B ≤ gM) (h3 : B ≤ gZ) : RMine w B (rcOne gF gM gZ) := by
  have e1 : gF ≠ gM := fun e => by subst e; exact blk_types hF hM (by decide)
  have e2 : gF ≠ gZ := fun e => by subst e; exact blk_types hF hZ (by decide)
  have e3 : gM ≠ gZ := fun e => by subst e; exact blk_types hM hZ (by decide)
  refine ⟨OwnR.of_blk hM h2 rfl (Nat.le_refl _) (show 1 ≤ maxLen by unfold maxLen; omega) rfl rfl, OwnR.of_blk hZ h3 rfl (Nat.le_refl _) (show 1 ≤ maxLen by unfold maxLen; omega) rfl (by rw [zeros8c]; rfl), ⟨fun k x hx => ?_, fun k x b hx hb hs => ?_, fun j k x y b hx hy hj hk => ?_⟩, fun b hb hb2 => ?_⟩
  · have hk : k = 0 := by have := (List.getElem?_eq_some_iff.1 hx).1; simp [rcOne] at this; omega
    subst hk
    have e : x = ⟨some ⟨gF, 0, none⟩, 1, 1, [(0, 0)]⟩ := (Option.some.inj hx).symm
    subst e
    exact own_new hF h1
  · have hk : k = 0 := by have := (List.getElem?_eq_some_iff.1 hx).1; simp [rcOne] at this; omega
    subst hk
    have e : x = ⟨some ⟨gF, 0, none⟩, 1, 1, [(0, 0)]⟩ := (Option.some.inj hx).symm
    subst e
    have eb : gF = b := by injection hb
    rcases hs with hs | hs
    · have : gM = b := by injection hs
      exact e1 (by omega)
    · have : gZ = b := by injection hs
      exact e2 (by omega)
  · have hk1 : j = 0 := by have := (List.getElem?_eq_some_iff.1 hx).1; simp [rcOne] at this; omega
    have hk2 : k = 0 := by have := (List.getElem?_eq_some_iff.1 hy).1; simp [rcOne] at this; omega
    omega
  · have h4 : gM = b := (by injection hb)
    have h5 : gZ = b := (by injection hb2)
    exact e3 (by omega)

set_option maxRecDepth 100000 in
set_option maxHeartbeats 3200000 in
theorem rs_start (w : World) : Calls Try.prog 13 #[] w (StepR w M.start) := by
  unfold StepR
  go_enter Try.func13, Try.ntmps13
  go_wp2_with (first
    | ((with_reducible show wpList _ _ _ (⟨some 0, _, _, _, _, _⟩ :: _) _ _); go_must (refine wpList_alloc_zero rfl 40 rfl _ ref_zero ?_); intro gR w1 hgR hk1 hw1; have HKR1 := kp hk1; have HGR := kp hgR; have HW1 := kp hw1; have hs1 := hw1.size; have hlR1 := hk1.lt; clear hk1 hw1 hgR)
    | ((with_reducible show wpList _ _ _ (⟨some 2, _, _, _, _, _⟩ :: _) _ _); go_must (refine wpList_buildSlice_one rfl 66 68 (.tmp 1) rfl 2 Try.underlying66 rframe_one (by omega) (by omega) _ [.int .i64 0, .int .i64 0] rfl rfl rfl ?_); intro gF w2 hgF hk2 hw2; have HF2 := kp hk2; have HgF := kp (show w.heap.size ≤ gF by omega); have HW2 := kp (HW1.out.trans (hw2.mono hs1)); have HKR2 := kp (HKR1.out.below hw2 hlR1); have hs2 := HW2.out.size; have hlF2 := hk2.lt; have hlR2 := HKR2.out.lt; clear hk2 hw2 hgF)
    | ((with_reducible show wpList _ _ _ (⟨some 3, _, _, _, _, _⟩ :: _) _ _); go_must (refine wpList_buildSlice_one rfl 37 66 (.tmp 2) rfl 1 Try.underlying37 rstacks_one (by omega) (by omega) _ [.slice (some ⟨gF, 0, none⟩) 1 1] rfl rfl rfl ?_); intro gM w3 hgM hk3 hw3; have HM3 := kp hk3; have HgM := kp (show w.heap.size ≤ gM by omega); have HW3 := kp (HW2.out.trans (hw3.mono hs2)); have HKR3 := kp (HKR2.out.below hw3 hlR2); have HF3 := kp (HF2.out.below hw3 hlF2); have hs3 := HW3.out.size; have hlF3 := HF3.out.lt; have hlM3 := hk3.lt; have hlR3 := HKR3.out.lt; clear hk3 hw3 hgM)
    | ((with_reducible show wpList _ _ _ (⟨some 4, _, _, _, _, _⟩ :: _) _ _); go_must (refine wpList_build_zero rfl 61 rfl (zeros 8) 8 3 Try.underlying61 int_info9 slots_zero9 ?_))
    | ((with_reducible show wpList _ _ _ (⟨some 5, _, _, _, _, _⟩ :: _) _ _); go_must (refine wpList_buildSlice_one rfl 38 61 (.tmp 4) rfl 8 Try.underlying38 slots_one (by omega) (by omega) _ (zeros 8) rfl rfl rfl ?_); intro gZ w4 hgZ hk4 hw4; have HZ4 := kp hk4; have HgZ := kp (show w.heap.size ≤ gZ by omega); have HW4 := kp (HW3.out.trans (hw4.mono hs3)); have HKR4 := kp (HKR3.out.below hw4 hlR3); have HF4 := kp (HF3.out.below hw4 hlF3); have HM4 := kp (HM3.out.below hw4 hlM3); have hs4 := HW4.out.size; have HNR : Kept (gR ≠ gF ∧ gR ≠ gM ∧ gR ≠ gZ) := kp ⟨fun e => by rw [e] at HKR4; exact blk_types HKR4.out HF4.out (by decide), fun e => by rw [e] at HKR4; exact blk_types HKR4.out HM4.out (by decide), fun e => by rw [e] at HKR4; exact blk_types HKR4.out HZ4.out (by decide)⟩; clear hk4 hw4 hgZ)
    | ((with_reducible show wpList _ _ _ (⟨some 6, _, _, _, _, _⟩ :: _) _ _); go_must (refine wpList_build_2 rfl 40 0 1 (.tmp 3) (.tmp 5) rfl (.slice (some ⟨gM, 0, none⟩) 1 1) (.slice (some ⟨gZ, 0, none⟩) 1 1) rfl rfl (Value.slice (some ⟨gM, 0, none⟩) 1 1 :: .slice (some ⟨gZ, 0, none⟩) 1 1 :: zeros 16) (built_start _ _ _ _ _ _) ?_))
    | ((with_reducible show wpList _ _ _ (⟨none, _, _, _, _, _⟩ :: _) _ _); go_must (refine wpList_store_blk rfl 40 (.tmp 0) (.tmp 6) rfl gR (Value.slice (some ⟨gM, 0, none⟩) 1 1 :: .slice (some ⟨gZ, 0, none⟩) 1 1 :: zeros 16) rfl rfl _ _ HKR4.out ref_size18 rfl (start_ones _ _ _ _ _ _) ?_); intro w5 hk5 hg5 hs5
       have HK5 := kp (show Blk w5 gR 40 (rcC (rcOne gF gM gZ)) from by rw [rcOne_cells]; exact hk5)
       have HMi := kp (rcOne_mine (HF4.out.grown hg5 (fun e => by cases e; exact HNR.out.1 rfl)) (HM4.out.grown hg5 (fun e => by cases e; exact HNR.out.2.1 rfl)) (HZ4.out.grown hg5 (fun e => by cases e; exact HNR.out.2.2 rfl)) HgF.out HgM.out HgZ.out)
       have HW5 := kp (HW4.out.grown hg5 hs4 (fun k e => by cases e; exact HGR.out)); clear hk5 hg5 hs5)
    | ((with_reducible show bodyPost _ _ _ _ _ _); exact bodyPost_ret (results_blk (P := Try.prog) (fn := Try.f13) rfl _ _ gR 40 _ _ rfl HK5.out Try.underlying40 rfl (by rw [rc_len (q := rcOne gF gM gZ) rfl]; exact ref_size18)) rfl ⟨rcOne gF gM gZ, rfl, HMi.out, rfl, HW5.out⟩))
end Go.Proofs.Ytkblgafackmckaa

/- What SemPlays uses, too: the locks of a thread as the document lists them. -/
namespace Go.Proofs.Ytkblgafackmckaa
open Go.RowKit

def natR (x : Nat) (_ : Nat) : Value := .int .i64 (x : Int)
theorem natR_one (x j : Nat) : (natR x j).oneCell' = true := rfl
theorem natR_row {w : World} {B n : Nat} {A : Option Addr} {l : List Nat} (h : Recs 1 natR w B A n l) : Row natV w B A n l :=
  ⟨h.len, fun h0 => by
    obtain ⟨ad, e, hb, hc⟩ := h.cells h0
    refine ⟨ad, e, hb, fun k hk => ?_⟩
    have hx : l[k]? = some (l[k]'(by rw [h.len]; exact hk)) := List.getElem?_eq_getElem _
    have := hc k _ hx 0 (by omega)
    rw [hx]
    rw [Nat.mul_one, Nat.add_zero] at this
    exact this⟩
/-- The locks among the first k that the owners give to a. -/
def docHeld (o : List Nat) (a : Int) (k : Nat) : List Nat := (List.range k).filter fun j => decide (0 ≤ a ∧ a < 8 ∧ ((o.getD j 0 : Nat) : Int) = a + 1)
theorem docHeld_zero (o : List Nat) (a : Int) : docHeld o a 0 = [] := rfl
theorem docHeld_yes {o : List Nat} {a : Int} {k : Nat} (h : 0 ≤ a ∧ a < 8 ∧ ((o.getD k 0 : Nat) : Int) = a + 1) : docHeld o a (k + 1) = docHeld o a k ++ [k] := by
  unfold docHeld
  rw [List.range_succ, List.filter_append, List.filter_cons, if_pos (by simpa using h), List.filter_nil]
theorem docHeld_no {o : List Nat} {a : Int} {k : Nat} (h : ¬ (0 ≤ a ∧ a < 8 ∧ ((o.getD k 0 : Nat) : Int) = a + 1)) : docHeld o a (k + 1) = docHeld o a k := by
  unfold docHeld
  rw [List.range_succ, List.filter_append, List.filter_cons, if_neg (by simpa using h), List.filter_nil, List.append_nil]
theorem docHeld_len (o : List Nat) (a : Int) (k : Nat) : (docHeld o a k).length ≤ k := by
  unfold docHeld
  exact Nat.le_trans (List.length_filter_le _ _) (by rw [List.length_range]; exact Nat.le_refl _)
theorem docHeld_lt (o : List Nat) (a : Int) (k : Nat) : ∀ x ∈ docHeld o a k, x < k := fun x hx => by
  unfold docHeld at hx
  exact List.mem_range.1 (List.mem_filter.1 hx).1
theorem doc_mask {p : Pg} {c : M.Cf} (hg : M.Good p c) (a : Int) : S.mask (docHeld c.owners a 16) % 4294967296 = M.held c a := by
  have h8 := hg.most
  by_cases h : 0 ≤ a ∧ a < 8
  · obtain ⟨t, rfl⟩ : ∃ t : Nat, a = (t : Int) := ⟨a.toNat, by omega⟩
    have e : docHeld c.owners (t : Int) 16 = (List.range 16).filter fun k => decide (c.owners.getD k 0 = t + 1) := by
      unfold docHeld
      refine List.filter_congr fun k _ => ?_
      rw [decide_eq_decide]
      constructor
      · rintro ⟨_, _, h3⟩; omega
      · intro h3; exact ⟨h.1, h.2, by omega⟩
    rw [e, M.held_mask, Nat.mod_eq_of_lt (Nat.lt_trans (M.held_lt c.owners t 16) (by decide))]
    unfold M.held
    by_cases hl : (t : Int) < (c.ths.length : Int)
    · rw [if_pos ⟨h.1, hl⟩, Int.toNat_natCast]
    · rw [if_neg (fun x => hl x.2)]
      refine Nat.eq_of_testBit_eq fun k => ?_
      rw [M.held_bit, Nat.zero_testBit, decide_eq_false_iff_not]
      rintro ⟨hk, ho⟩
      have hk2 : k < c.owners.length := by rw [hg.owns]; exact hk
      rw [List.getD_eq_getElem?_getD, List.getElem?_eq_getElem hk2] at ho
      have h1 := hg.own _ (List.getElem_mem hk2)
      have h2 : c.owners[k] = t + 1 := ho
      omega
  · have e : docHeld c.owners a 16 = [] := by
      unfold docHeld
      rw [List.filter_eq_nil_iff]
      intro k _ hk
      exact h ⟨(of_decide_eq_true hk).1, (of_decide_eq_true hk).2.1⟩
    rw [e]
    unfold M.held
    rw [if_neg (fun x => h ⟨x.1, by omega⟩)]
    rfl
/-- A config of the document's behind a step. -/
def Fact.rstepped (K : Nat) (c : M.Cf) : Fact :=
  ⟨fun v W => ∃ q', v = rcA q' ∧ RMine W K q' ∧ q'.cf = c, fun _ _ _ hb ⟨q', h1, h2, h3⟩ => ⟨q', h1, h2.below hb (Nat.le_refl _), h3⟩⟩
theorem runTo_end (p : Pg) (l : List (Int × Bool)) (i : Nat) (h : l.length ≤ i) : runTo p l (i + 1) = runTo p l i := by
  unfold runTo
  rw [List.take_of_length_le h, List.take_of_length_le (by omega)]
theorem int_info8 : (Try.prog.info? 3).map (fun i => (i.zero, i.size, i.bytes)) = some (some (.int .i64 0), 1, 8) := by kernel_rfl
theorem at_dead {p : Pg} {c : M.Cf} {t : Int} (h : M.lives c t = false) : atNd p c t = ⟨0, 0, 0, 0⟩ := by unfold atNd; rw [if_neg (by rw [h]; decide)]
theorem at_live {p : Pg} {c : M.Cf} {k : Nat} (h : M.lives c (k : Int) = true) : atNd p c (k : Int) = M.node p c k ∧ M.livesN c k = true := by
  unfold atNd
  rw [if_pos h, Int.toNat_natCast]
  exact ⟨rfl, by rwa [M.lives_nat] at h⟩
end Go.Proofs.Ytkblgafackmckaa
