/- ProgP, ProgLaw1, ProgLaw2, in one text. -/
import Derived.Test.YticifjmkocgipaaPk4
import Derived.Test.YticifjmkocgipaaProgRef5
import Derived.BigQuiet
import Derived.Test.YticifjmkocgipaaPk9
/- What is wrong with a program first, as the program finds it, walked: Check. -/
namespace Go.Proofs.Yticifjmkocgipaa
open Go.RowKit

theorem counts_of {p : Pg} (hlen : p.fns.length = p.len) (h : countsFault p = 0) : Q.Counts p := by
  unfold countsFault at h
  split at h
  · cases h
  · split at h
    · cases h
    · exact ⟨by omega, by omega, by omega, by omega⟩
theorem counts_check {p : Pg} (hlen : p.fns.length = p.len) (h : countsFault p ≠ 0) : Q.check p = (-1, -1, countsFault p) ∧ (countsFault p = 1 ∨ countsFault p = 4) := by
  unfold countsFault Q.check at *
  rw [hlen]
  split
  · simp
  · split
    · simp
    · rename_i h1 h2
      rw [if_neg h1, if_neg h2] at h
      exact absurd rfl h

set_option maxRecDepth 1000000 in
set_option maxHeartbeats 8000000 in
theorem prog_check_any (B : Nat) (p : Pg) (w : World) (hp : p.Ok w B) (hB : B ≤ w.heap.size) (a b : Int) (c : Nat) (hc : Q.check p = (a, b, c)) :
    Calls Try.prog 46 #[pgA p] w fun e w' => e = .returned (.tuple #[.int .i64 a, .int .i64 b, .int .i64 (c : Int)]) ∧ Below w.heap.size w w' := by
  have HP := kp hp; have HC := kp hc
  have hlen := hp.row.len
  have HLen := kp hlen
  have hlc := hp.lc; have hcm := hp.cm
  unfold maxLen at hcm
  have hcm9 : p.cap ≤ 9223372036854775807 := by omega
  obtain ⟨q, hq⟩ : ∃ q, countsFault p = q := ⟨_, rfl⟩
  have HQ := kp hq
  clear hp hcm hc
  rw [pgA_is]
  by_cases hq0 : q = 0
  · subst hq0
    have HCo := kp (counts_of hlen hq)
    clear hlen hq
    go_enter Try.func46, Try.ntmps46
    go_wp2_with (first
      | ((with_reducible refine wpList_box_agg rfl 24 (.tmp 0) rfl (pgC p) rfl ?_); intro g1 w1 hg1 hk1 hw1; have HK1 := kp hk1; have HW1 := kp hw1; have hs1 := hw1.size; have HP1 := kp (HP.out.below (hw1.mono hB)); clear hg1 hk1 hw1)
      | ((with_reducible show wpList _ _ _ (⟨some 10, _, _, _, _, _⟩ :: _) _ _); go_must (refine wpList_load_blk rfl 24 (.tmp 1) rfl g1 rfl _ (pgC p) _ HK1.out Try.underlying24 rfl pg_size ?_))
      | (go_at_call 62; go_must (refine (prog_checkCounts p _ HQ.out _).mono ?_); rintro e9 w2 ⟨rfl, hw2⟩; have HKp2 := kp (HK1.out.below hw2 HK1.out.lt); obtain ⟨hc0, hc1, hc2, hc3⟩ := pg_cells HKp2.out; have HW2 := kp (HW1.out.trans (hw2.mono hs1)); have hs2 := HW2.out.size; clear hw2))
    clear hc0 hc1 hc2 hc3
    have HP2 := kp (HP.out.below (HW2.out.mono hB))
    have hB2 : B ≤ w2.heap.size := by omega
    go_loopw [18] (fun v18 wr => ∃ f : Nat, f ≤ p.len ∧ v18 = .int .i64 f ∧ (∀ j, j < f → ¬ Q.badFn p j) ∧ Below w2.heap.size w2 wr) (fun v18 _ => p.len - (intOf v18).toNat)
    case atStart => exact ⟨0, by omega, rfl, fun j hj => by omega, Below.refl _ _⟩
    case round =>
      obtain ⟨f, hf, rfl, hpre, hbl⟩ := hrel
      have HPre := kp hpre; have HBL := kp hbl
      have hszr := hbl.size
      have HPr := kp (HP2.out.below (hbl.mono hB2))
      have HKr := kp (HKp2.out.below hbl HKp2.out.lt)
      have hBr : B ≤ wr.heap.size := by omega
      clear hpre hbl
      by_cases hlt : f < p.len
      · obtain ⟨ad, fn, e1, hab0, hx, hok0, hcf⟩ := HPr.out.fn hlt
        rw [e1]
        have HX := kp hx; have HOk := kp hok0
        obtain ⟨a', c', hfa⟩ : ∃ a' c', Q.fnFault p fn = (a', c') := ⟨_, _, rfl⟩
        have HFa := kp hfa
        clear hx hok0 e1 hfa
        by_cases hz : c' = 0
        · subst hz
          have HNx : Kept (∀ j, j < f + 1 → ¬ Q.badFn p j) := kp fun j hj h => by
            by_cases e : j = f
            · subst e
              obtain ⟨fn2, h1, h2⟩ := h
              rw [HX.out] at h1
              cases h1
              rw [HFa.out] at h2
              exact h2 rfl
            · exact HPre.out j (by omega) h
          go_wp2_with (first
            | ((with_reducible show wpList _ _ _ (⟨some 24, _, _, _, _, _⟩ :: _) _ _); go_must (refine wpList_load_blk rfl 24 (.tmp 1) rfl g1 rfl _ (pgC p) _ HKr.out Try.underlying24 rfl pg_size ?_))
            | (go_at_call 63; go_must (refine (prog_checkNodes B p fn _ _ HFa.out _ HPr.out HOk.out hBr).mono ?_); rintro e9 w9 ⟨rfl, hw9⟩; have HB9 := kp (HBL.out.trans (hw9.mono hszr)); clear hw9))
          go_roundw
          case rel => exact ⟨f + 1, by omega, by go_num, HNx.out, HB9.out⟩
          case measure => simp [intOf]; omega
        · have hzb : ((c' : Int) != 0) = true := by rw [bne_iff_ne]; omega
          have HE := kp (check_is HC.out (Q.check_fn HCo.out HX.out (by rw [HFa.out]; exact hz) HPre.out))
          rw [HFa.out] at HE
          clear hz
          go_wp2_with (first
            | ((with_reducible show wpList _ _ _ (⟨some 24, _, _, _, _, _⟩ :: _) _ _); go_must (refine wpList_load_blk rfl 24 (.tmp 1) rfl g1 rfl _ (pgC p) _ HKr.out Try.underlying24 rfl pg_size ?_))
            | (go_at_call 63; go_must (refine (prog_checkNodes B p fn _ _ HFa.out _ HPr.out HOk.out hBr).mono ?_); rintro e9 w9 ⟨rfl, hw9⟩; have HB9 := kp (HBL.out.trans (hw9.mono hszr)); clear hw9))
          go_ret3
          exact ⟨HE.out, HW2.out.trans (HB9.out.mono hs2)⟩
      · have HFine : Kept (∀ j, j < p.fns.length → ¬ Q.badFn p j) := kp fun j hj => HPre.out j (by rw [HLen.out] at hj; omega)
        have hge : p.len ≤ f := by omega
        clear hlt
        go_wp2_with (first
          | ((with_reducible show wpList _ _ _ (⟨some 35, _, _, _, _, _⟩ :: _) _ _); go_must (refine wpList_load_blk rfl 24 (.tmp 1) rfl g1 rfl _ (pgC p) _ HKr.out Try.underlying24 rfl pg_size ?_))
          | (go_at_call 64; go_must (refine (prog_checkCalls B p _ HPr.out hBr HCo.out HFine.out a b c HC.out).mono ?_); rintro e9 w9 ⟨rfl, hw9⟩; have HB9 := kp (HBL.out.trans (hw9.mono hszr)); clear hw9))
        go_ret3
        exact ⟨rfl, HW2.out.trans (HB9.out.mono hs2)⟩
  · obtain ⟨hck, hor⟩ := counts_check hlen (by rw [hq]; exact hq0)
    rw [hq] at hck hor
    have HE := kp (check_is HC.out hck)
    have hqb : ((q : Int) != 0) = true := by rw [bne_iff_ne]; omega
    clear hck hq hlen hq0 hor
    go_enter Try.func46, Try.ntmps46
    go_wp2_with (first
      | ((with_reducible refine wpList_box_agg rfl 24 (.tmp 0) rfl (pgC p) rfl ?_); intro g1 w1 hg1 hk1 hw1; have HK1 := kp hk1; have HW1 := kp hw1; have hs1 := hw1.size; clear hg1 hk1 hw1)
      | ((with_reducible show wpList _ _ _ (⟨some 10, _, _, _, _, _⟩ :: _) _ _); go_must (refine wpList_load_blk rfl 24 (.tmp 1) rfl g1 rfl _ (pgC p) _ HK1.out Try.underlying24 rfl pg_size ?_))
      | (go_at_call 62; go_must (refine (prog_checkCounts p _ HQ.out _).mono ?_); rintro e9 w2 ⟨rfl, hw2⟩; have HW2 := kp (HW1.out.trans (hw2.mono hs1)); clear hw2))
    go_ret3
    exact ⟨HE.out, HW2.out⟩
theorem prog_check (B : Nat) (p : Pg) (w : World) (hp : p.Ok w B) (hB : B ≤ w.heap.size) (_hs : Q.small p = true) (a b : Int) (c : Nat) (hc : Q.check p = (a, b, c)) :
    Calls Try.prog 46 #[pgA p] w fun e w' => e = .returned (.tuple #[.int .i64 a, .int .i64 b, .int .i64 (c : Int)]) ∧ Below w.heap.size w w' := prog_check_any B p w hp hB a b c hc
end Go.Proofs.Yticifjmkocgipaa

/- What the statements of prog begin with, walked: awake. -/
namespace Go.Proofs.Yticifjmkocgipaa
open Go.RowKit

/-- A program of one function of one node, as it is built. -/
def pgOne (g g2 : Nat) (x : Nd) : Pg := ⟨0, 0, 0, some ⟨g2, 0, none⟩, 1, 1, [⟨some ⟨g, 0, none⟩, 1, 1, [x]⟩]⟩
theorem pgOne_ok (x : Nd) (hx : x.Ok) (w : World) (g g2 : Nat) (h1 : Blk w g 56 (ndC x)) (h2 : Blk w g2 67 [.slice (some ⟨g, 0, none⟩) 1 1]) : (pgOne g g2 x).Ok w w.heap.size := by
  refine ⟨by unfold I64; simp [pgOne], by unfold I64; simp [pgOne], by unfold I64; simp [pgOne], ?_, ?_, Nat.le_refl _, by simp [pgOne, maxLen], fun h => by cases h⟩
  · exact Blk.row (f := fnV) (l := [⟨some ⟨g, 0, none⟩, 1, 1, [x]⟩]) h2 rfl (Nat.le_refl _)
  · intro f hf
    have hf1 : f = ⟨some ⟨g, 0, none⟩, 1, 1, [x]⟩ := by simpa [pgOne] using hf
    subst hf1
    refine ⟨⟨⟨rfl, fun _ => ⟨_, rfl, h1.lt, fun k y hy j hj => ?_⟩⟩, fun y hy => ?_⟩, Nat.le_refl _, by simp [maxLen], fun h => by cases h⟩
    · have hk : k = 0 := by
        have := (List.getElem?_eq_some_iff.1 hy).1
        simp at this; exact this
      subst hk
      have hyx : y = x := by simpa using hy.symm
      subst hyx
      rw [Nat.zero_mul, Nat.zero_add, add_start, h1.cell j]
      match j, hj with
      | 0, _ => rfl
      | 1, _ => rfl
      | 2, _ => rfl
      | 3, _ => rfl
    · rw [List.mem_singleton] at hy
      subst hy; exact hx
theorem pgOne_small (g g2 : Nat) (x : Nd) : Q.small (pgOne g g2 x) = true := by simp [Q.small, pgOne]
theorem pgOne_counts (g g2 : Nat) (x : Nd) : Q.Counts (pgOne g g2 x) := by constructor <;> simp [pgOne]
theorem pgOne_fine (g g2 : Nat) (x : Nd) (h : Q.may 0 0 0 1 x 1 = true) : ∀ j, j < (pgOne g g2 x).fns.length → ¬ Q.badFn (pgOne g g2 x) j := by
  rintro j hj ⟨fn, hfn, hb⟩
  have hj0 : j = 0 := by simpa [pgOne] using hj
  subst hj0
  have hf : fn = ⟨some ⟨g, 0, none⟩, 1, 1, [x]⟩ := by simpa [pgOne] using hfn.symm
  subst hf
  refine hb ?_
  rw [Q.fault_none _ _ (by simp) (by simp) ?_]
  rintro i hi ⟨nd, hnd, hm⟩
  have hi0 : i = 0 := by simpa using hi
  subst hi0
  have : nd = x := by simpa using hnd.symm
  subst this
  have hm' : Q.may 0 0 0 1 nd 1 = false := hm
  rw [h] at hm'
  cases hm'
theorem check_return (g g2 : Nat) : Q.check (pgOne g g2 ⟨9, 0, 0, 0⟩) = (0, 0, 0) := by
  refine Q.check_fine (pgOne_counts _ _ _) (pgOne_fine _ _ _ (by decide)) ?_
  rintro j hj ⟨i, fn, nd, hfn, hnd, h7, _⟩
  have hj0 : j = 0 := by simpa [pgOne] using hj
  subst hj0
  have hf : fn = ⟨some ⟨g, 0, none⟩, 1, 1, [⟨9, 0, 0, 0⟩]⟩ := by simpa [pgOne] using hfn.symm
  subst hf
  have hm := List.mem_of_getElem? hnd
  rw [List.mem_singleton] at hm
  subst hm
  cases h7
theorem check_self (g g2 : Nat) : Q.check (pgOne g g2 ⟨7, 0, 0, 0⟩) = (0, 0, 8) :=
  Q.check_round (pgOne_counts _ _ _) (pgOne_fine _ _ _ (by decide)) (f := 0) (i := 0) ⟨_, _, rfl, rfl, rfl, 0, rfl, by simp [pgOne], .inl rfl⟩ (by decide) (by simp [pgOne]) (fun j hj => by omega) (fun j hj => by omega)

/-- The world in which such a program was built. -/
def oneW (w : World) (x : Nd) : World := (w.alloc (.cells #[.int .i64 x.kind, .int .i64 x.arg, .int .i64 x.next, .int .i64 x.alt] 56)).alloc (.cells #[.slice (some ⟨w.heap.size, 0, none⟩) 1 1] 67)
theorem oneW_ok (w : World) (x : Nd) (hx : x.Ok) : (pgOne w.heap.size (w.heap.size + 1) x).Ok (oneW w x) (oneW w x).heap.size :=
  pgOne_ok x hx _ _ _ ((Blk.newA w 56 _ (ndC x) rfl).alloc _) (Blk.newAt rfl (by simp))
theorem oneW_below (w : World) (x : Nd) {B : Nat} {w0 : World} (h : Below B w0 w) (hB : B ≤ w.heap.size) : Below B w0 (oneW w x) := (h.alloc hB _).alloc (by simp; omega) _
theorem nd_ok (k : Int) (h : I64 k) : Nd.Ok ⟨k, 0, 0, 0⟩ := ⟨h, by unfold I64; simp, by unfold I64; simp, by unfold I64; simp⟩
end Go.Proofs.Yticifjmkocgipaa

/- What a program that may be has, on plain data. -/
namespace Go.Proofs.Yticifjmkocgipaa
open Go.RowKit

theorem firstIdx_not {P : Nat → Prop} : ∀ {n : Nat}, Q.firstIdx P n = none → ∀ j, j < n → ¬ P j
  | 0, _, j, hj => by omega
  | n + 1, h, j, hj => by
    simp only [Q.firstIdx] at h
    cases hf : Q.firstIdx P n with
    | some k => rw [hf] at h; cases h
    | none =>
      rw [hf] at h
      simp only at h
      split at h
      · cases h
      · rename_i hp
        by_cases hjn : j = n
        · subst hjn; exact hp
        · exact firstIdx_not hf j (by omega)
theorem firstIdx_is {P : Nat → Prop} : ∀ {n i : Nat}, Q.firstIdx P n = some i → i < n ∧ P i
  | 0, i, h => by cases h
  | n + 1, i, h => by
    simp only [Q.firstIdx] at h
    cases hf : Q.firstIdx P n with
    | some k =>
      rw [hf] at h
      cases h
      obtain ⟨h1, h2⟩ := firstIdx_is hf
      exact ⟨by omega, h2⟩
    | none =>
      rw [hf] at h
      simp only at h
      split at h
      · rename_i hp
        cases h
        exact ⟨by omega, hp⟩
      · cases h

/-- A program that may be. -/
structure Fine (p : Pg) : Prop where
  counts : Q.Counts p
  nodes : ∀ j, j < p.fns.length → ¬ Q.badFn p j
  round : ∀ j, j < p.fns.length → ¬ Q.badRound p j
theorem fine_of {p : Pg} {a b : Int} (h : Q.check p = (a, b, 0)) : Fine p := by
  unfold Q.check at h
  split at h
  · cases h
  · split at h
    · cases h
    · rename_i h1 h2
      split at h
      · rename_i f hf
        exfalso
        obtain ⟨hlt, fn, hfn, hb⟩ := firstIdx_is hf
        have e : p.fns.getD f default = fn := by rw [List.getD_eq_getElem?_getD, hfn]; rfl
        rw [e] at h
        have := congrArg (fun x : Int × Int × Nat => x.2.2) h
        exact hb this
      · rename_i hf
        split at h
        · cases h
        · rename_i hr
          exact ⟨⟨by omega, by omega, by omega, by omega⟩, firstIdx_not hf, firstIdx_not hr⟩

theorem size_mono {g l s g' l' s' f : Int} (hg : g ≤ g') (hl : l ≤ l') (hs : s ≤ s') (c : Nat) (nodes : Int) : Q.size g l s f c nodes ≤ Q.size g' l' s' f c nodes := by
  unfold Q.size
  repeat' split
  all_goals omega
theorem may_mono {g l s g' l' s' f : Int} (hg : g ≤ g') (hl : l ≤ l') (hs : s ≤ s') (x : Nd) (nodes : Int) (h : Q.may g l s f x nodes = true) : Q.may g' l' s' f x nodes = true := by
  unfold Q.may at *
  rw [Bool.and_eq_true] at *
  refine ⟨h.1, List.all_eq_true.2 fun i hi => ?_⟩
  have h1 := List.all_eq_true.1 h.2 i hi
  simp only [decide_eq_true_eq] at *
  have h2 := size_mono (f := f) hg hl hs ((Q.row x.kind).getD i 0) nodes
  exact ⟨h1.1, by omega⟩
/-- More globals, locks and slots. -/
def more (p : Pg) (g l s : Int) : Pg := { p with g := g, l := l, s := s }
theorem more_long {p : Pg} {g l s : Int} (h : Fine p) (hg : p.g ≤ g) (hl : p.l ≤ l) (hs : p.s ≤ s) (hb : 16 < g ∨ 16 < l ∨ 8 < s) : Q.check (more p g l s) = (-1, -1, 4) := by
  unfold Q.check
  have h1 := h.counts.g; have h2 := h.counts.l; have h3 := h.counts.s; have h4 := h.counts.f
  rw [if_neg (by simp only [more]; omega), if_pos (by simp only [more]; omega)]
theorem more_fine {p : Pg} {g l s : Int} (h : Fine p) (hg : p.g ≤ g) (hl : p.l ≤ l) (hs : p.s ≤ s) (hg2 : g ≤ 16) (hl2 : l ≤ 16) (hs2 : s ≤ 8) : Q.check (more p g l s) = (0, 0, 0) := by
  have h1 := h.counts.g; have h2 := h.counts.l; have h3 := h.counts.s; have h4 := h.counts.f
  refine Q.check_fine ⟨by simp only [more]; omega, by simp only [more]; omega, by simp only [more]; omega, by simp only [more]; omega⟩ ?_ ?_
  · rintro j hj ⟨fn, hfn, hb⟩
    obtain ⟨f1, f2, f3⟩ := Q.fine_fn (p := p) hfn (h.nodes j hj)
    refine hb ?_
    rw [Q.fault_none _ _ (by omega) f2 ?_]
    rintro i hi ⟨nd, hnd, hm⟩
    have h5 := may_mono hg hl hs nd fn.nodes.length (f3 i nd hnd)
    have hm' : Q.may g l s p.len nd fn.nodes.length = false := hm
    rw [h5] at hm'; cases hm'
  · rintro j hj ⟨i, hr⟩
    exact h.round j hj ⟨i, hr⟩
theorem more_small (p : Pg) (g l s : Int) : Q.small (more p g l s) = Q.small p := rfl
theorem more_ok {p : Pg} {g l s : Int} {w : World} {B : Nat} (h : p.Ok w B) (hg : I64 g) (hl : I64 l) (hs : I64 s) : (more p g l s).Ok w B := ⟨hg, hl, hs, h.row, h.fns, h.lc, h.cm, h.nil⟩

/-- Where a node that may be goes on. -/
theorem may_next {g l s f : Int} {x : Nd} {nodes : Nat} (h : Q.may g l s f x nodes = true) (h0 : 0 < nodes) : ∀ y ∈ Q.succ x, 0 ≤ y ∧ y < (nodes : Int) := by
  unfold Q.may at h
  rw [Bool.and_eq_true] at h
  have hrow : Q.row x.kind ≠ [] := by simpa using h.1
  have hk : 0 ≤ x.kind ∧ x.kind ≤ 9 := by
    unfold Q.row at hrow
    split at hrow
    · exact absurd rfl hrow
    · omega
  have a1 := List.all_eq_true.1 h.2 1 (by simp)
  have a2 := List.all_eq_true.1 h.2 2 (by simp)
  simp only [decide_eq_true_eq] at a1 a2
  obtain ⟨k0, k9⟩ := hk
  obtain ⟨kk, hkk⟩ : ∃ kk : Nat, x.kind = (kk : Int) := ⟨x.kind.toNat, by omega⟩
  have hk10 : kk ≤ 9 := by omega
  intro y hy
  unfold Q.succ at hy
  unfold Q.row at a1 a2
  rw [if_neg (by omega), hkk, Int.toNat_natCast] at a1 a2
  rw [hkk] at hy
  have hcases : kk = 0 ∨ kk = 1 ∨ kk = 2 ∨ kk = 3 ∨ kk = 4 ∨ kk = 5 ∨ kk = 6 ∨ kk = 7 ∨ kk = 8 ∨ kk = 9 := by omega
  rcases hcases with e | e | e | e | e | e | e | e | e | e <;> subst e <;> simp [Q.rows, Q.fields, Q.size] at a1 a2 hy <;> omega
end Go.Proofs.Yticifjmkocgipaa
