/- ProgP, ProgLaw1, ProgLaw2, in one text. -/
import Derived.Test.YtkhfolpffjihgaaPk4
import Derived.Test.YtkhfolpffjihgaaProgRef5
import Derived.BigQuiet
import Derived.Test.YtkhfolpffjihgaaPk9
namespace Go.Proofs.Ytkhfolpffjihgaa
open Go.RowKit
theorem counts_of {p : Pg} (hlen : p.fns.length = p.len) (h : countsFault p = 0) : Q.Counts p := by
  unfold countsFault at h
  split at h
  · cases h
  · split at h
    · cases h
    · exact ⟨by omega, by omega, by omega, by omega⟩
theorem counts_check {p : Pg} (hlen : p.fns.length = p.len) (h : countsFault p ≠ 0) : Q.check p = (-1, -1, countsFault p) ∧ (countsFault p = 1 ∨ countsFault p = 4) := by
  unfold countsFault Q.check at *
  rw [hlen]
  split
  · simp
  · split
    · simp
    · rename_i h1 h2
      rw [if_neg h1, if_neg h2] at h
      exact absurd rfl h
set_option maxRecDepth 1000000 in
set_option maxHeartbeats 8000000 in
theorem yO (B : Nat) (p : Pg) (w : World) (hp : p.Ok w B) (hB : B ≤ w.heap.size) (a b : Int) (c : Nat) (hc : Q.check p = (a, b, c)) :
    Calls Try.prog 42 #[pgA p] w fun e w' => e = .returned (.tuple #[.int .i64 a, .int .i64 b, .int .i64 (c : Int)]) ∧ Below w.heap.size w w' := by
  have HP := kp hp; have HC := kp hc
  have hlen := hp.row.len
  have HLen := kp hlen
  have hlc := hp.lc; have hcm := hp.cm
  unfold maxLen at hcm
  have hcm9 : p.cap ≤ 9223372036854775807 := by omega
  obtain ⟨q, hq⟩ : ∃ q, countsFault p = q := ⟨_, rfl⟩
  have HQ := kp hq
  clear hp hcm hc
  rw [jO]
  by_cases hq0 : q = 0
  · subst hq0
    have HCo := kp (counts_of hlen hq)
    clear hlen hq
    go_enter Try.func42, Try.ntmps42
    go_wp2_with (first
      | ((with_reducible refine j2 rfl 38 (.tmp 0) rfl (pgC p) rfl ?_); intro g1 w1 hg1 hk1 hw1; have HK1 := kp hk1; have HW1 := kp hw1; have hs1 := hw1.size; have HP1 := kp (HP.out.below (hw1.mono hB)); clear hg1 hk1 hw1)
      | ((with_reducible show Sl 10); go_must (refine j1 rfl 38 (.tmp 1) rfl g1 rfl _ (pgC p) _ HK1.out Try.underlying38 rfl jB ?_))
      | (go_at_call 61; go_must (refine (xW p _ HQ.out _).mono ?_); rintro e9 w2 ⟨rfl, hw2⟩; have HKp2 := kp (HK1.out.below hw2 HK1.out.lt); obtain ⟨hc0, hc1, hc2, hc3⟩ := jL HKp2.out; have HW2 := kp (HW1.out.trans (hw2.mono hs1)); have hs2 := HW2.out.size; clear hw2))
    clear hc0 hc1 hc2 hc3
    have HP2 := kp (HP.out.below (HW2.out.mono hB))
    have hB2 : B ≤ w2.heap.size := by omega
    go_loopw [18] (fun v18 wr => ∃ f : Nat, f ≤ p.len ∧ v18 = .int .i64 f ∧ (∀ j, j < f → ¬ Q.badFn p j) ∧ Below w2.heap.size w2 wr) (fun v18 _ => p.len - (intOf v18).toNat)
    case atStart => exact ⟨0, by omega, rfl, fun j hj => by omega, Below.refl _ _⟩
    case round =>
      obtain ⟨f, hf, rfl, hpre, hbl⟩ := hrel
      have HPre := kp hpre; have HBL := kp hbl
      have hszr := hbl.size
      have HPr := kp (HP2.out.below (hbl.mono hB2))
      have HKr := kp (HKp2.out.below hbl HKp2.out.lt)
      have hBr : B ≤ wr.heap.size := by omega
      clear hpre hbl
      by_cases hlt : f < p.len
      · obtain ⟨ad, fn, e1, hab0, hx, hok0, hcf⟩ := HPr.out.fn hlt
        rw [e1]
        have HX := kp hx; have HOk := kp hok0
        obtain ⟨a', c', hfa⟩ : ∃ a' c', Q.fnFault p fn = (a', c') := ⟨_, _, rfl⟩
        have HFa := kp hfa
        clear hx hok0 e1 hfa
        by_cases hz : c' = 0
        · subst hz
          have HNx : Kept (∀ j, j < f + 1 → ¬ Q.badFn p j) := kp fun j hj h => by
            by_cases e : j = f
            · subst e
              obtain ⟨fn2, h1, h2⟩ := h
              rw [HX.out] at h1
              cases h1
              rw [HFa.out] at h2
              exact h2 rfl
            · exact HPre.out j (by omega) h
          go_wp2_with (first
            | ((with_reducible show Sl 24); go_must (refine j1 rfl 38 (.tmp 1) rfl g1 rfl _ (pgC p) _ HKr.out Try.underlying38 rfl jB ?_))
            | (go_at_call 62; go_must (refine (yE B p fn _ _ HFa.out _ HPr.out HOk.out hBr).mono ?_); rintro e9 w9 ⟨rfl, hw9⟩; have HB9 := kp (HBL.out.trans (hw9.mono hszr)); clear hw9))
          go_roundw
          case rel => exact ⟨f + 1, by omega, by go_num, HNx.out, HB9.out⟩
          case measure => simp [intOf]; omega
        · have hzb : ((c' : Int) != 0) = true := by rw [bne_iff_ne]; omega
          have HE := kp (lY HC.out (Q.check_fn HCo.out HX.out (by rw [HFa.out]; exact hz) HPre.out))
          rw [HFa.out] at HE
          clear hz
          go_wp2_with (first
            | ((with_reducible show Sl 24); go_must (refine j1 rfl 38 (.tmp 1) rfl g1 rfl _ (pgC p) _ HKr.out Try.underlying38 rfl jB ?_))
            | (go_at_call 62; go_must (refine (yE B p fn _ _ HFa.out _ HPr.out HOk.out hBr).mono ?_); rintro e9 w9 ⟨rfl, hw9⟩; have HB9 := kp (HBL.out.trans (hw9.mono hszr)); clear hw9))
          go_ret3
          exact ⟨HE.out, HW2.out.trans (HB9.out.mono hs2)⟩
      · have HFine : Kept (∀ j, j < p.fns.length → ¬ Q.badFn p j) := kp fun j hj => HPre.out j (by rw [HLen.out] at hj; omega)
        have hge : p.len ≤ f := by omega
        clear hlt
        go_wp2_with (first
          | ((with_reducible show Sl 35); go_must (refine j1 rfl 38 (.tmp 1) rfl g1 rfl _ (pgC p) _ HKr.out Try.underlying38 rfl jB ?_))
          | (go_at_call 63; go_must (refine (prog_checkCalls B p _ HPr.out hBr HCo.out HFine.out a b c HC.out).mono ?_); rintro e9 w9 ⟨rfl, hw9⟩; have HB9 := kp (HBL.out.trans (hw9.mono hszr)); clear hw9))
        go_ret3
        exact ⟨rfl, HW2.out.trans (HB9.out.mono hs2)⟩
  · obtain ⟨hck, hor⟩ := counts_check hlen (by rw [hq]; exact hq0)
    rw [hq] at hck hor
    have HE := kp (lY HC.out hck)
    have hqb : ((q : Int) != 0) = true := by rw [bne_iff_ne]; omega
    clear hck hq hlen hq0 hor
    go_enter Try.func42, Try.ntmps42
    go_wp2_with (first
      | ((with_reducible refine j2 rfl 38 (.tmp 0) rfl (pgC p) rfl ?_); intro g1 w1 hg1 hk1 hw1; have HK1 := kp hk1; have HW1 := kp hw1; have hs1 := hw1.size; clear hg1 hk1 hw1)
      | ((with_reducible show Sl 10); go_must (refine j1 rfl 38 (.tmp 1) rfl g1 rfl _ (pgC p) _ HK1.out Try.underlying38 rfl jB ?_))
      | (go_at_call 61; go_must (refine (xW p _ HQ.out _).mono ?_); rintro e9 w2 ⟨rfl, hw2⟩; have HW2 := kp (HW1.out.trans (hw2.mono hs1)); clear hw2))
    go_ret3
    exact ⟨HE.out, HW2.out⟩
theorem yC {P : Nat → Prop} : ∀ {n : Nat}, Q.firstIdx P n = none → ∀ j, j < n → ¬ P j
  | 0, _, j, hj => by omega
  | n + 1, h, j, hj => by
    simp only [Q.firstIdx] at h
    cases hf : Q.firstIdx P n with
    | some k => rw [hf] at h; cases h
    | none =>
      rw [hf] at h
      simp only at h
      split at h
      · cases h
      · rename_i hp
        by_cases hjn : j = n
        · subst hjn; exact hp
        · exact yC hf j (by omega)
theorem firstIdx_is {P : Nat → Prop} : ∀ {n i : Nat}, Q.firstIdx P n = some i → i < n ∧ P i
  | 0, i, h => by cases h
  | n + 1, i, h => by
    simp only [Q.firstIdx] at h
    cases hf : Q.firstIdx P n with
    | some k =>
      rw [hf] at h
      cases h
      obtain ⟨h1, h2⟩ := firstIdx_is hf
      exact ⟨by omega, h2⟩
    | none =>
      rw [hf] at h
      simp only at h
      split at h
      · rename_i hp
        cases h
        exact ⟨by omega, hp⟩
      · cases h
structure Fine (p : Pg) : Prop where
  counts : Q.Counts p
  nodes : ∀ j, j < p.fns.length → ¬ Q.badFn p j
  round : ∀ j, j < p.fns.length → ¬ Q.badRound p j
theorem zD {p : Pg} {a b : Int} (h : Q.check p = (a, b, 0)) : Fine p := by
  unfold Q.check at h
  split at h
  · cases h
  · split at h
    · cases h
    · rename_i h1 h2
      split at h
      · rename_i f hf
        exfalso
        obtain ⟨hlt, fn, hfn, hb⟩ := firstIdx_is hf
        have e : p.fns.getD f default = fn := by rw [List.getD_eq_getElem?_getD, hfn]; rfl
        rw [e] at h
        have := congrArg (fun x : Int × Int × Nat => x.2.2) h
        exact hb this
      · rename_i hf
        split at h
        · cases h
        · rename_i hr
          exact ⟨⟨by omega, by omega, by omega, by omega⟩, yC hf, yC hr⟩
def more (p : Pg) (g l s : Int) : Pg := { p with g := g, l := l, s := s }
end Go.Proofs.Ytkhfolpffjihgaa
