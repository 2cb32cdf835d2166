/- ProgP5, ProgP, ProgLaw1, in one text. -/
import Derived.Test.YtkblgafackmckaaPq7
import Derived.Test.YtkblgafackmckaaProgP4
import Derived.Test.YtkblgafackmckaaPq4
import Derived.Test.YtkblgafackmckaaProgRef5
import Derived.BigQuiet
/- Which call goes round first, as the program finds it, walked: checkCalls. -/
namespace Go.Proofs.Ytkblgafackmckaa
open Go.RowKit

theorem rnd_is {a b a' b' : Int} {c c' : Int} (h : (a, b, c) = (a', b', c')) : Ending.returned (.tuple #[.int .i64 a, .int .i64 b, .int .i64 c]) = Ending.returned (.tuple #[.int .i64 a', .int .i64 b', .int .i64 c']) := by
  injection h with h1 h2
  injection h2 with h2 h3
  rw [h1, h2, h3]

set_option maxRecDepth 1000000 in
set_option maxHeartbeats 8000000 in
theorem prog_checkCalls (B : Nat) (p : Pg) (w : World) (hp : p.Ok w B) (hB : B ≤ w.heap.size) (hco : Q.Counts p) (hfine : ∀ j, j < p.fns.length → ¬ Q.badFn p j) (a b : Int) (c : Nat) (hc : Q.check p = (a, b, c)) :
    Calls Try.prog 44 #[pgA p] w fun e w' => e = .returned (.tuple #[.int .i64 a, .int .i64 b, .int .i64 (c : Int)]) ∧ Below w.heap.size w w' := by
  have HP := kp hp; have HC := kp hc; have HCo := kp hco; have HFine := kp hfine
  have HFit := kp (calls_fit hfine)
  have hlen := hp.row.len
  have HLen := kp hlen
  have h16 : p.len ≤ 16 := by rw [← hlen]; exact hco.f.2
  have hlc := hp.lc; have hcm := hp.cm
  unfold maxLen at hcm
  have hcm9 : p.cap ≤ 9223372036854775807 := by omega
  clear hp hfine hlen hcm hc hco
  rw [pgA_is]
  go_enter Try.func44, Try.ntmps44
  go_wp2_with (first
    | ((with_reducible refine wpList_box_agg rfl 24 (.tmp 0) rfl (pgC p) rfl ?_); intro g1 w1 hg1 hk1 hw1; have HK1 := kp hk1; have HW1 := kp hw1; have hs1 := hw1.size; have HP1 := kp (HP.out.below (hw1.mono hB)); clear hg1 hk1 hw1)
    | ((with_reducible show wpList _ _ _ (⟨some 10, _, _, _, _, _⟩ :: _) _ _); go_must (refine wpList_load_blk rfl 24 (.tmp 1) rfl g1 rfl _ (pgC p) _ HK1.out Try.underlying24 rfl pg_size ?_))
    | (go_at_call 58; go_must (refine (prog_comesTo B p _ HP1.out (by omega) HFit.out h16).mono ?_); rintro e9 w2 ⟨L, rfl, hL, hent, hw2⟩; have HL := kp hL; have HEnt := kp hent; have HKp2 := kp (HK1.out.below hw2 HK1.out.lt); have HW2 := kp (HW1.out.trans (hw2.mono hs1)); have hs2 := HW2.out.size; clear hL hent hw2)
    | ((with_reducible show wpList _ _ _ (⟨some 5, _, _, _, _, _⟩ :: _) _ _); go_must (refine wpList_alloc_zero rfl 106 rfl (relC (List.replicate 256 false)) rel_zero ?_); intro g3 w3 hg3 hk3 hw3; have HG3 := kp hg3; have HK3 := kp hk3; have HW3 := kp hw3; clear hg3 hk3 hw3)
    | ((with_reducible show wpList _ _ _ (⟨none, _, _, _, _, _⟩ :: _) _ _); go_must (refine wpList_store_blk rfl 106 (.tmp 5) (.tmp 11) rfl g3 (relC L) rfl rfl _ _ HK3.out (by rw [relC_len, HL.out]; exact rel_size) (by rw [relC_len, relC_len, HL.out, List.length_replicate]) (rel_ones L) ?_); intro w4 hk4 hg4 _
       have HK4 := kp hk4
       have HB24 := kp (HW3.out.grown hg4 HW3.out.size (fun k hk => by cases hk; exact HG3.out))
       have HKp4 := kp (HKp2.out.below HB24.out HKp2.out.lt)
       obtain ⟨hc0, hc1, hc2, hc3⟩ := pg_cells HKp4.out
       have HW4 := kp (HW2.out.trans (HB24.out.mono hs2))
       have hs4 := HW4.out.size
       clear hk4 hg4))
  clear hc0 hc1 hc2 hc3
  have HP4 := kp (HP.out.below (HW4.out.mono hB))
  have hB4 : B ≤ w4.heap.size := by omega
  go_loopw [15] (fun v15 wr => ∃ f : Nat, f ≤ p.len ∧ v15 = .int .i64 f ∧ (∀ j, j < f → ¬ Q.badRound p j) ∧ Below w4.heap.size w4 wr) (fun v15 _ => p.len - (intOf v15).toNat)
  case atStart => exact ⟨0, by omega, rfl, fun j hj => by omega, Below.refl _ _⟩
  case round =>
    obtain ⟨f, hf, rfl, hpre, hbl⟩ := hrel
    have HPre := kp hpre; have HBL := kp hbl
    have HPr := kp (HP4.out.below (hbl.mono hB4))
    clear hpre hbl
    by_cases hlt : f < p.len
    · obtain ⟨ad, fn, e1, hab0, hx, hok0, hcf⟩ := HPr.out.fn hlt
      rw [e1]
      have HE1 := kp e1
      clear e1
      have HX := kp hx
      obtain ⟨hf0, hf64, hmays⟩ := Q.fine_fn hx (HFine.out f (by rw [HLen.out]; exact hlt))
      have hfl := hok0.nodes.1.len
      have hfc := hok0.lc; have hfm := hok0.cm
      unfold maxLen at hfm
      have hfm9 : fn.cap ≤ 9223372036854775807 := by omega
      rw [hfl] at hf64
      have HMays := kp hmays
      have HFl := kp hfl
      clear hx hok0 hfm hf0 hmays hfl
      go_wp2
      clear hcf
      go_loopw [22] (fun v22 wq => ∃ i : Nat, i ≤ fn.len ∧ v22 = .int .i64 i ∧ (∀ j, j < i → ¬ Q.roundAt p f j) ∧ Below w4.heap.size w4 wq) (fun v22 _ => fn.len - (intOf v22).toNat)
      case atStart => exact ⟨0, by omega, rfl, fun j hj => by omega, HBL.out⟩
      case round =>
        clear HBL HPr
        obtain ⟨i, hi, rfl, hpre, hbl⟩ := hrel
        have HPreI := kp hpre; have HBL := kp hbl
        have hszq := hbl.size
        obtain ⟨ad', fn', e1', hab, hx', hok, _⟩ := (HP4.out.below (hbl.mono hB4)).fn hlt
        rw [HE1.out] at e1'
        cases e1'
        rw [HX.out] at hx'
        cases hx'
        have HK := kp (HK4.out.below hbl HK4.out.lt)
        clear hpre hbl
        by_cases hli : i < fn.len
        · obtain ⟨bd, x, e3, hbb, hy, hxok, hn0, hn1, hn2, hn3⟩ := hok.nodes.get hli
          rw [e3]
          have HY := kp hy
          clear hok hy hxok e3
          by_cases h7 : x.kind = 7
          · have hz7 : (x.kind == 7) = true := by simpa using h7
            obtain ⟨ha0, han⟩ := may_call (HMays.out i x HY.out) h7
            obtain ⟨k, hk⟩ : ∃ k : Nat, x.arg = (k : Int) := ⟨x.arg.toNat, by omega⟩
            have hkn : k < p.len := by omega
            have hk16 : k < 16 := by omega
            have hf16 : f < 16 := by omega
            obtain ⟨v, hv, hev⟩ := Q.ent_at HL.out hk16 hf16
            have HV := kp hv
            have HRd : Kept (Q.roundAt p f i ↔ v = true) := kp <| by
              rw [← hev, HEnt.out k f hk16 hf16]
              unfold Q.roundAt
              have hcall : Q.calls p f k := ⟨fn, HX.out, x, List.mem_of_getElem? HY.out, h7, hk⟩
              constructor
              · rintro ⟨fn2, nd, g1', g2', _, k2, g4, g5, g6⟩
                rw [HX.out] at g1'
                cases g1'
                rw [HY.out] at g2'
                cases g2'
                have : k2 = k := by omega
                subst this
                rcases g6 with g6 | g6
                · subst g6
                  exact .one hcall
                · rw [HLen.out] at g6
                  exact Q.reach_more h16 g6
              · intro h
                refine ⟨fn, x, HX.out, HY.out, h7, k, hk, by rw [HLen.out]; exact hkn, .inr ?_⟩
                rw [HLen.out]
                exact Q.reach_less (Q.calls_lt HFit.out) h
            have HKx := kp hk
            have hfi : (f : Int) < (16 : Int) := by omega
            have hki : (k : Int) < (16 : Int) := by omega
            have hf0 : (0 : Int) ≤ (f : Int) := by omega
            have hk0 : (0 : Int) ≤ (k : Int) := by omega
            clear h7 ha0 han hk hv hev
            cases v
            · have HNx : Kept (∀ j, j < i + 1 → ¬ Q.roundAt p f j) := kp fun j hj h => by
                by_cases e : j = i
                · subst e
                  have := HRd.out.1 h
                  cases this
                · exact HPreI.out j (by omega) h
              go_wp2_with (first
                | ((with_reducible show wpList _ _ _ (⟨some 9, _, _, _, _, _⟩ :: _) _ _); go_must (refine wpList_alloc_zero rfl 47 rfl (ndC ⟨0, 0, 0, 0⟩) nd_zero ?_); intro g5 w6 hg5 hk6 hw6; have HG5 := kp hg5; have HK6 := kp hk6; have HW6 := kp hw6; clear hg5 hk6 hw6)
                | ((with_reducible show wpList _ _ _ (⟨none, _, _, _, _, _⟩ :: _) _ _); go_must (refine wpList_store_blk rfl 47 (.tmp 9) (.tmp 26) rfl g5 (ndC x) rfl rfl _ _ HK6.out nd_size rfl (nd_ones x) ?_); intro w7 hk7 hg7 hs7
                   obtain ⟨hx0, hx1, hx2, hx3⟩ := nd_cells hk7
                   have HBq7 := kp (HW6.out.grown hg7 HW6.out.size (fun k hk => by cases hk; exact HG5.out))
                   have HB7 := kp (HBL.out.trans (HBq7.out.mono hszq))
                   have hcv := ((HK.out.below HBq7.out HK.out.lt).cell (k * 16 + f)).trans (relC_at HV.out)
                   rw [HKx.out] at hx1
                   clear hk7 hg7 hs7 hn0 hn1 hn2 hn3))
              go_roundw
              case rel => exact ⟨i + 1, by omega, by go_num, HNx.out, HB7.out⟩
              case measure => simp [intOf]; omega
            · have HE := kp (check_is HC.out (Q.check_round HCo.out HFine.out (HRd.out.2 rfl) (by omega) (by rw [HLen.out]; exact hlt) HPre.out HPreI.out))
              go_wp2_with (first
                | ((with_reducible show wpList _ _ _ (⟨some 9, _, _, _, _, _⟩ :: _) _ _); go_must (refine wpList_alloc_zero rfl 47 rfl (ndC ⟨0, 0, 0, 0⟩) nd_zero ?_); intro g5 w6 hg5 hk6 hw6; have HG5 := kp hg5; have HK6 := kp hk6; have HW6 := kp hw6; clear hg5 hk6 hw6)
                | ((with_reducible show wpList _ _ _ (⟨none, _, _, _, _, _⟩ :: _) _ _); go_must (refine wpList_store_blk rfl 47 (.tmp 9) (.tmp 26) rfl g5 (ndC x) rfl rfl _ _ HK6.out nd_size rfl (nd_ones x) ?_); intro w7 hk7 hg7 hs7
                   obtain ⟨hx0, hx1, hx2, hx3⟩ := nd_cells hk7
                   have HBq7 := kp (HW6.out.grown hg7 HW6.out.size (fun k hk => by cases hk; exact HG5.out))
                   have HB7 := kp (HBL.out.trans (HBq7.out.mono hszq))
                   have hcv := ((HK.out.below HBq7.out HK.out.lt).cell (k * 16 + f)).trans (relC_at HV.out)
                   rw [HKx.out] at hx1
                   clear hk7 hg7 hs7 hn0 hn1 hn2 hn3))
              go_ret3
              exact ⟨HE.out, HW4.out.trans (HB7.out.mono hs4)⟩
          · have hz7 : (x.kind == 7) = false := by simpa using h7
            have HNx : Kept (∀ j, j < i + 1 → ¬ Q.roundAt p f j) := kp fun j hj h => by
              by_cases e : j = i
              · subst e
                obtain ⟨fn2, nd, g1', g2', g3, _⟩ := h
                rw [HX.out] at g1'
                cases g1'
                rw [HY.out] at g2'
                cases g2'
                exact h7 g3
              · exact HPreI.out j (by omega) h
            clear h7
            go_wp2_with (first
              | ((with_reducible show wpList _ _ _ (⟨some 9, _, _, _, _, _⟩ :: _) _ _); go_must (refine wpList_alloc_zero rfl 47 rfl (ndC ⟨0, 0, 0, 0⟩) nd_zero ?_); intro g5 w6 hg5 hk6 hw6; have HG5 := kp hg5; have HK6 := kp hk6; have HW6 := kp hw6; clear hg5 hk6 hw6)
              | ((with_reducible show wpList _ _ _ (⟨none, _, _, _, _, _⟩ :: _) _ _); go_must (refine wpList_store_blk rfl 47 (.tmp 9) (.tmp 26) rfl g5 (ndC x) rfl rfl _ _ HK6.out nd_size rfl (nd_ones x) ?_); intro w7 hk7 hg7 hs7
                 obtain ⟨hx0, hx1, hx2, hx3⟩ := nd_cells hk7
                 have HBq7 := kp (HW6.out.grown hg7 HW6.out.size (fun k hk => by cases hk; exact HG5.out))
                 have HB7 := kp (HBL.out.trans (HBq7.out.mono hszq))
                 clear hk7 hg7 hs7 hn0 hn1 hn2 hn3))
            go_roundw
            case rel => exact ⟨i + 1, by omega, by go_num, HNx.out, HB7.out⟩
            case measure => simp [intOf]; omega
        · have HNx : Kept (∀ j, j < f + 1 → ¬ Q.badRound p j) := kp fun j hj h => by
            by_cases e : j = f
            · subst e
              obtain ⟨i2, h2⟩ := h
              by_cases hlt2 : i2 < i
              · exact HPreI.out i2 hlt2 h2
              · obtain ⟨fn2, nd, g1', g2', _⟩ := h2
                rw [HX.out] at g1'
                cases g1'
                have := (List.getElem?_eq_some_iff.1 g2').1
                rw [HFl.out] at this
                omega
            · exact HPre.out j (by omega) h
          have hge : fn.len ≤ i := by omega
          clear hli hok
          go_wp2
          go_roundw
          case rel => exact ⟨f + 1, by omega, by go_num, HNx.out, HBL.out⟩
          case measure => simp [intOf]; omega
    · have HE := kp (check_is HC.out (Q.check_fine HCo.out HFine.out fun j hj => HPre.out j (by rw [HLen.out] at hj; omega)))
      have hge : p.len ≤ f := by omega
      clear hlt
      go_wp2
      go_ret3
      exact ⟨HE.out, HW4.out.trans (HBL.out.mono hs4)⟩
end Go.Proofs.Ytkblgafackmckaa

/- What is wrong with a program first, as the program finds it, walked: Check. -/
namespace Go.Proofs.Ytkblgafackmckaa
open Go.RowKit

theorem counts_of {p : Pg} (hlen : p.fns.length = p.len) (h : countsFault p = 0) : Q.Counts p := by
  unfold countsFault at h
  split at h
  · cases h
  · split at h
    · cases h
    · exact ⟨by omega, by omega, by omega, by omega⟩
theorem counts_check {p : Pg} (hlen : p.fns.length = p.len) (h : countsFault p ≠ 0) : Q.check p = (-1, -1, countsFault p) ∧ (countsFault p = 1 ∨ countsFault p = 4) := by
  unfold countsFault Q.check at *
  rw [hlen]
  split
  · simp
  · split
    · simp
    · rename_i h1 h2
      rw [if_neg h1, if_neg h2] at h
      exact absurd rfl h

set_option maxRecDepth 1000000 in
set_option maxHeartbeats 8000000 in
theorem prog_check_any (B : Nat) (p : Pg) (w : World) (hp : p.Ok w B) (hB : B ≤ w.heap.size) (a b : Int) (c : Nat) (hc : Q.check p = (a, b, c)) :
    Calls Try.prog 27 #[pgA p] w fun e w' => e = .returned (.tuple #[.int .i64 a, .int .i64 b, .int .i64 (c : Int)]) ∧ Below w.heap.size w w' := by
  have HP := kp hp; have HC := kp hc
  have hlen := hp.row.len
  have HLen := kp hlen
  have hlc := hp.lc; have hcm := hp.cm
  unfold maxLen at hcm
  have hcm9 : p.cap ≤ 9223372036854775807 := by omega
  obtain ⟨q, hq⟩ : ∃ q, countsFault p = q := ⟨_, rfl⟩
  have HQ := kp hq
  clear hp hcm hc
  rw [pgA_is]
  by_cases hq0 : q = 0
  · subst hq0
    have HCo := kp (counts_of hlen hq)
    clear hlen hq
    go_enter Try.func27, Try.ntmps27
    go_wp2_with (first
      | ((with_reducible refine wpList_box_agg rfl 24 (.tmp 0) rfl (pgC p) rfl ?_); intro g1 w1 hg1 hk1 hw1; have HK1 := kp hk1; have HW1 := kp hw1; have hs1 := hw1.size; have HP1 := kp (HP.out.below (hw1.mono hB)); clear hg1 hk1 hw1)
      | ((with_reducible show wpList _ _ _ (⟨some 10, _, _, _, _, _⟩ :: _) _ _); go_must (refine wpList_load_blk rfl 24 (.tmp 1) rfl g1 rfl _ (pgC p) _ HK1.out Try.underlying24 rfl pg_size ?_))
      | (go_at_call 42; go_must (refine (prog_checkCounts p _ HQ.out _).mono ?_); rintro e9 w2 ⟨rfl, hw2⟩; have HKp2 := kp (HK1.out.below hw2 HK1.out.lt); obtain ⟨hc0, hc1, hc2, hc3⟩ := pg_cells HKp2.out; have HW2 := kp (HW1.out.trans (hw2.mono hs1)); have hs2 := HW2.out.size; clear hw2))
    clear hc0 hc1 hc2 hc3
    have HP2 := kp (HP.out.below (HW2.out.mono hB))
    have hB2 : B ≤ w2.heap.size := by omega
    go_loopw [18] (fun v18 wr => ∃ f : Nat, f ≤ p.len ∧ v18 = .int .i64 f ∧ (∀ j, j < f → ¬ Q.badFn p j) ∧ Below w2.heap.size w2 wr) (fun v18 _ => p.len - (intOf v18).toNat)
    case atStart => exact ⟨0, by omega, rfl, fun j hj => by omega, Below.refl _ _⟩
    case round =>
      obtain ⟨f, hf, rfl, hpre, hbl⟩ := hrel
      have HPre := kp hpre; have HBL := kp hbl
      have hszr := hbl.size
      have HPr := kp (HP2.out.below (hbl.mono hB2))
      have HKr := kp (HKp2.out.below hbl HKp2.out.lt)
      have hBr : B ≤ wr.heap.size := by omega
      clear hpre hbl
      by_cases hlt : f < p.len
      · obtain ⟨ad, fn, e1, hab0, hx, hok0, hcf⟩ := HPr.out.fn hlt
        rw [e1]
        have HX := kp hx; have HOk := kp hok0
        obtain ⟨a', c', hfa⟩ : ∃ a' c', Q.fnFault p fn = (a', c') := ⟨_, _, rfl⟩
        have HFa := kp hfa
        clear hx hok0 e1 hfa
        by_cases hz : c' = 0
        · subst hz
          have HNx : Kept (∀ j, j < f + 1 → ¬ Q.badFn p j) := kp fun j hj h => by
            by_cases e : j = f
            · subst e
              obtain ⟨fn2, h1, h2⟩ := h
              rw [HX.out] at h1
              cases h1
              rw [HFa.out] at h2
              exact h2 rfl
            · exact HPre.out j (by omega) h
          go_wp2_with (first
            | ((with_reducible show wpList _ _ _ (⟨some 24, _, _, _, _, _⟩ :: _) _ _); go_must (refine wpList_load_blk rfl 24 (.tmp 1) rfl g1 rfl _ (pgC p) _ HKr.out Try.underlying24 rfl pg_size ?_))
            | (go_at_call 43; go_must (refine (prog_checkNodes B p fn _ _ HFa.out _ HPr.out HOk.out hBr).mono ?_); rintro e9 w9 ⟨rfl, hw9⟩; have HB9 := kp (HBL.out.trans (hw9.mono hszr)); clear hw9))
          go_roundw
          case rel => exact ⟨f + 1, by omega, by go_num, HNx.out, HB9.out⟩
          case measure => simp [intOf]; omega
        · have hzb : ((c' : Int) != 0) = true := by rw [bne_iff_ne]; omega
          have HE := kp (check_is HC.out (Q.check_fn HCo.out HX.out (by rw [HFa.out]; exact hz) HPre.out))
          rw [HFa.out] at HE
          clear hz
          go_wp2_with (first
            | ((with_reducible show wpList _ _ _ (⟨some 24, _, _, _, _, _⟩ :: _) _ _); go_must (refine wpList_load_blk rfl 24 (.tmp 1) rfl g1 rfl _ (pgC p) _ HKr.out Try.underlying24 rfl pg_size ?_))
            | (go_at_call 43; go_must (refine (prog_checkNodes B p fn _ _ HFa.out _ HPr.out HOk.out hBr).mono ?_); rintro e9 w9 ⟨rfl, hw9⟩; have HB9 := kp (HBL.out.trans (hw9.mono hszr)); clear hw9))
          go_ret3
          exact ⟨HE.out, HW2.out.trans (HB9.out.mono hs2)⟩
      · have HFine : Kept (∀ j, j < p.fns.length → ¬ Q.badFn p j) := kp fun j hj => HPre.out j (by rw [HLen.out] at hj; omega)
        have hge : p.len ≤ f := by omega
        clear hlt
        go_wp2_with (first
          | ((with_reducible show wpList _ _ _ (⟨some 35, _, _, _, _, _⟩ :: _) _ _); go_must (refine wpList_load_blk rfl 24 (.tmp 1) rfl g1 rfl _ (pgC p) _ HKr.out Try.underlying24 rfl pg_size ?_))
          | (go_at_call 44; go_must (refine (prog_checkCalls B p _ HPr.out hBr HCo.out HFine.out a b c HC.out).mono ?_); rintro e9 w9 ⟨rfl, hw9⟩; have HB9 := kp (HBL.out.trans (hw9.mono hszr)); clear hw9))
        go_ret3
        exact ⟨rfl, HW2.out.trans (HB9.out.mono hs2)⟩
  · obtain ⟨hck, hor⟩ := counts_check hlen (by rw [hq]; exact hq0)
    rw [hq] at hck hor
    have HE := kp (check_is HC.out hck)
    have hqb : ((q : Int) != 0) = true := by rw [bne_iff_ne]; omega
    clear hck hq hlen hq0 hor
    go_enter Try.func27, Try.ntmps27
    go_wp2_with (first
      | ((with_reducible refine wpList_box_agg rfl 24 (.tmp 0) rfl (pgC p) rfl ?_); intro g1 w1 hg1 hk1 hw1; have HK1 := kp hk1; have HW1 := kp hw1; have hs1 := hw1.size; clear hg1 hk1 hw1)
      | ((with_reducible show wpList _ _ _ (⟨some 10, _, _, _, _, _⟩ :: _) _ _); go_must (refine wpList_load_blk rfl 24 (.tmp 1) rfl g1 rfl _ (pgC p) _ HK1.out Try.underlying24 rfl pg_size ?_))
      | (go_at_call 42; go_must (refine (prog_checkCounts p _ HQ.out _).mono ?_); rintro e9 w2 ⟨rfl, hw2⟩; have HW2 := kp (HW1.out.trans (hw2.mono hs1)); clear hw2))
    go_ret3
    exact ⟨HE.out, HW2.out⟩
theorem prog_check (B : Nat) (p : Pg) (w : World) (hp : p.Ok w B) (hB : B ≤ w.heap.size) (_hs : Q.small p = true) (a b : Int) (c : Nat) (hc : Q.check p = (a, b, c)) :
    Calls Try.prog 27 #[pgA p] w fun e w' => e = .returned (.tuple #[.int .i64 a, .int .i64 b, .int .i64 (c : Int)]) ∧ Below w.heap.size w w' := prog_check_any B p w hp hB a b c hc
end Go.Proofs.Ytkblgafackmckaa

/- What the statements of prog begin with, walked: awake. -/
namespace Go.Proofs.Ytkblgafackmckaa
open Go.RowKit

/-- A program of one function of one node, as it is built. -/
def pgOne (g g2 : Nat) (x : Nd) : Pg := ⟨0, 0, 0, some ⟨g2, 0, none⟩, 1, 1, [⟨some ⟨g, 0, none⟩, 1, 1, [x]⟩]⟩
theorem pgOne_ok (x : Nd) (hx : x.Ok) (w : World) (g g2 : Nat) (h1 : Blk w g 47 (ndC x)) (h2 : Blk w g2 71 [.slice (some ⟨g, 0, none⟩) 1 1]) : (pgOne g g2 x).Ok w w.heap.size := by
  refine ⟨by unfold I64; simp [pgOne], by unfold I64; simp [pgOne], by unfold I64; simp [pgOne], ?_, ?_, Nat.le_refl _, by simp [pgOne, maxLen], fun h => by cases h⟩
  · exact Blk.row (f := fnV) (l := [⟨some ⟨g, 0, none⟩, 1, 1, [x]⟩]) h2 rfl (Nat.le_refl _)
  · intro f hf
    have hf1 : f = ⟨some ⟨g, 0, none⟩, 1, 1, [x]⟩ := by simpa [pgOne] using hf
    subst hf1
    refine ⟨⟨⟨rfl, fun _ => ⟨_, rfl, h1.lt, fun k y hy j hj => ?_⟩⟩, fun y hy => ?_⟩, Nat.le_refl _, by simp [maxLen], fun h => by cases h⟩
    · have hk : k = 0 := by
        have := (List.getElem?_eq_some_iff.1 hy).1
        simp at this; exact this
      subst hk
      have hyx : y = x := by simpa using hy.symm
      subst hyx
      rw [Nat.zero_mul, Nat.zero_add, add_start, h1.cell j]
      match j, hj with
      | 0, _ => rfl
      | 1, _ => rfl
      | 2, _ => rfl
      | 3, _ => rfl
    · rw [List.mem_singleton] at hy
      subst hy; exact hx
theorem pgOne_small (g g2 : Nat) (x : Nd) : Q.small (pgOne g g2 x) = true := by simp [Q.small, pgOne]
theorem pgOne_counts (g g2 : Nat) (x : Nd) : Q.Counts (pgOne g g2 x) := by constructor <;> simp [pgOne]
theorem pgOne_fine (g g2 : Nat) (x : Nd) (h : Q.may 0 0 0 1 x 1 = true) : ∀ j, j < (pgOne g g2 x).fns.length → ¬ Q.badFn (pgOne g g2 x) j := by
  rintro j hj ⟨fn, hfn, hb⟩
  have hj0 : j = 0 := by simpa [pgOne] using hj
  subst hj0
  have hf : fn = ⟨some ⟨g, 0, none⟩, 1, 1, [x]⟩ := by simpa [pgOne] using hfn.symm
  subst hf
  refine hb ?_
  rw [Q.fault_none _ _ (by simp) (by simp) ?_]
  rintro i hi ⟨nd, hnd, hm⟩
  have hi0 : i = 0 := by simpa using hi
  subst hi0
  have : nd = x := by simpa using hnd.symm
  subst this
  have hm' : Q.may 0 0 0 1 nd 1 = false := hm
  rw [h] at hm'
  cases hm'
theorem check_return (g g2 : Nat) : Q.check (pgOne g g2 ⟨9, 0, 0, 0⟩) = (0, 0, 0) := by
  refine Q.check_fine (pgOne_counts _ _ _) (pgOne_fine _ _ _ (by decide)) ?_
  rintro j hj ⟨i, fn, nd, hfn, hnd, h7, _⟩
  have hj0 : j = 0 := by simpa [pgOne] using hj
  subst hj0
  have hf : fn = ⟨some ⟨g, 0, none⟩, 1, 1, [⟨9, 0, 0, 0⟩]⟩ := by simpa [pgOne] using hfn.symm
  subst hf
  have hm := List.mem_of_getElem? hnd
  rw [List.mem_singleton] at hm
  subst hm
  cases h7
theorem check_self (g g2 : Nat) : Q.check (pgOne g g2 ⟨7, 0, 0, 0⟩) = (0, 0, 8) :=
  Q.check_round (pgOne_counts _ _ _) (pgOne_fine _ _ _ (by decide)) (f := 0) (i := 0) ⟨_, _, rfl, rfl, rfl, 0, rfl, by simp [pgOne], .inl rfl⟩ (by decide) (by simp [pgOne]) (fun j hj => by omega) (fun j hj => by omega)

/-- The world in which such a program was built. -/
def oneW (w : World) (x : Nd) : World := (w.alloc (.cells #[.int .i64 x.kind, .int .i64 x.arg, .int .i64 x.next, .int .i64 x.alt] 47)).alloc (.cells #[.slice (some ⟨w.heap.size, 0, none⟩) 1 1] 71)
theorem oneW_ok (w : World) (x : Nd) (hx : x.Ok) : (pgOne w.heap.size (w.heap.size + 1) x).Ok (oneW w x) (oneW w x).heap.size :=
  pgOne_ok x hx _ _ _ ((Blk.newA w 47 _ (ndC x) rfl).alloc _) (Blk.newAt rfl (by simp))
theorem oneW_below (w : World) (x : Nd) {B : Nat} {w0 : World} (h : Below B w0 w) (hB : B ≤ w.heap.size) : Below B w0 (oneW w x) := (h.alloc hB _).alloc (by simp; omega) _
theorem nd_ok (k : Int) (h : I64 k) : Nd.Ok ⟨k, 0, 0, 0⟩ := ⟨h, by unfold I64; simp, by unfold I64; simp, by unfold I64; simp⟩
end Go.Proofs.Ytkblgafackmckaa
