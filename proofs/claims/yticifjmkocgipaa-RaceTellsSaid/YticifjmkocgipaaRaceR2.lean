/- The document's races, walked: First. -/
import Derived.Test.YticifjmkocgipaaPk38
namespace Go.Proofs.Yticifjmkocgipaa
open Go.RowKit

theorem results_tmp4r {fn : Func} {t u v z : Tmp} (h : fn.results = #[.tmp t, .tmp u, .tmp v, .tmp z]) (tmps : Array Value) (P : Program) (w : World) :
    (results fn tmps).run P w = .ok (.tuple #[tmps.getD t undef, tmps.getD u undef, tmps.getD v undef, tmps.getD z undef]) w := by
  simp [results, h]
theorem first_yes {p : Pg} {c : M.Cf} {n a b : Nat} (hn : c.ths.length = n) (hab : a < b) (hbn : b < n) (hp : M.pair p c (a : Int) (b : Int) (M.acc p c (a : Int)).1 = true) (h1 : ∀ a' b', a' < b' → b' < n → a' < a → M.NoPair p c a' b') (h2 : ∀ b', a < b' → b' < b → M.NoPair p c a b') :
    M.FirstIs p c (a : Int) (b : Int) (M.acc p c (a : Int)).1 1 := by
  refine .inl ⟨rfl, a, b, rfl, rfl, rfl, hab, by omega, fun h => ?_, fun a' b' hab' hbn' hl => ?_⟩
  · unfold M.NoPair at h
    rw [hp] at h
    exact absurd h (by decide)
  · rcases hl with hl | ⟨rfl, hl⟩
    · exact h1 a' b' hab' (by omega) hl
    · exact h2 b' hab' hl
theorem first_no {p : Pg} {c : M.Cf} {n : Nat} (hn : c.ths.length = n) (h1 : ∀ a' b', a' < b' → b' < n → a' < n → M.NoPair p c a' b') : M.FirstIs p c 0 0 0 0 :=
  .inr ⟨rfl, rfl, rfl, rfl, fun a' b' hab hbn => h1 a' b' hab (by omega) (by omega)⟩
/-- What First hands back. -/
def FirstR (p : Pg) (cf : M.Cf) (w : World) : Ending → World → Prop := fun e w' => ∃ (x y z h : Int), e = .returned (.tuple #[.int .i64 x, .int .i64 y, .int .i64 z, .int .i64 h]) ∧ M.FirstIs p cf x y z h ∧ Below w.heap.size w w'

set_option maxRecDepth 100000 in
set_option maxHeartbeats 3200000 in
theorem ra_first (B : Nat) (p : Pg) (hf : Fine p) (q : Rc) (w : World) (hp : p.Ok w B) (hq : q.Ok w B) (hg : M.Good p q.cf) (hB : B ≤ w.heap.size) :
    Calls Try.prog 16 #[pgA p, rcA q] w (FirstR p q.cf w) := by
  unfold FirstR
  have h8 : q.len ≤ 8 := by rw [← hq.len]; exact hg.most
  have HQ18 := kp (rc_len hg.owns)
  have HP := kp hp; have HQ := kp hq; have HG := kp hg; have HF := kp hf
  have HLen := kp hq.len
  obtain ⟨n, hn⟩ : ∃ n, q.len = n := ⟨_, rfl⟩
  rw [hn] at HLen h8
  have hqc := hq.lc.1; have hqm := hq.lc.2
  unfold maxLen at hqm
  rw [hn] at hqc
  obtain ⟨cp, hcp⟩ : ∃ cp, q.cap = cp := ⟨_, rfl⟩
  rw [hcp] at hqc hqm
  have HE0 : Kept (rcC q = .slice q.A n cp :: .slice q.A2 q.len q.cap2 :: q.ow.map natV) := kp (by rw [← hn, ← hcp]; rfl)
  clear hp hq hg hf hn hcp
  rw [rcA_is, pgA_is]
  go_enter Try.func16, Try.ntmps16
  go_wp2_with (first
    | ((with_reducible refine wpList_box_agg rfl 24 (.tmp 0) rfl (pgC p) rfl ?_); intro g1 w1 hg1 hk1 hw1; have HK1 := kp hk1; have HW1 := kp hw1; have hs1 := hw1.size; have hl1 := hk1.lt; clear hk1 hw1)
    | ((with_reducible refine wpList_box_agg rfl 39 (.tmp 1) rfl (rcC q) rfl ?_); intro g2 w2 hg2 hk2 hw2; have HK2 := kp hk2; have HK12 := kp (HK1.out.below hw2 hl1); have HW2 := kp (HW1.out.trans (hw2.mono hs1)); have hs2 := HW2.out.size; have hl12 := HK12.out.lt; have hl2 := hk2.lt; clear hk2 hw2))
  go_loopw [8] (fun v8 wr => ∃ a : Nat, a ≤ n ∧ v8 = .int .i64 a ∧ (∀ a' b', a' < b' → b' < n → a' < a → M.NoPair p q.cf a' b') ∧ Below w2.heap.size w2 wr) (fun v8 _ => n - (intOf v8).toNat)
  case atStart => exact ⟨0, by omega, rfl, (fun _ _ _ _ h => by omega), Below.refl _ _⟩
  case round =>
    obtain ⟨wA, rfl⟩ : ∃ x, x = wr := ⟨_, rfl⟩
    obtain ⟨a, ha, rfl, hbef, hbw⟩ := hrel
    have HBef := kp hbef; have HBw := kp hbw
    have hsz := hbw.size
    have HKa := kp (HK2.out.below hbw hl2)
    have hla := HKa.out.lt
    have hca := HKa.out.cell 0
    rw [HE0.out, List.getElem?_cons_zero] at hca
    clear hbef hbw
    by_cases hlt : a < n
    · have HIa : Kept (I64 (a : Int)) := kp (by unfold I64; omega)
      obtain ⟨gl, hgl⟩ : ∃ gl, (M.acc p q.cf (a : Int)).1 = gl := ⟨_, rfl⟩
      obtain ⟨how, hhow⟩ : ∃ how, (M.acc p q.cf (a : Int)).2 = how := ⟨_, rfl⟩
      have HAc : Kept (M.acc p q.cf (a : Int) = (gl, how)) := kp (by rw [← hgl, ← hhow])
      clear hgl hhow
      go_wp2
      clear hca
      go_loopw [9] (fun v9 W => ∃ b : Nat, a < b ∧ b ≤ n ∧ v9 = .int .i64 b ∧ (∀ b', a < b' → b' < b → M.NoPair p q.cf a b') ∧ Below w2.heap.size w2 W) (fun v9 _ => n - (intOf v9).toNat)
      case atStart => exact ⟨a + 1, by omega, by omega, by go_num, (fun _ _ h => by omega), HBw.out⟩
      case round =>
        obtain ⟨b, hab, hb, rfl, hbf, hbj⟩ := hrel
        have HBf := kp hbf
        have hsj := hbj.size
        have HBW := kp (HW2.out.trans (hbj.mono hs2))
        have HBj := kp hbj
        have hsw := HBW.out.size
        have HKr := kp (HK2.out.below hbj hl2); have HK1r := kp (HK12.out.below hbj hl12)
        have hlr := HKr.out.lt; have hl1r := HK1r.out.lt
        have hcr := HKr.out.cell 0
        rw [HE0.out, List.getElem?_cons_zero] at hcr
        have HPr := kp (HP.out.below (HBW.out.mono hB)); have HQr := kp (HQ.out.below (HBW.out.mono hB))
        have hBr : B ≤ wr.heap.size := by omega
        clear hbf hbj
        by_cases hbl : b < n
        · have HIb : Kept (I64 (b : Int)) := kp (by unfold I64; omega)
          obtain ⟨r, hr⟩ : ∃ r, M.pair p q.cf (a : Int) (b : Int) gl = r := ⟨_, rfl⟩
          have HR := kp hr
          clear hr
          go_wp2_with (first
            | ((with_reducible show wpList _ _ _ (⟨some 29, _, _, _, _, _⟩ :: _) _ _); go_must (refine wpList_load_blk rfl 24 (.tmp 2) rfl g1 rfl _ (pgC p) _ HK1r.out Try.underlying24 rfl pg_size ?_))
            | ((with_reducible show wpList _ _ _ (⟨some 30, _, _, _, _, _⟩ :: _) _ _); go_must (refine wpList_load_blk rfl 39 (.tmp 3) rfl g2 rfl _ (rcC q) _ HKr.out Try.underlying39 rfl (by rw [HQ18.out]; exact ref_size18) ?_))
            | (go_at_call 14; fail))
          refine (ra_at B p HF.out q wr HPr.out HQr.out HG.out hBr (a : Int) HIa.out gl how HAc.out).mono ?_
          rintro e w4 ⟨rfl, hb4⟩
          have HB4 := kp (HBj.out.trans (hb4.mono hsj)); have HW4 := kp (HBW.out.trans (hb4.mono hsw)); have hs4 := HW4.out.size
          have HK14 := kp (HK1r.out.below hb4 hl1r); have HK24 := kp (HKr.out.below hb4 hlr)
          have hsz4 := hb4.size
          clear hb4 hcr
          go_wp2_with (first
            | ((with_reducible show wpList _ _ _ (⟨some 35, _, _, _, _, _⟩ :: _) _ _); go_must (refine wpList_load_blk rfl 24 (.tmp 2) rfl g1 rfl _ (pgC p) _ HK14.out Try.underlying24 rfl pg_size ?_))
            | ((with_reducible show wpList _ _ _ (⟨some 36, _, _, _, _, _⟩ :: _) _ _); go_must (refine wpList_load_blk rfl 39 (.tmp 3) rfl g2 rfl _ (rcC q) _ HK24.out Try.underlying39 rfl (by rw [HQ18.out]; exact ref_size18) ?_))
            | (go_at_call 18; fail))
          refine (ra_pair B p HF.out q w4 (HP.out.below (HW4.out.mono hB)) (HQ.out.below (HW4.out.mono hB)) HG.out (by omega) (a : Int) (b : Int) gl HIa.out HIb.out r HR.out).mono ?_
          rintro e w5 ⟨rfl, hb5⟩
          have HB5 := kp (HB4.out.trans (hb5.mono (by omega))); have HW5 := kp (HW4.out.trans (hb5.mono hs4))
          clear hb5
          cases r
          · go_wp2
            go_roundw
            case rel =>
              refine ⟨b + 1, by omega, by omega, by go_num, fun b' h1 h2 => ?_, HB5.out⟩
              by_cases e : b' = b
              · subst e
                unfold M.NoPair
                rw [HAc.out]
                exact HR.out
              · exact HBf.out b' h1 (by omega)
            case measure => simp [intOf]; omega
          · have HFst : Kept (M.FirstIs p q.cf (a : Int) (b : Int) gl 1) := kp (by
              have h := first_yes HLen.out hab hbl (by rw [HAc.out]; exact HR.out) HBef.out HBf.out
              rw [HAc.out] at h
              exact h)
            go_wp2
            (try simp only [Exit.inBlock, Exit.then])
            refine bodyPost_ret (results_tmp4r rfl _ _ _) rfl ?_
            exact ⟨_, _, _, _, rfl, HFst.out, HW5.out⟩
        · have hbe : n ≤ b := by omega
          go_wp2
          go_roundw
          case rel =>
            refine ⟨a + 1, by omega, by go_num, fun a' b' h1 h2 h3 => ?_, HBj.out⟩
            by_cases e : a' = a
            · subst e
              exact HBf.out b' h1 (by omega)
            · exact HBef.out a' b' h1 h2 (by omega)
          case measure => simp [intOf]; omega
    · have HFst : Kept (M.FirstIs p q.cf 0 0 0 0) := kp (first_no HLen.out (fun a' b' h1 h2 h3 => HBef.out a' b' h1 h2 (by omega)))
      have HBW := kp (HW2.out.trans (HBw.out.mono hs2))
      go_wp2
      (try simp only [Exit.inBlock, Exit.then])
      refine bodyPost_ret (results_tmp4r rfl _ _ _) rfl ?_
      exact ⟨0, 0, 0, 0, rfl, HFst.out, HBW.out⟩
end Go.Proofs.Yticifjmkocgipaa
