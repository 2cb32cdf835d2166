/- RaceP2, RaceP3, RaceP4, in one text. -/
import Derived.Test.YtkhfolpffjihgaaPk28
import Derived.Test.YtkhfolpffjihgaaPk9
import Derived.Test.YtkhfolpffjihgaaPk20
import Derived.Test.YtkhfolpffjihgaaPk15
namespace Go.Proofs.Ytkhfolpffjihgaa
open Go.RowKit
theorem touch_info : (Try.prog.info? 114).map (fun i => (i.zero, i.size, i.bytes)) = some (some (.agg #[.int .i64 0, .int .i64 0, .bool false]), 3, 24) := by kernel_rfl
theorem acc_of {p : Pg} {c : M.Cf} {k : Nat} {b : Bool} {x : Nd} (hb : M.lives c (k : Int) = b) (hx : atNd p c (k : Int) = x) : M.acc p c (k : Int) = if (b && (x.kind == 1 || x.kind == 2)) = true then (x.arg, x.kind) else (0, 0) := by
  unfold M.acc
  rw [Int.toNat_natCast, hb]
  cases b with
  | false => rfl
  | true =>
    have e : M.node p c k = x := by rw [← hx]; unfold atNd; rw [hb]; rfl
    rw [e, Bool.true_and]
    by_cases h1 : x.kind = 1 ∨ x.kind = 2
    · rw [if_pos ⟨rfl, h1⟩, if_pos (by simpa using h1)]
    · rw [if_neg (fun h => h1 h.2), if_neg (by simpa using h1)]
theorem acc_of_yes {p : Pg} {c : M.Cf} {k : Nat} {x : Nd} (hb : M.lives c (k : Int) = true) (hx : atNd p c (k : Int) = x) (h : (x.kind == 1 || x.kind == 2) = true) : M.acc p c (k : Int) = (x.arg, x.kind) := by
  rw [acc_of hb hx, h]; rfl
theorem acc_of_no {p : Pg} {c : M.Cf} {k : Nat} {b : Bool} {x : Nd} (hb : M.lives c (k : Int) = b) (hx : atNd p c (k : Int) = x) (h : (b && (x.kind == 1 || x.kind == 2)) = false) : M.acc p c (k : Int) = (0, 0) := by
  rw [acc_of hb hx, h]; rfl
theorem atNd_ok {p : Pg} {c : M.Cf} (hg : M.Good p c) {w : World} {B : Nat} (hp : p.Ok w B) (k : Nat) : (atNd p c (k : Int)).Ok := by
  unfold atNd
  by_cases h : M.lives c (k : Int) = true
  · rw [if_pos h, Int.toNat_natCast]
    rw [M.lives_nat] at h
    obtain ⟨fn, hfn, _, hx⟩ := M.node_is hg h
    obtain ⟨_, fn', _, _, hfn', hok, _⟩ := hp.fn (show (M.top (M.th c k).stack).1 < p.len by rw [← hp.row.len]; exact (List.getElem?_eq_some_iff.1 hfn).1)
    rw [hfn] at hfn'
    cases hfn'
    exact hok.nodes.2 _ (List.mem_of_getElem? hx)
  · rw [if_neg h]
    exact nd_zero_ok
set_option maxRecDepth 100000 in
set_option maxHeartbeats 1600000 in
theorem race_touches (B : Nat) (p : Pg) (hf : Fine p) (q : Pc) (w : World) (hp : p.Ok w B) (hq : q.Ok w B) (hg : M.Good p q.cf) (hB : B ≤ w.heap.size) :
    Calls Try.prog 49 #[pgA p, pcA q] w fun e w' => ∃ v, e = .returned v ∧ OwnR 3 tcV w' w.heap.size 114 v (touchesTo p q.cf q.len) ∧ Below w.heap.size w w' := by
  have h8 : q.len ≤ 8 := by rw [← hq.len]; exact hg.most
  have HQ17 := kp (jG hg.owns)
  have HP := kp hp; have HQ := kp hq; have HG := kp hg; have HF := kp hf
  have hqc := hq.lc; have hqm := hq.cm
  unfold maxLen at hqm
  have HE0 : Kept (pcC q = .slice q.A q.len q.cap :: q.ow.map natV) := kp rfl
  clear hp hq hg hf
  rw [lC, jO]
  go_enter Try.func49, Try.ntmps49
  go_wp2_with (first
    | ((with_reducible refine j2 rfl 38 (.tmp 0) rfl (pgC p) rfl ?_); intro g1 w1 hg1 hk1 hw1; have HK1 := kp hk1; have HW1 := kp hw1; have hs1 := hw1.size; have hl1 := hk1.lt; clear hk1 hw1)
    | ((with_reducible refine j2 rfl 43 (.tmp 1) rfl (pcC q) rfl ?_); intro g2 w2 hg2 hk2 hw2; have HK2 := kp hk2; have HK12 := kp (HK1.out.below hw2 hl1); have HW2 := kp (HW1.out.trans (hw2.mono hs1)); have hs2 := HW2.out.size; have hl12 := HK12.out.lt; have hl2 := hk2.lt
       have hc0 := hk2.cell 0
       rw [HE0.out, List.getElem?_cons_zero] at hc0
       clear hk2 hw2))
  clear hc0
  go_loopw [5, 15] (fun v5 v15 wr => ∃ i : Nat, i ≤ q.len ∧ v15 = .int .i64 i ∧ OwnR 3 tcV wr w2.heap.size 114 v5 (touchesTo p q.cf i) ∧ Below w2.heap.size w2 wr) (fun _ v15 _ => q.len - (intOf v15).toNat)
  case atStart => exact ⟨0, by omega, rfl, OwnR.nil _ _ _ _ _, Below.refl _ _⟩
  case round =>
    obtain ⟨i, hi, rfl, hown, hbw⟩ := hrel
    obtain ⟨A5, c5, rfl, hc5, hm5, _⟩ := hown.form
    have HOwn := kp hown; have HBw := kp hbw
    obtain ⟨n5, hn5⟩ : ∃ n5, (touchesTo p q.cf i).length = n5 := ⟨_, rfl⟩
    rw [hn5] at HOwn hc5 ⊢
    have HN5 := kp hn5
    unfold maxLen at hm5
    have hsz := hbw.size
    have hal := yH p q.cf i
    rw [hn5] at hal
    have HBW := kp (HW2.out.trans (hbw.mono hs2))
    have hsw := HBW.out.size
    have HK1r := kp (HK12.out.below hbw hl12); have HK2r := kp (HK2.out.below hbw hl2)
    have HPr := kp (HP.out.below (HBW.out.mono hB)); have HQr := kp (HQ.out.below (HBW.out.mono hB))
    have hBr : B ≤ wr.heap.size := by omega
    clear hown hbw hn5
    by_cases hlt : i < q.len
    · have HI : Kept (I64 (i : Int)) := kp (by unfold I64; omega)
      obtain ⟨b, hb⟩ : ∃ b, M.lives q.cf (i : Int) = b := ⟨_, rfl⟩
      obtain ⟨x, hx⟩ : ∃ x, atNd p q.cf (i : Int) = x := ⟨_, rfl⟩
      have HXok : Kept x.Ok := kp (by rw [← hx]; exact atNd_ok HG.out HPr.out i)
      have HB := kp hb; have HX := kp hx
      obtain ⟨ac, hac⟩ : ∃ ac, (x.kind == 1 || x.kind == 2) = ac := ⟨_, rfl⟩
      have HAc := kp hac
      clear hb hx hac
      by_cases hyes : b = true ∧ ac = true
      · obtain ⟨rfl, rfl⟩ := hyes
        have HA := kp (acc_of_yes HB.out HX.out HAc.out)
        have hpos : 0 < (M.acc p q.cf (i : Int)).2 := by
          rw [HA.out]
          have h := HAc.out
          rw [Bool.or_eq_true, beq_iff_eq, beq_iff_eq] at h
          show 0 < x.kind
          omega
        have HE : Kept (touchesTo p q.cf (i + 1) = touchesTo p q.cf i ++ [⟨i, x.arg, x.kind == 2⟩]) := kp (by
          rw [touches_yes hpos]
          unfold tcOf
          rw [HA.out]
          congr 2)
        clear hpos
        obtain ⟨wrb, hwrb⟩ : ∃ wrb, (x.kind == 2) = wrb := ⟨_, rfl⟩
        rw [hwrb] at HE
        have HWrb := kp hwrb
        clear hwrb
        go_wp2_with (first
          | ((with_reducible show Sl 19); go_must (refine j1 rfl 43 (.tmp 3) rfl g2 rfl _ (pcC q) _ HK2r.out Try.underlying43 rfl (by rw [HQ17.out]; exact j6) ?_))
          | ((with_reducible show Sl 20); go_must (refine j1 rfl 38 (.tmp 2) rfl g1 rfl _ (pgC p) _ HK1r.out Try.underlying38 rfl jB ?_))
          | (go_at_call 44; go_must (refine (q6 B p HF.out q _ HPr.out HQr.out HG.out hBr (i : Int) HI.out true HB.out x HX.out).mono ?_); rintro e w5 ⟨rfl, hb5⟩
             have HB5 := kp hb5; have hs5 := hb5.size; clear hb5)
          | ((with_reducible show Sl 7); go_must (refine j3 rfl 75 rfl (ndC ⟨0, 0, 0, 0⟩) jR ?_); intro g7 w7 hg7 hk7 hw7; have HK7 := kp hk7; have HG7 := kp hg7; have HB7 := kp (HB5.out.trans (hw7.mono hs5)); have hs7 := HB7.out.size; clear hk7 hw7 hg7)
          | ((with_reducible show Sn); go_must (refine j4 rfl 75 (.tmp 7) (.tmp 23) rfl g7 (ndC x) rfl rfl _ _ HK7.out jK rfl (jS x) ?_); intro w8 hk8 hg8 hs8'; have HK8 := kp hk8; have HB8 := kp (HB7.out.grown hg8 hs7 (fun k e => by cases e; have := HG7.out; omega)); have hs8 := HB8.out.size; clear hk8 hg8 hs8')
          | ((with_reducible show Sl 26); go_must (refine j1 rfl 75 (.tmp 7) rfl g7 rfl _ (ndC x) _ HK8.out Try.underlying75 rfl jK ?_))
          | (go_at_call 76; go_must (refine (yP x HXok.out _).mono ?_); rintro e w9 ⟨rfl, hb9⟩; rw [HAc.out, HWrb.out]
             have HB9 := kp (HB8.out.trans (hb9.mono hs8)); have hs9 := HB9.out.size; have HO9 := kp (HOwn.out.below HB9.out (Nat.le_refl _)); clear hb9)
          | (at_builtin; go_must (refine lF rfl (.tmp 35) (.tmp 40) 110 rfl w2.heap.size 114 3 _ 24 Try.underlying110 touch_info rfl (by omega) tcV tcV_one _ (.slice A5 n5 c5) (touchesTo p q.cf i) ⟨i, x.arg, wrb⟩ rfl HO9.out _ 1 rfl rfl _ rfl (by rw [HN5.out]; unfold maxLen; omega) (by rw [HN5.out]; omega) (by omega) ?_); intro v10 w10 hown10 hgr10
             have HO10 := kp hown10; have HB10 := kp ((HBw.out.trans (HB9.out.mono hsz)).grown hgr10.1 (HBw.out.trans (HB9.out.mono hsz)).size (fun k hk => (HO9.out.block k hk).1)); clear hown10 hgr10))
        go_roundw
        case rel => exact ⟨i + 1, by omega, by go_num, by rw [HE.out]; exact HO10.out, HB10.out⟩
        case measure => simp [intOf]; omega
      · have hno : (b && ac) = false := by cases b <;> cases ac <;> simp_all
        have HA := kp (acc_of_no HB.out HX.out (by rw [HAc.out]; exact hno))
        have HE : Kept (touchesTo p q.cf (i + 1) = touchesTo p q.cf i) := kp (touches_no (by rw [HA.out]; exact Int.lt_irrefl 0))
        clear hyes
        obtain ⟨wrb, hwrb⟩ : ∃ wrb, (x.kind == 2) = wrb := ⟨_, rfl⟩
        have HWrb := kp hwrb
        clear hwrb
        cases b
        · clear hno
          go_wp2_with (first
            | ((with_reducible show Sl 19); go_must (refine j1 rfl 43 (.tmp 3) rfl g2 rfl _ (pcC q) _ HK2r.out Try.underlying43 rfl (by rw [HQ17.out]; exact j6) ?_))
            | ((with_reducible show Sl 20); go_must (refine j1 rfl 38 (.tmp 2) rfl g1 rfl _ (pgC p) _ HK1r.out Try.underlying38 rfl jB ?_))
            | (go_at_call 44; go_must (refine (q6 B p HF.out q _ HPr.out HQr.out HG.out hBr (i : Int) HI.out false HB.out x HX.out).mono ?_); rintro e w5 ⟨rfl, hb5⟩
               have HB5 := kp hb5; have hs5 := hb5.size; clear hb5)
            | ((with_reducible show Sl 7); go_must (refine j3 rfl 75 rfl (ndC ⟨0, 0, 0, 0⟩) jR ?_); intro g7 w7 hg7 hk7 hw7; have HK7 := kp hk7; have HG7 := kp hg7; have HB7 := kp (HB5.out.trans (hw7.mono hs5)); have hs7 := HB7.out.size; clear hk7 hw7 hg7)
            | ((with_reducible show Sn); go_must (refine j4 rfl 75 (.tmp 7) (.tmp 23) rfl g7 (ndC x) rfl rfl _ _ HK7.out jK rfl (jS x) ?_); intro w8 hk8 hg8 hs8'; have HK8 := kp hk8; have HB8 := kp (HB7.out.grown hg8 hs7 (fun k e => by cases e; have := HG7.out; omega)); have hs8 := HB8.out.size; clear hk8 hg8 hs8')
            | ((with_reducible show Sl 26); go_must (refine j1 rfl 75 (.tmp 7) rfl g7 rfl _ (ndC x) _ HK8.out Try.underlying75 rfl jK ?_))
            | (go_at_call 76; go_must (refine (yP x HXok.out _).mono ?_); rintro e w9 ⟨rfl, hb9⟩; rw [HAc.out, HWrb.out]
               have HB9 := kp (HB8.out.trans (hb9.mono hs8)); have hs9 := HB9.out.size; have HO9 := kp (HOwn.out.below HB9.out (Nat.le_refl _)); clear hb9))
          go_roundw
          case rel => exact ⟨i + 1, by omega, by go_num, by rw [HE.out]; exact HO9.out, HBw.out.trans (HB9.out.mono hsz)⟩
          case measure => simp [intOf]; omega
        · have hacf : ac = false := by simpa using hno
          subst hacf
          clear hno
          go_wp2_with (first
            | ((with_reducible show Sl 19); go_must (refine j1 rfl 43 (.tmp 3) rfl g2 rfl _ (pcC q) _ HK2r.out Try.underlying43 rfl (by rw [HQ17.out]; exact j6) ?_))
            | ((with_reducible show Sl 20); go_must (refine j1 rfl 38 (.tmp 2) rfl g1 rfl _ (pgC p) _ HK1r.out Try.underlying38 rfl jB ?_))
            | (go_at_call 44; go_must (refine (q6 B p HF.out q _ HPr.out HQr.out HG.out hBr (i : Int) HI.out true HB.out x HX.out).mono ?_); rintro e w5 ⟨rfl, hb5⟩
               have HB5 := kp hb5; have hs5 := hb5.size; clear hb5)
            | ((with_reducible show Sl 7); go_must (refine j3 rfl 75 rfl (ndC ⟨0, 0, 0, 0⟩) jR ?_); intro g7 w7 hg7 hk7 hw7; have HK7 := kp hk7; have HG7 := kp hg7; have HB7 := kp (HB5.out.trans (hw7.mono hs5)); have hs7 := HB7.out.size; clear hk7 hw7 hg7)
            | ((with_reducible show Sn); go_must (refine j4 rfl 75 (.tmp 7) (.tmp 23) rfl g7 (ndC x) rfl rfl _ _ HK7.out jK rfl (jS x) ?_); intro w8 hk8 hg8 hs8'; have HK8 := kp hk8; have HB8 := kp (HB7.out.grown hg8 hs7 (fun k e => by cases e; have := HG7.out; omega)); have hs8 := HB8.out.size; clear hk8 hg8 hs8')
            | ((with_reducible show Sl 26); go_must (refine j1 rfl 75 (.tmp 7) rfl g7 rfl _ (ndC x) _ HK8.out Try.underlying75 rfl jK ?_))
            | (go_at_call 76; go_must (refine (yP x HXok.out _).mono ?_); rintro e w9 ⟨rfl, hb9⟩; rw [HAc.out, HWrb.out]
               have HB9 := kp (HB8.out.trans (hb9.mono hs8)); have hs9 := HB9.out.size; have HO9 := kp (HOwn.out.below HB9.out (Nat.le_refl _)); clear hb9))
          go_roundw
          case rel => exact ⟨i + 1, by omega, by go_num, by rw [HE.out]; exact HO9.out, HBw.out.trans (HB9.out.mono hsz)⟩
          case measure => simp [intOf]; omega
    · have he : i = q.len := by omega
      have HO : Kept (OwnR 3 tcV wr w2.heap.size 114 (.slice A5 n5 c5) (touchesTo p q.cf q.len)) := kp (by rw [← he]; exact HOwn.out)
      have hge : q.len ≤ i := by omega
      clear hlt he
      go_wp2
      go_ret
      exact ⟨_, rfl, HO.out.less hs2, HBW.out⟩
theorem touches_open {w w' : World} {v : Value} {l : List Tc} {e : TypeId} (h : OwnR 3 tcV w' w.heap.size e v l) {n : Nat} (hn : l.length = n) : ∃ A c, v = .slice A n c ∧ n ≤ c ∧ c ≤ maxLen ∧ Recs 3 tcV w' w'.heap.size A n l := by
  subst hn
  exact h.form
theorem Recs.cut3 {w : World} {B n : Nat} {ad : Addr} {l : List Tc} (h : Recs 3 tcV w B (some ad) n l) {k : Nat} (hk : k ≤ n) : Recs 3 tcV w B (some (ad.add (k * 3))) (n - k) (l.drop k) :=
  ⟨by rw [List.length_drop, h.len], fun h0 => by
    obtain ⟨ad', e, hb, hc⟩ := h.cells (by omega)
    cases e
    refine ⟨_, rfl, by rw [j8]; exact hb, fun j x hx i hi => ?_⟩
    rw [List.getElem?_drop] at hx
    rw [qQ, show k * 3 + (j * 3 + i) = (k + j) * 3 + i by omega]
    exact hc (k + j) x hx i hi⟩
theorem first_more {l : List Tc} {i : Nat} {x : Tc} (h : ∀ (i' j' : Nat) x' y', i' < j' → l[i']? = some x' → l[j']? = some y' → i' < i → races x' y' = false) (hx : l[i]? = some x) (hall : ∀ y ∈ l.drop (i + 1), races x y = false) :
    ∀ (i' j' : Nat) x' y', i' < j' → l[i']? = some x' → l[j']? = some y' → i' < i + 1 → races x' y' = false := by
  intro i' j' x' y' h1 h2 h3 h4
  by_cases e : i' = i
  · subst e
    rw [hx] at h2
    cases h2
    refine hall y' (List.mem_of_getElem? (i := j' - (i' + 1)) ?_)
    rw [List.getElem?_drop, show i' + 1 + (j' - (i' + 1)) = j' by omega]
    exact h3
  · exact h i' j' x' y' h1 h2 h3 (by omega)
theorem zV {fn : Func} {t u v z : Tmp} (h : fn.results = #[.tmp t, .tmp u, .tmp v, .tmp z]) (tmps : Array Value) (P : Program) (w : World) :
    (results fn tmps).run P w = .ok (.tuple #[tmps.getD t undef, tmps.getD u undef, tmps.getD v undef, tmps.getD z undef]) w := by
  simp [results, h]
def FirstPost (p : Pg) (cf : M.Cf) (w : World) : Ending → World → Prop := fun e w' => ∃ (x y z : Int) (b : Bool), e = .returned (.tuple #[.int .i64 x, .int .i64 y, .int .i64 z, .bool b]) ∧ M.FirstIs p cf x y z (if b = true then 1 else 0) ∧ Below w.heap.size w w'
set_option maxRecDepth 100000 in
set_option maxHeartbeats 3200000 in
theorem race_first (B : Nat) (p : Pg) (hf : Fine p) (q : Pc) (w : World) (hp : p.Ok w B) (hq : q.Ok w B) (hg : M.Good p q.cf) (hB : B ≤ w.heap.size) :
    Calls Try.prog 30 #[pgA p, pcA q] w (FirstPost p q.cf w) := by
  unfold FirstPost
  have h8 : q.len ≤ 8 := by rw [← hq.len]; exact hg.most
  have HQ17 := kp (jG hg.owns)
  have HP := kp hp; have HQ := kp hq; have HG := kp hg; have HF := kp hf
  have HLen := kp hq.len
  clear hp hq hg hf
  rw [lC, jO]
  go_enter Try.func30, Try.ntmps30
  go_wp2_with (first
    | ((with_reducible refine j2 rfl 38 (.tmp 0) rfl (pgC p) rfl ?_); intro g1 w1 hg1 hk1 hw1; have HK1 := kp hk1; have HW1 := kp hw1; have hs1 := hw1.size; have hl1 := hk1.lt; clear hk1 hw1)
    | ((with_reducible refine j2 rfl 43 (.tmp 1) rfl (pcC q) rfl ?_); intro g2 w2 hg2 hk2 hw2; have HK2 := kp hk2; have HK12 := kp (HK1.out.below hw2 hl1); have HW2 := kp (HW1.out.trans (hw2.mono hs1)); have hs2 := HW2.out.size; have hl12 := HK12.out.lt; have hl2 := hk2.lt; clear hk2 hw2)
    | ((with_reducible show Sl 12); go_must (refine j1 rfl 38 (.tmp 2) rfl g1 rfl _ (pgC p) _ HK12.out Try.underlying38 rfl jB ?_))
    | ((with_reducible show Sl 13); go_must (refine j1 rfl 43 (.tmp 3) rfl g2 rfl _ (pcC q) _ HK2.out Try.underlying43 rfl (by rw [HQ17.out]; exact j6) ?_))
    | (go_at_call 49; fail))
  refine (race_touches B p HF.out q w2 (HP.out.below (HW2.out.mono hB)) (HQ.out.below (HW2.out.mono hB)) HG.out (by omega)).mono ?_
  rintro e w3 ⟨v, rfl, hown, hb3⟩
  obtain ⟨n, hn⟩ : ∃ n, (touchesTo p q.cf q.len).length = n := ⟨_, rfl⟩
  obtain ⟨A, c, rfl, hnc, hcm, hrec⟩ := touches_open hown hn
  obtain ⟨l, hl⟩ : ∃ l, touchesTo p q.cf q.len = l := ⟨_, rfl⟩
  have hn8 : n ≤ 8 := by have := yH p q.cf q.len; omega
  rw [hl] at hrec
  have HRec := kp hrec; have HL := kp hl
  have HW3 := kp (HW2.out.trans (hb3.mono hs2))
  have hs3 := HW3.out.size
  unfold maxLen at hcm
  clear hown hb3 hn hrec hl
  go_wp2
  go_loopw [17] (fun v17 wr => ∃ i : Nat, i ≤ n ∧ v17 = .int .i64 i ∧ (∀ (i' j' : Nat) x' y', i' < j' → l[i']? = some x' → l[j']? = some y' → i' < i → races x' y' = false) ∧ Below w3.heap.size w3 wr) (fun v17 _ => n - (intOf v17).toNat)
  case atStart => exact ⟨0, by omega, rfl, (fun _ _ _ _ _ _ _ h => by omega), Below.refl _ _⟩
  case round =>
    obtain ⟨i, hi, rfl, hbef, hbw⟩ := hrel
    have HBef := kp hbef; have HBw := kp hbw
    have hsz := hbw.size
    have HRec2 := kp ((HRec.out.below hbw).more hsz)
    have HBW := kp (HW3.out.trans (hbw.mono hs3))
    clear hbef hbw
    by_cases hlt : i < n
    · obtain ⟨ad, x, rfl, hab, hx, hat⟩ := tc_at HRec2.out hlt
      have HAt := kp hat; have HX := kp hx
      clear hat hx
      by_cases hci : c = i + 1
      · subst hci
        have HAll : Kept (∀ y ∈ l.drop (i + 1), races x y = false) := kp (by rw [List.drop_of_length_le (by have := HRec2.out.len; omega)]; intro y hy; cases hy)
        go_wp2_with (first
          | (go_at_call 50; fail))
        refine (race_rival wr.heap.size (ad.add (i * 3)) x (some ad) 0 0 [] wr HAt.out (by rw [j8]; exact hab) ⟨rfl, fun h => by omega⟩ (by omega) (Nat.le_refl _)).mono ?_
        rintro e w5 ⟨vr, rfl, hvr, hb5⟩
        have HB5 := kp (HBw.out.trans (hb5.mono hsz))
        have hvn : vr = .pointer none := by
          rcases hvr with ⟨_, j, y, _, hy, _⟩ | h
          · simp at hy
          · exact h.1
        subst hvn
        clear hb5 hvr
        go_wp2
        go_roundw
        case rel => exact ⟨i + 1, by omega, by go_num, first_more HBef.out HX.out HAll.out, HB5.out⟩
        case measure => simp [intOf]; omega
      · have HCut := kp (HRec2.out.cut3 (show i + 1 ≤ n by omega))
        go_wp2_with (first
          | (go_at_call 50; fail))
        refine (race_rival wr.heap.size (ad.add (i * 3)) x (some (ad.add ((i + 1) * 3))) (n - (i + 1)) (c - (i + 1)) _ wr HAt.out (by rw [j8]; exact hab) HCut.out (by omega) (Nat.le_refl _)).mono ?_
        rintro e w5 ⟨vr, rfl, hvr, hb5⟩
        have HB5 := kp (HBw.out.trans (hb5.mono hsz))
        have HRec5 := kp (HRec2.out.below hb5)
        have HAt5 := kp (HAt.out.below hb5 (by rw [j8]; exact hab))
        have HVr := kp hvr
        clear hb5 hvr
        rcases HVr.out with ⟨ad', j, y, hA', hy, hrr, hmin, rfl⟩ | ⟨rfl, hall⟩
        · obtain rfl : ad.add ((i + 1) * 3) = ad' := Option.some.inj hA'
          rw [List.getElem?_drop] at hy
          have HFst : Kept (M.FirstIs p q.cf (x.who : Int) (y.who : Int) x.glob 1) := kp (first_some HLen.out (show i < i + 1 + j by omega) (by rw [HL.out]; exact HX.out) (by rw [HL.out]; exact hy) hrr (by
            rw [HL.out]
            intro i' j' x' y' h1 h2 h3 h4
            rcases h4 with h4 | ⟨h4, h5⟩
            · exact HBef.out i' j' x' y' h1 h2 h3 h4
            · subst h4
              rw [HX.out] at h2
              cases h2
              refine hmin (j' - (i' + 1)) y' (by omega) ?_
              rw [List.getElem?_drop, show i' + 1 + (j' - (i' + 1)) = j' by omega]
              exact h3))
          obtain ⟨ad2, y', e2, _, hy', hyat⟩ := tc_at HRec5.out (show i + 1 + j < n by rw [← HRec5.out.len]; exact (List.getElem?_eq_some_iff.1 hy).1)
          obtain rfl : ad = ad2 := Option.some.inj e2
          obtain rfl : y = y' := by rw [hy] at hy'; exact Option.some.inj hy'
          have hx0 := HAt5.out.who; have hx1 := HAt5.out.glob
          have hy0 := hyat.who
          have ea : (ad.add ((i + 1) * 3)).add (j * 3) = ad.add ((i + 1 + j) * 3) := by rw [qQ, show (i + 1) * 3 + j * 3 = (i + 1 + j) * 3 by omega]
          rw [ea]
          obtain ⟨bd, hbd⟩ : ∃ bd, ad.add ((i + 1 + j) * 3) = bd := ⟨_, rfl⟩
          obtain ⟨cd, hcd⟩ : ∃ cd, ad.add (i * 3) = cd := ⟨_, rfl⟩
          rw [hbd] at hy0 ⊢
          rw [hcd] at hx0 hx1 ⊢
          obtain ⟨s, hs⟩ : ∃ s : Int, (x.who : Int) = s := ⟨_, rfl⟩
          obtain ⟨t, ht⟩ : ∃ t : Int, (y.who : Int) = t := ⟨_, rfl⟩
          obtain ⟨g, hgl⟩ : ∃ g : Int, x.glob = g := ⟨_, rfl⟩
          rw [hs, ht, hgl] at HFst
          rw [hs] at hx0
          rw [ht] at hy0
          rw [hgl] at hx1
          have HB6 := kp (HW3.out.trans (HB5.out.mono hs3))
          clear HVr hA' hy hrr hmin hy' hyat e2 ea hbd hcd hs ht hgl
          go_wp2
          go_quiet (fail)
          go_wp2
          (try simp only [Exit.inBlock, Exit.then])
          refine bodyPost_ret (zV rfl _ _ _) rfl ?_
          exact ⟨s, t, g, true, rfl, HFst.out, jE HB6.out _⟩
        · have HAll := kp hall
          clear hall HVr
          go_wp2
          go_roundw
          case rel => exact ⟨i + 1, by omega, by go_num, first_more HBef.out HX.out HAll.out, HB5.out⟩
          case measure => simp [intOf]; omega
    · have hge : n ≤ i := by omega
      have HFst : Kept (M.FirstIs p q.cf 0 0 0 0) := kp (first_none HLen.out (by
        rw [HL.out]
        intro i' j' x' y' h1 h2 h3
        refine HBef.out i' j' x' y' h1 h2 h3 ?_
        have := (List.getElem?_eq_some_iff.1 h2).1
        have := HRec.out.len
        omega))
      clear hlt
      go_wp2
      (try simp only [Exit.inBlock, Exit.then])
      refine bodyPost_ret (zV rfl _ _ _) rfl ?_
      exact ⟨0, 0, 0, false, rfl, HFst.out, HBW.out⟩
end Go.Proofs.Ytkhfolpffjihgaa
