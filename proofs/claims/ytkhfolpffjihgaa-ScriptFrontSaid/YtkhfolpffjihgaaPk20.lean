/- SemP3, SemP5, SemP6, in one text. -/
import Derived.Test.YtkhfolpffjihgaaPk14
import Derived.Test.YtkhfolpffjihgaaPk9
import Derived.Test.YtkhfolpffjihgaaProgRef5
import Derived.Test.YtkhfolpffjihgaaPk15
import Derived.Test.YtkhfolpffjihgaaPk7
namespace Go.Proofs.Ytkhfolpffjihgaa
open Go.RowKit
theorem lN {P : Program} {fn : Func} {p : Tmp} {a : Nat} {ty : TypeId} (h : fn.results = #[.cell p ty, .tmp a]) (tmps : Array Value) (w : World) (g : Nat) (t : TypeId) (cs : List Value) (d : TypeDesc) (va : Value)
    (hp : tmps.getD p undef = .pointer (some ⟨g, 0, none⟩)) (ha : tmps.getD a undef = va) (hg : Blk w g t cs)
    (hu : P.underlying ty = some d) (hd : (match d with | .struct _ | .array _ _ => true | _ => false) = true) (hi : (P.info? ty).map (·.size) = some cs.length) :
    (results fn tmps).run P w = .ok (.tuple #[.agg cs.toArray, va]) w := by
  subst ha
  have hp' : tmps[p]?.getD undef = .pointer (some ⟨g, 0, none⟩) := by simpa using hp
  simp [results, h, hp', asAddr, run_loadVar_row w g t ty cs.toArray (0, 0) d hg hu hd (by simpa using hi)]
theorem put_none_s (a : Act) (v : Value) : a.put none v = a := rfl
set_option maxRecDepth 100000 in
set_option maxHeartbeats 1600000 in
theorem sem_nodeAt (B : Nat) (p : Pg) (hf : Fine p) (f n : Nat) (fn : Fn) (x : Nd) (hfn : p.fns[f]? = some fn) (hx : fn.nodes[n]? = some x) (w : World) (hp : p.Ok w B) (hB : B ≤ w.heap.size) :
    Calls Try.prog 64 #[pgA p, .agg #[.int .i64 (f : Int), .int .i64 (n : Int)]] w fun e w' => e = .returned (.tuple #[ndA x, .bool true]) ∧ Below w.heap.size w w' := by
  have hpl := hp.row.len
  have hfl : f < p.len := by rw [← hpl]; exact (List.getElem?_eq_some_iff.1 hfn).1
  obtain ⟨ad, fn', hA, hadb, hfn', hfok, hfc⟩ := hp.fn hfl
  rw [hfn] at hfn'; cases hfn'
  have hnl0 := hfok.nodes.1.len
  have hnl : n < fn.len := by rw [← hnl0]; exact (List.getElem?_eq_some_iff.1 hx).1
  obtain ⟨ad2, x', hA2, had2b, hx', hxok, hn0, hn1, hn2, hn3⟩ := hfok.nodes.get hnl
  rw [hx] at hx'; cases hx'
  have hmay := M.fine_node hf hfn hx
  rw [hnl0] at hmay
  have hL := hf.counts.l; have hS := hf.counts.s
  have hF := hf.counts.f
  rw [hpl] at hF
  have h64 : fn.len ≤ 64 := by have := (Q.fine_fn hfn (hf.nodes f (by rw [hpl]; exact hfl))).2.1; omega
  have hpc := hp.lc; have hpm := hp.cm; have hfc2 := hfok.lc; have hfm := hfok.cm
  unfold maxLen at hpm hfm
  have HP := kp hp; have HM := kp hmay; have HX := kp hxok
  have HFc := kp hfc; have HN0 := kp hn0; have HN1 := kp hn1; have HN2 := kp hn2; have HN3 := kp hn3
  have HI1 : Kept (decide (0 ≤ (f : Int) ∧ (f : Int) < (p.len : Int)) = true) := kp (decide_eq_true (by omega))
  have HI2 : Kept (decide (0 ≤ (n : Int) ∧ (n : Int) < (fn.len : Int)) = true) := kp (decide_eq_true (by omega))
  have hadB : ad.block < B := hadb
  have hadB2 : ad2.block < B := had2b
  have hl16 : p.l ≤ 16 := hL.2
  have hs8 : p.s ≤ 8 := hS.2
  have HIf : Kept (I64 (f : Int)) := kp (by unfold I64; omega)
  have HIn : Kept (I64 (n : Int)) := kp (by unfold I64; omega)
  have HIp : Kept (I64 (p.len : Int)) := kp (by unfold I64; omega)
  have HIl : Kept (I64 (fn.len : Int)) := kp (by unfold I64; omega)
  have hEC : pgC p = [.int .i64 p.g, .int .i64 p.l, .int .i64 p.s, .slice (some ad) p.len p.cap] := by unfold pgC; rw [hA]
  have HEC := kp hEC
  have HFC2 : Kept (w.cell? (ad.add f) = some (.slice (some ad2) fn.len fn.cap)) := kp (by rw [← hA2]; exact hfc)
  clear hp hmay hxok hfc hn0 hn1 hn2 hn3 hfok hx hfn hf hA hA2 hEC hpl hnl0 hL hS HFc
  rw [jO, HEC.out]
  go_enter Try.func64, Try.ntmps64
  go_wp2_with (first
    | ((with_reducible refine j2 rfl 38 (.tmp 0) rfl [.int .i64 p.g, .int .i64 p.l, .int .i64 p.s, .slice (some ad) p.len p.cap] rfl ?_); intro g1 w1 hg1 hk1 hw1; have HK1 := kp hk1; have HW1 := kp hw1; have hs1 := hw1.size; have hl1 := hk1.lt; clear hk1 hw1)
    | ((with_reducible refine j2 rfl 90 (.tmp 1) rfl [.int .i64 (f : Int), .int .i64 (n : Int)] rfl ?_); intro g2 w2 hg2 hk2 hw2; have HK2 := kp hk2; have HK12 := kp (HK1.out.below hw2 hl1); have HW2 := kp (HW1.out.trans (hw2.mono hs1)); have hs2 := HW2.out.size; have hl2 := hk2.lt; have hl12 := HK12.out.lt; clear hk2 hw2)
    | ((with_reducible show Sl 4); go_must (refine j3 rfl 75 rfl (ndC ⟨0, 0, 0, 0⟩) jR ?_); intro g3 w3 hg3 hk3 hw3
       have HK3 := kp hk3; have HK23 := kp (HK2.out.below hw3 hl2); have HK13 := kp (HK12.out.below hw3 hl12); have HW3 := kp (HW2.out.trans (hw3.mono hs2)); have hs3 := HW3.out.size; have hl3 := hk3.lt
       have hz0 := HK13.out.cell 3; have hy0 := HK23.out.cell 0; have hy1 := HK23.out.cell 1
       have hfcl := (HW3.out.cell (p := ad.add f) (by rw [j8]; omega)).trans HFC2.out
       simp only [List.getElem?_cons_zero, List.getElem?_cons_succ] at hz0 hy0 hy1
       clear hk3 hw3))
  go_quiet (first
    | (go_at_call_of 66 (Value.int IntKind.i64 (f : Int)); exact zY (yX (f : Int) (p.len : Int) HIf.out HIp.out true HI1.out _))
    | (go_at_call_of 66 (Value.int IntKind.i64 (n : Int)); exact zY (yX (n : Int) (fn.len : Int) HIn.out HIl.out true HI2.out _)))
  obtain ⟨w4, hw4⟩ : ∃ y, w3.drewN nq = y := ⟨_, rfl⟩
  have HK14 : Kept (Blk w4 g1 38 [.int .i64 p.g, .int .i64 p.l, .int .i64 p.s, .slice (some ad) p.len p.cap]) := kp (by rw [← hw4]; exact HK13.out.drewN nq)
  have HK24 : Kept (Blk w4 g2 90 [.int .i64 (f : Int), .int .i64 (n : Int)]) := kp (by rw [← hw4]; exact HK23.out.drewN nq)
  have HK34 : Kept (Blk w4 g3 75 (ndC ⟨0, 0, 0, 0⟩)) := kp (by rw [← hw4]; exact HK3.out.drewN nq)
  have HW4 : Kept (Below w.heap.size w w4) := kp (by rw [← hw4]; exact jE HW3.out nq)
  rw [hw4]
  have hs4 := HW4.out.size
  clear hw4 hz0 hy0 hy1 hfcl
  have hp1 := HK14.out.cell 1; have hp2 := HK14.out.cell 2; have hz0 := HK14.out.cell 3; have hy0 := HK24.out.cell 0
  have hfcl := (HW4.out.cell (p := ad.add f) (by rw [j8]; omega)).trans HFC2.out
  simp only [List.getElem?_cons_zero, List.getElem?_cons_succ] at hp1 hp2 hz0 hy0
  go_wp2_with (first
    | ((refine j7 rfl 3 (.tmp 40) (.tmp 36) rfl g1 1 (.int .i64 p.l) rfl rfl rfl rfl _ _ HK14.out (by show 1 < 4; omega) l5 ?_); intro w5 hk5 hg5 hs5; have HK15 := kp hk5; have HG5 := kp hg5; clear hk5 hg5)
    | ((refine j7 rfl 3 (.tmp 41) (.tmp 39) rfl g1 2 (.int .i64 p.s) rfl rfl rfl rfl _ _ HK15.out (by show 2 < 4; omega) l5 ?_); intro w6 hk6 hg6 hs6; have HK16 := kp hk6; have HG6 := kp hg6; clear hk6 hg6))
  have HG : Kept (w4.grownBy w6 (some g1)) := kp (l2 HG5.out HG6.out)
  have HK1 : Kept (Blk w6 g1 38 [.int .i64 p.g, .int .i64 p.l, .int .i64 p.s, .slice (some ad) p.len p.cap]) := kp HK16.out
  have hg12 : g1 ≠ g2 := by omega
  have hg13 : g1 ≠ g3 := by omega
  have HK2 := kp (HK24.out.grown HG.out (fun e => hg12 (by cases e; rfl)))
  have HK3 := kp (HK34.out.grown HG.out (fun e => hg13 (by cases e; rfl)))
  have HW6 : Kept (Below w.heap.size w w6) := kp (HW4.out.grown HG.out hs4 (fun k e => by cases e; exact hg1))
  have hs6 := HW6.out.size
  have hk1l := HK1.out.lt; have hk2l := HK2.out.lt
  clear hp1 hp2 hz0 hy0 hfcl
  simp only [put_none_s]
  apply lI (.is _ :: .is _ :: .is _ :: .is _ :: .is _ :: .is (ndA x) :: .is _ :: .is _ :: .is _ :: .is _ :: [])
    [[], [], [], [(2, 44)], [(1, 43), (3, 45)], [(4, 46)], [], [(6, 48)], [(0, 42), (5, 47), (7, 49)], [(8, 50)]]
    [(0, 42), (1, 43), (2, 44), (3, 45), (4, 46), (5, 47), (6, 48), (7, 49), (8, 50), (9, 51)] (by kernel_rfl) (by kernel_rfl)
  case hob =>
    refine ⟨?o0, ?o1, ?o2, ?o3, ?o4, ?o5, ?o6, ?o7, ?o8, ?o9, trivial⟩
    case o0 =>
      intro W hW; change wpList _ _ _ _ _ _
      have hb := HK1.out.below hW hk1l
      have hc0 := hb.cell 0; have hc1 := hb.cell 1; have hc2 := hb.cell 2; have hc3 := hb.cell 3
      simp only [List.getElem?_cons_zero, List.getElem?_cons_succ] at hc0 hc1 hc2 hc3
      clear hb
      go_wp2; exact j0 rfl rfl rfl
    case o1 => intro W hW; change wpList _ _ _ _ _ _; go_wp2; exact j0 rfl rfl rfl
    case o2 => intro W hW; change wpList _ _ _ _ _ _; go_wp2; exact j0 rfl rfl rfl
    case o3 =>
      intro W hW; rintro _ rfl; change wpList _ _ _ _ _ _
      have hc1 := (HK2.out.below hW hk2l).cell 1
      simp only [List.getElem?_cons_zero, List.getElem?_cons_succ] at hc1
      go_wp2; exact j0 rfl rfl rfl
    case o4 => intro W hW; rintro _ rfl; rintro _ rfl; change wpList _ _ _ _ _ _; go_wp2; exact j0 rfl rfl rfl
    case o5 =>
      intro W hW; rintro _ rfl; change wpList _ _ _ _ _ _
      have hb := HW6.out.trans (hW.mono hs6)
      have hc0 := (hb.cell (p := ad2.add (n * 4)) (by rw [j8]; omega)).trans HN0.out
      have hc1 := (hb.cell (p := ⟨(ad2.add (n * 4)).block, (ad2.add (n * 4)).off + 1, none⟩) (by show (ad2.add (n * 4)).block < _; rw [j8]; omega)).trans HN1.out
      have hc2 := (hb.cell (p := ⟨(ad2.add (n * 4)).block, (ad2.add (n * 4)).off + 2, none⟩) (by show (ad2.add (n * 4)).block < _; rw [j8]; omega)).trans HN2.out
      have hc3 := (hb.cell (p := ⟨(ad2.add (n * 4)).block, (ad2.add (n * 4)).off + 3, none⟩) (by show (ad2.add (n * 4)).block < _; rw [j8]; omega)).trans HN3.out
      clear hb
      go_wp2; exact j0 rfl rfl rfl
    case o6 => intro W hW; change wpList _ _ _ _ _ _; go_wp2; exact j0 rfl rfl rfl
    case o7 => intro W hW; rintro _ rfl; change wpList _ _ _ _ _ _; go_wp2; exact j0 rfl rfl rfl
    case o8 =>
      intro W hW; rintro _ rfl; rintro _ rfl; rintro _ rfl; change wpList _ _ _ _ _ _
      have hb := HW6.out.trans (hW.mono hs6)
      have hC := prog_may B p x HX.out (fn.len : Int) HIl.out true HM.out W (HP.out.below (hb.mono hB)) (by have := hb.size; omega)
      rw [jO, HEC.out] at hC
      clear hb
      go_wp2_with fail
      refine hC.mono ?_
      rintro e w2 ⟨rfl, hb2⟩
      have HB2 := kp hb2; clear hb2
      go_wp2
      exact jC rfl rfl rfl HB2.out rfl
    case o9 => intro W hW; rintro _ rfl; change wpList _ _ _ _ _ _; go_wp2; exact j0 rfl rfl rfl
  case hend =>
    intro W hW; rintro _ rfl; rintro _ rfl; rintro _ rfl; rintro _ rfl; rintro _ rfl; rintro _ rfl; rintro _ rfl; rintro _ rfl; rintro _ rfl; rintro _ rfl
    simp only [given, jI, List.set]
    have hb := HW6.out.trans (hW.mono hs6)
    have HWw := kp hb
    have hsw := hb.size
    have hc0 := (hb.cell (p := ad2.add (n * 4)) (by rw [j8]; omega)).trans HN0.out
    have hc1 := (hb.cell (p := ⟨(ad2.add (n * 4)).block, (ad2.add (n * 4)).off + 1, none⟩) (by show (ad2.add (n * 4)).block < _; rw [j8]; omega)).trans HN1.out
    have hc2 := (hb.cell (p := ⟨(ad2.add (n * 4)).block, (ad2.add (n * 4)).off + 2, none⟩) (by show (ad2.add (n * 4)).block < _; rw [j8]; omega)).trans HN2.out
    have hc3 := (hb.cell (p := ⟨(ad2.add (n * 4)).block, (ad2.add (n * 4)).off + 3, none⟩) (by show (ad2.add (n * 4)).block < _; rw [j8]; omega)).trans HN3.out
    have hy1 := (HK2.out.below hW hk2l).cell 1
    simp only [List.getElem?_cons_zero, List.getElem?_cons_succ] at hy1
    have HK3w := kp (HK3.out.below hW HK3.out.lt)
    clear hb hW
    go_wp2_with (first
      | ((with_reducible show Sn); go_must (refine j4 rfl 75 (.tmp 4) (.tmp 57) rfl g3 (ndC x) rfl rfl _ _ HK3w.out jK rfl (jS x) ?_); intro w8 hk8 hg8 hs8; have HK8 := kp hk8; have HW8 := kp (HWw.out.grown hg8 hsw (fun k e => by cases e; omega)); clear hk8 hg8)
      | ((with_reducible show bodyPost _ _ _ _ _ _); exact bodyPost_ret (lN (P := Try.prog) (fn := Try.f64) rfl _ _ g3 75 _ _ _ rfl rfl HK8.out Try.underlying75 rfl jK) rfl ⟨rfl, HW8.out⟩))
def atNd (p : Pg) (c : M.Cf) (t : Int) : Nd := if M.lives c t = true then M.node p c t.toNat else ⟨0, 0, 0, 0⟩
theorem jN (q : Pc) : ∀ u ∈ pcC q, u.oneCell' = true := by
  intro u hu
  unfold pcC at hu
  rcases List.mem_cons.1 hu with rfl | hu
  · rfl
  · obtain ⟨x, _, rfl⟩ := List.mem_map.1 hu
    rfl
theorem jG {q : Pc} (h : q.ow.length = 16) : (pcC q).length = 17 := by simp [pcC, h]
theorem lC (q : Pc) : pcA q = .agg (pcC q).toArray := rfl
theorem nd_zero_ok : Nd.Ok ⟨0, 0, 0, 0⟩ := ⟨by unfold I64; simp, by unfold I64; simp, by unfold I64; simp, by unfold I64; simp⟩
set_option maxRecDepth 100000 in
set_option maxHeartbeats 1600000 in
theorem q6 (B : Nat) (p : Pg) (hf : Fine p) (q : Pc) (w : World) (hp : p.Ok w B) (hq : q.Ok w B) (hg : M.Good p q.cf) (hB : B ≤ w.heap.size) (t : Int) (ht : I64 t) (b : Bool) (hb : M.lives q.cf t = b) (x : Nd) (hx : atNd p q.cf t = x) :
    Calls Try.prog 44 #[pcA q, pgA p, .int .i64 t] w fun e w' => e = .returned (.tuple #[ndA x, .bool b]) ∧ Below w.heap.size w w' := by
  have h8 : q.len ≤ 8 := by rw [← hq.len]; exact hg.most
  have hq17 : (pcC q).length = 17 := jG hg.owns
  have HQ17 := kp hq17
  have HP := kp hp; have HQ := kp hq; have HT := kp ht; have HB := kp hb
  cases b
  · have HX : Kept (x = ⟨0, 0, 0, 0⟩) := kp (by rw [← hx]; unfold atNd; rw [hb]; rfl)
    rw [HX.out]
    clear hp hq ht hb hx hg hf hq17
    rw [lC, jO]
    go_enter Try.func44, Try.ntmps44
    go_wp2_with (first
      | ((with_reducible refine j2 rfl 43 (.tmp 0) rfl (pcC q) rfl ?_); intro g1 w1 hg1 hk1 hw1; have HK1 := kp hk1; have HW1 := kp hw1; have hs1 := hw1.size; have hl1 := hk1.lt; clear hk1 hw1)
      | ((with_reducible refine j2 rfl 38 (.tmp 1) rfl (pgC p) rfl ?_); intro g2 w2 hg2 hk2 hw2; have HK12 := kp (HK1.out.below hw2 hl1); have HW2 := kp (HW1.out.trans (hw2.mono hs1)); have hs2 := HW2.out.size; have hl12 := HK12.out.lt; clear hk2 hw2)
      | ((with_reducible show Sl 6); go_must (refine j3 rfl 75 rfl (ndC ⟨0, 0, 0, 0⟩) jR ?_); intro g3 w3 hg3 hk3 hw3
         have HK3 := kp hk3; have HK13 := kp (HK12.out.below hw3 hl12); have HW3 := kp (HW2.out.trans (hw3.mono hs2)); have hs3 := HW3.out.size; have hl3 := hk3.lt; clear hk3 hw3)
      | ((with_reducible show Sl 8); go_must (refine j1 rfl 43 (.tmp 3) rfl g1 rfl _ (pcC q) _ HK13.out Try.underlying43 rfl (by rw [HQ17.out]; exact j6) ?_))
      | (go_at_call 45; go_must (refine (vM B q w3 (HQ.out.below (HW3.out.mono hB)) (by omega) (by omega) t HT.out false HB.out).mono ?_); rintro e w4 ⟨rfl, hb4⟩
         have HW4 := kp (HW3.out.trans (hb4.mono hs3)); have HK4 := kp (HK3.out.below hb4 hl3); have hs4 := HW4.out.size; clear hb4)
      | ((with_reducible show Sn); go_must (refine j4 rfl 75 (.tmp 6) (.tmp 12) rfl g3 (ndC ⟨0, 0, 0, 0⟩) rfl rfl _ _ HK4.out jK rfl (jS _) ?_); intro w8 hk8 hg8 hs8; have HK8 := kp hk8; have HW8 := kp (HW4.out.grown hg8 hs4 (fun k e => by cases e; omega)); clear hk8 hg8)
      | ((with_reducible show bodyPost _ _ _ _ _ _); exact bodyPost_ret (lN (P := Try.prog) (fn := Try.f44) rfl _ _ g3 75 _ _ _ rfl rfl HK8.out Try.underlying75 rfl jK) rfl ⟨rfl, HW8.out⟩))
  · obtain ⟨k, rfl⟩ : ∃ k : Nat, t = (k : Int) := ⟨t.toNat, by
      unfold M.lives at hb
      rw [Bool.and_eq_true, decide_eq_true_eq] at hb
      omega⟩
    have hb2 := hb
    rw [M.lives_nat] at hb2
    have hkl : k < q.len := by rw [← hq.len]; exact M.lives_lt hb2
    have hxn : M.node p q.cf k = x := by rw [← hx]; unfold atNd; rw [hb]; rfl
    obtain ⟨ad, th, hA, hadB, hth, hsok, hthc, hsl, hc0, _⟩ := hq.thread hkl
    have hs0 : 0 < th.sv.len := by
      unfold M.livesN at hb2
      rw [hthc, decide_eq_true_eq] at hb2
      rw [← hsl]; exact hb2
    obtain ⟨ad2, hA2, hadB2, hl0, hl1⟩ := hsok.last hs0
    obtain ⟨fn, hfn, hfi, hfx⟩ := M.node_is hg hb2
    rw [hxn, hthc] at hfx
    rw [hthc] at hfn
    have hlen16 : th.sv.len ≤ 1000 := by
      have h1 := M.high hf hp.row.len hg (x := tvT th) (List.mem_map_of_mem (List.mem_of_getElem? hth))
      have h2 := hf.counts.f
      have h3 : (tvT th).stack.length = th.sv.len := hsl
      omega
    rw [hA2] at hc0
    obtain ⟨F, hF⟩ : ∃ F, (M.top (tvT th).stack).1 = F := ⟨_, rfl⟩
    obtain ⟨N, hN⟩ : ∃ N, (M.top (tvT th).stack).2 = N := ⟨_, rfl⟩
    rw [hF] at hfn
    rw [hN] at hfx
    have hl0' : w.cell? (ad2.add ((th.sv.len - 1) * 2)) = some (.int .i64 (F : Int)) := by rw [← hF]; exact hl0
    have hl1' : w.cell? ⟨(ad2.add ((th.sv.len - 1) * 2)).block, (ad2.add ((th.sv.len - 1) * 2)).off + 1, none⟩ = some (.int .i64 (N : Int)) := by rw [← hN]; exact hl1
    have HC0 := kp hc0; have HL0 := kp hl0'; have HL1 := kp hl1'; have HFn := kp hfn; have HFx := kp hfx; have HFine := kp hf
    have hqc := hq.lc; have hqm := hq.cm; have hxc := hsok.lc; have hxm := hsok.cm
    unfold maxLen at hqm hxm
    obtain ⟨n, hn⟩ : ∃ n, th.sv.len = n := ⟨_, rfl⟩
    obtain ⟨cp, hcp⟩ : ∃ cp, th.sv.cap = cp := ⟨_, rfl⟩
    rw [hn] at HC0 HL0 HL1 hs0 hlen16 hxc
    rw [hcp] at HC0 hxc hxm
    have HE : Kept (pcC q = .slice (some ad) q.len q.cap :: q.ow.map natV) := kp (by unfold pcC; rw [hA])
    clear hp hq ht hb hx hg hf hq17 hc0 hl0 hl1 hl0' hl1' hfn hfx hF hN hb2 hxn hth hsok hthc hsl hA hA2 hfi hn hcp
    rw [lC, jO]
    go_enter Try.func44, Try.ntmps44
    go_wp2_with (first
      | ((with_reducible refine j2 rfl 43 (.tmp 0) rfl (pcC q) rfl ?_); intro g1 w1 hg1 hk1 hw1; have HK1 := kp hk1; have HW1 := kp hw1; have hs1 := hw1.size; have hl1 := hk1.lt; clear hk1 hw1)
      | ((with_reducible refine j2 rfl 38 (.tmp 1) rfl (pgC p) rfl ?_); intro g2 w2 hg2 hk2 hw2; have HK12 := kp (HK1.out.below hw2 hl1); have HK2 := kp hk2; have HW2 := kp (HW1.out.trans (hw2.mono hs1)); have hs2 := HW2.out.size; have hl12 := HK12.out.lt; have hl2 := hk2.lt; clear hk2 hw2)
      | ((with_reducible show Sl 6); go_must (refine j3 rfl 75 rfl (ndC ⟨0, 0, 0, 0⟩) jR ?_); intro g3 w3 hg3 hk3 hw3
         have HK3 := kp hk3; have HK13 := kp (HK12.out.below hw3 hl12); have HK23 := kp (HK2.out.below hw3 hl2); have HW3 := kp (HW2.out.trans (hw3.mono hs2)); have hs3 := HW3.out.size; have hl3 := hk3.lt; clear hk3 hw3)
      | ((with_reducible show Sl 8); go_must (refine j1 rfl 43 (.tmp 3) rfl g1 rfl _ (pcC q) _ HK13.out Try.underlying43 rfl (by rw [HQ17.out]; exact j6) ?_))
      | (go_at_call 45; go_must (refine (vM B q w3 (HQ.out.below (HW3.out.mono hB)) (by omega) (by omega) (k : Int) HT.out true HB.out).mono ?_); rintro e w4 ⟨rfl, hb4⟩
         have HW4 := kp (HW3.out.trans (hb4.mono hs3)); have HK34 := kp (HK3.out.below hb4 hl3); have HK14 := kp (HK13.out.below hb4 HK13.out.lt); have HK24 := kp (HK23.out.below hb4 HK23.out.lt); have hs4 := HW4.out.size; clear hb4))
    have hd1 := HK14.out.lt; have hd2 := HK24.out.lt
    apply jD 11 (.is (pgA p) :: .is _ :: .is _ :: .is _ :: .is _ :: .is _ :: .is _ :: .is (.agg #[.int .i64 (F : Int), .int .i64 (N : Int)]) :: .is (.tuple #[ndA x, .bool true]) :: .is _ :: .is _ :: [])
      [[], [], [(1, 14)], [], [(2, 15), (3, 16)], [(4, 17)], [(5, 18)], [(6, 19)], [(0, 13), (7, 20)], [(8, 21)], [(8, 21)], [(9, 22)], [(10, 23)]]
      [(0, 13), (1, 14), (2, 15), (3, 16), (4, 17), (5, 18), (6, 19), (7, 20), (8, 21), (9, 22), (10, 23)] (by kernel_rfl) (by kernel_rfl) (by kernel_rfl) (by kernel_rfl) (by kernel_rfl)
    case hob =>
      refine ⟨?o0, ?o1, ?o2, ?o3, ?o4, ?o5, ?o6, ?o7, ?o8, ?o9, ?o10, trivial⟩
      case o0 =>
        intro W hW; change wpList _ _ _ _ _ _
        obtain ⟨hc0, hc1, hc2, hc3⟩ := jL (HK24.out.below hW hd2)
        go_wp2; exact j0 rfl rfl rfl
      case o1 => intro W hW; change wpList _ _ _ _ _ _; go_wp2; exact j0 rfl rfl rfl
      case o2 =>
        intro W hW; rintro _ rfl; change wpList _ _ _ _ _ _
        have hc := (HK14.out.below hW hd1).cell 0
        rw [HE.out, List.getElem?_cons_zero] at hc
        go_wp2; exact j0 rfl rfl rfl
      case o3 => intro W hW; change wpList _ _ _ _ _ _; go_wp2; exact j0 rfl rfl rfl
      case o4 => intro W hW; rintro _ rfl; rintro _ rfl; change wpList _ _ _ _ _ _; go_wp2; exact j0 rfl rfl rfl
      case o5 =>
        intro W hW; rintro _ rfl; change wpList _ _ _ _ _ _
        have hc := ((HW4.out.trans (hW.mono hs4)).cell (p := ad.add (k * 9)) (by rw [j8]; omega)).trans HC0.out
        have HC := kp (sem_last (ad.add (k * 9)) ad2 n cp W hs0 hlen16 hc)
        clear hc
        go_wp2_with fail
        refine HC.out.mono ?_
        rintro e w2 ⟨rfl, m, rfl⟩
        go_wp2
        exact jC rfl rfl rfl (jE (Below.refl _ _) m) rfl
      case o6 => intro W hW; rintro _ rfl; change wpList _ _ _ _ _ _; go_wp2; exact j0 rfl rfl rfl
      case o7 =>
        intro W hW; rintro _ rfl; change wpList _ _ _ _ _ _
        have hb := HW4.out.trans (hW.mono hs4)
        have hc0 := (hb.cell (p := ad2.add ((n - 1) * 2)) (by rw [j8]; omega)).trans HL0.out
        have hc1 := (hb.cell (p := ⟨(ad2.add ((n - 1) * 2)).block, (ad2.add ((n - 1) * 2)).off + 1, none⟩) (by show (ad2.add ((n - 1) * 2)).block < _; rw [j8]; omega)).trans HL1.out
        clear hb
        go_wp2; exact j0 rfl rfl rfl
      case o8 =>
        intro W hW; rintro _ rfl; rintro _ rfl; change wpList _ _ _ _ _ _
        have hb := HW4.out.trans (hW.mono hs4)
        have HC := kp (sem_nodeAt B p HFine.out F N fn x HFn.out HFx.out W (HP.out.below (hb.mono hB)) (by have := hb.size; omega))
        clear hb
        go_wp2_with fail
        refine HC.out.mono ?_
        rintro e w2 ⟨rfl, hb2⟩
        have HB2 := kp hb2; clear hb2
        go_wp2
        exact jC rfl rfl rfl HB2.out rfl
      case o9 => intro W hW; rintro _ rfl; change wpList _ _ _ _ _ _; go_wp2; exact j0 rfl rfl rfl
      case o10 => intro W hW; rintro _ rfl; change wpList _ _ _ _ _ _; go_wp2; exact j0 rfl rfl rfl
    case hend =>
      intro W hW; rintro _ rfl; rintro _ rfl; rintro _ rfl; rintro _ rfl; rintro _ rfl; rintro _ rfl; rintro _ rfl; rintro _ rfl; rintro _ rfl; rintro _ rfl; rintro _ rfl
      simp only [given, jI, List.set, List.drop]
      have HWw := kp (HW4.out.trans (hW.mono hs4))
      have hsw := HWw.out.size
      have HK3w := kp (HK34.out.below hW HK34.out.lt)
      clear hW
      go_wp2_with (first
        | ((with_reducible show Sn); go_must (refine j4 rfl 75 (.tmp 6) (.tmp 22) rfl g3 (ndC x) rfl rfl _ _ HK3w.out jK rfl (jS x) ?_); intro w8 hk8 hg8 hs8; have HK8 := kp hk8; have HW8 := kp (HWw.out.grown hg8 hsw (fun k e => by cases e; omega)); clear hk8 hg8)
        | ((with_reducible show bodyPost _ _ _ _ _ _); exact bodyPost_ret (lN (P := Try.prog) (fn := Try.f44) rfl _ _ g3 75 _ _ _ rfl rfl HK8.out Try.underlying75 rfl jK) rfl ⟨rfl, HW8.out⟩))
theorem enabled_no {p : Pg} {c : M.Cf} {t : Int} (h : M.lives c t = false) : M.enabled p c t = false := by
  cases he : M.enabled p c t with
  | false => rfl
  | true =>
    obtain ⟨h0, h1⟩ := M.enabled_split he
    have h2 := M.enabled_lives h1
    unfold M.lives at h
    rw [h2, decide_eq_true h0] at h
    cases h
theorem enabled_is {p : Pg} {c : M.Cf} {k : Nat} {x : Nd} (h : M.lives c (k : Int) = true) (hx : M.node p c k = x) : M.enabled p c (k : Int) =
    (if x.kind = 3 then decide (c.owners.getD x.arg.toNat 0 = 0) else if x.kind = 6 then !M.lives c (((M.th c k).slots.getD x.arg.toNat 0 : Int) - 1) else if x.kind = 5 then decide (c.ths.length < 8) else true) := by
  unfold M.enabled M.enabledN
  rw [M.lives_nat] at h
  rw [Int.toNat_natCast, h, hx]
  simp
theorem qP {p : Pg} {c : M.Cf} {k : Nat} {x : Nd} (h : M.lives c (k : Int) = true) (hx : M.node p c k = x) : atNd p c (k : Int) = x := by
  unfold atNd; rw [h, ← hx]; rfl
set_option maxRecDepth 100000 in
set_option maxHeartbeats 1600000 in
theorem l6 (B : Nat) (p : Pg) (hf : Fine p) (q : Pc) (w : World) (hp : p.Ok w B) (hq : q.Ok w B) (hg : M.Good p q.cf) (hB : B ≤ w.heap.size) (t : Int) (ht : I64 t) (b : Bool) (hb : M.enabled p q.cf t = b) :
    Calls Try.prog 27 #[pcA q, pgA p, .int .i64 t] w fun e w' => e = .returned (.bool b) ∧ Below w.heap.size w w' := by
  have h8 : q.len ≤ 8 := by rw [← hq.len]; exact hg.most
  have hq17 : (pcC q).length = 17 := jG hg.owns
  have HQ17 := kp hq17
  have HP := kp hp; have HQ := kp hq; have HT := kp ht; have HG := kp hg; have HFine := kp hf
  have hqc := hq.lc; have hqm := hq.cm
  unfold maxLen at hqm
  cases hlv : M.lives q.cf t
  · have hbf := enabled_no (p := p) hlv
    rw [hbf] at hb
    subst hb
    have HLv := kp hlv
    have HX : Kept (atNd p q.cf t = ⟨0, 0, 0, 0⟩) := kp (by unfold atNd; rw [hlv]; rfl)
    clear hp hq ht hg hf hq17 hlv hbf
    rw [lC, jO]
    go_enter Try.func27, Try.ntmps27
    go_wp2_with (first
      | ((with_reducible refine j2 rfl 43 (.tmp 0) rfl (pcC q) rfl ?_); intro g1 w1 hg1 hk1 hw1; have HK1 := kp hk1; have HW1 := kp hw1; have hs1 := hw1.size; have hl1 := hk1.lt; clear hk1 hw1)
      | ((with_reducible refine j2 rfl 38 (.tmp 1) rfl (pgC p) rfl ?_); intro g2 w2 hg2 hk2 hw2; have HK12 := kp (HK1.out.below hw2 hl1); have HK2 := kp hk2; have HW2 := kp (HW1.out.trans (hw2.mono hs1)); have hs2 := HW2.out.size; have hl12 := HK12.out.lt; have hl2 := hk2.lt; clear hk2 hw2)
      | ((with_reducible show Sl 10); go_must (refine j1 rfl 43 (.tmp 3) rfl g1 rfl _ (pcC q) _ HK12.out Try.underlying43 rfl (by rw [HQ17.out]; exact j6) ?_))
      | ((with_reducible show Sl 11); go_must (refine j1 rfl 38 (.tmp 4) rfl g2 rfl _ (pgC p) _ HK2.out Try.underlying38 rfl jB ?_))
      | (go_at_call 44; go_must (refine (q6 B p HFine.out q w2 (HP.out.below (HW2.out.mono hB)) (HQ.out.below (HW2.out.mono hB)) HG.out (by omega) (t) HT.out false HLv.out (⟨0, 0, 0, 0⟩) HX.out).mono ?_); rintro e w4 ⟨rfl, hb4⟩
         have HW4 := kp (HW2.out.trans (hb4.mono hs2)); have HK14 := kp (HK12.out.below hb4 hl12); have hl14 := HK14.out.lt; have hs4 := HW4.out.size; clear hb4)
      | ((with_reducible show Sl 7); go_must (refine j3 rfl 75 rfl (ndC ⟨0, 0, 0, 0⟩) jR ?_); intro g3 w5 hg3 hk5 hw5
         have HK35 := kp hk5; have HK15 := kp (HK14.out.below hw5 hl14); have HW5 := kp (HW4.out.trans (hw5.mono hs4)); have hs5 := HW5.out.size; have hl35 := hk5.lt; clear hk5 hw5)
      | ((with_reducible show Sn); go_must (refine j4 rfl 75 (.tmp 7) (.tmp 14) rfl g3 (ndC (⟨0, 0, 0, 0⟩)) rfl rfl _ _ HK35.out jK rfl (jS _) ?_); intro w6 hk6 hg6 hs6
         have HK16 := kp (HK15.out.grown hg6 (fun e => by cases e; omega)); have HK36 := kp hk6; have HW6 := kp (HW5.out.grown hg6 hs5 (fun k e => by cases e; omega)); clear hg6; clear hk6))
    go_ret
    exact ⟨rfl, HW6.out⟩
  · obtain ⟨k, rfl⟩ : ∃ k : Nat, t = (k : Int) := ⟨t.toNat, by
      unfold M.lives at hlv
      rw [Bool.and_eq_true, decide_eq_true_eq] at hlv
      omega⟩
    obtain ⟨x, hx⟩ : ∃ x, M.node p q.cf k = x := ⟨_, rfl⟩
    have hlv2 := hlv
    rw [M.lives_nat] at hlv2
    have hkl : k < q.len := by rw [← hq.len]; exact M.lives_lt hlv2
    obtain ⟨fn, hfn, _, _⟩ := M.node_is hg hlv2
    have hfit := M.node_fit hf hg hlv2 hfn
    rw [hx] at hfit
    have HLv := kp hlv
    have HX := kp (qP hlv hx)
    rw [enabled_is hlv hx] at hb
    obtain ⟨ad, th, hA, hadB, hth, hsok, hthc, hsl, hc0, hcs⟩ := hq.thread hkl
    rw [hthc] at hb
    obtain ⟨a, ha⟩ : ∃ a : Nat, x.arg = (a : Int) := ⟨x.arg.toNat, by have := hfit.arg; omega⟩
    rw [ha, Int.toNat_natCast] at hb
    have h16 := hg.owns
    have HE : Kept (pcC q = .slice (some ad) q.len q.cap :: q.ow.map natV) := kp (by unfold pcC; rw [hA])
    have hEx : Kept (ndC x = [.int .i64 x.kind, .int .i64 (a : Int), .int .i64 x.next, .int .i64 x.alt]) := kp (by unfold ndC; rw [ha])
    by_cases k3 : x.kind = 3
    · rw [if_pos k3] at hb
      have hal := hfit.lock (.inl k3)
      have HO : Kept ((pcC q)[1 + a]? = some (.int .i64 (q.ow.getD a 0 : Int))) := kp (by rw [HE.out, show 1 + a = a + 1 by omega, List.getElem?_cons_succ]; exact owner_at h16 (by omega))
      have HB : Kept (((q.ow.getD a 0 : Int) == 0) = b) := kp (by rw [← hb, Bool.eq_iff_iff, beq_iff_eq, decide_eq_true_eq]; show _ ↔ q.ow.getD a 0 = 0; omega)
      obtain ⟨o, ho⟩ : ∃ o, q.ow.getD a 0 = o := ⟨_, rfl⟩
      rw [ho] at HO HB
      have e3 : (x.kind == 3) = true := by rw [beq_iff_eq]; exact k3
      have ha16 : a < 16 := by omega
      clear hp hq ht hg hf hq17 hlv hlv2 hb hx hfit hth hsok hthc hsl hc0 hcs ha hA hfn ho k3 hal
      rw [lC, jO]
      go_enter Try.func27, Try.ntmps27
      go_wp2_with (first
        | ((with_reducible refine j2 rfl 43 (.tmp 0) rfl (pcC q) rfl ?_); intro g1 w1 hg1 hk1 hw1; have HK1 := kp hk1; have HW1 := kp hw1; have hs1 := hw1.size; have hl1 := hk1.lt; clear hk1 hw1)
        | ((with_reducible refine j2 rfl 38 (.tmp 1) rfl (pgC p) rfl ?_); intro g2 w2 hg2 hk2 hw2; have HK12 := kp (HK1.out.below hw2 hl1); have HK2 := kp hk2; have HW2 := kp (HW1.out.trans (hw2.mono hs1)); have hs2 := HW2.out.size; have hl12 := HK12.out.lt; have hl2 := hk2.lt; clear hk2 hw2)
        | ((with_reducible show Sl 10); go_must (refine j1 rfl 43 (.tmp 3) rfl g1 rfl _ (pcC q) _ HK12.out Try.underlying43 rfl (by rw [HQ17.out]; exact j6) ?_))
        | ((with_reducible show Sl 11); go_must (refine j1 rfl 38 (.tmp 4) rfl g2 rfl _ (pgC p) _ HK2.out Try.underlying38 rfl jB ?_))
        | (go_at_call 44; go_must (refine (q6 B p HFine.out q w2 (HP.out.below (HW2.out.mono hB)) (HQ.out.below (HW2.out.mono hB)) HG.out (by omega) ((k : Int)) HT.out true HLv.out (x) HX.out).mono ?_); rintro e w4 ⟨rfl, hb4⟩
           have HW4 := kp (HW2.out.trans (hb4.mono hs2)); have HK14 := kp (HK12.out.below hb4 hl12); have hl14 := HK14.out.lt; have hs4 := HW4.out.size; clear hb4)
        | ((with_reducible show Sl 7); go_must (refine j3 rfl 75 rfl (ndC ⟨0, 0, 0, 0⟩) jR ?_); intro g3 w5 hg3 hk5 hw5
           have HK35 := kp hk5; have HK15 := kp (HK14.out.below hw5 hl14); have HW5 := kp (HW4.out.trans (hw5.mono hs4)); have hs5 := HW5.out.size; have hl35 := hk5.lt; clear hk5 hw5)
        | ((with_reducible show Sn); go_must (refine j4 rfl 75 (.tmp 7) (.tmp 14) rfl g3 (ndC (x)) rfl rfl _ _ HK35.out jK rfl (jS _) ?_); intro w6 hk6 hg6 hs6
           have HK16 := kp (HK15.out.grown hg6 (fun e => by cases e; omega)); have HK36 := kp hk6; have HW6 := kp (HW5.out.grown hg6 hs5 (fun k e => by cases e; omega)); clear hg6
           rw [hEx.out] at hk6; have hx0 := hk6.cell 0; have hx1 := hk6.cell 1; simp only [List.getElem?_cons_zero, List.getElem?_cons_succ] at hx0 hx1; clear hk6
           have hc1 := (HK16.out.cell (1 + a)).trans HO.out))
      go_ret
      exact ⟨jH HB.out, HW6.out⟩
    rw [if_neg k3] at hb
    have e3 : (x.kind == 3) = false := by rw [beq_eq_false_iff_ne]; exact k3
    by_cases k6 : x.kind = 6
    · rw [if_pos k6] at hb
      have hal := hfit.join k6
      have e6 : (x.kind == 6) = true := by rw [beq_iff_eq]; exact k6
      have ha8 : a < 8 := by omega
      obtain ⟨o, ho⟩ : ∃ o, (tvT th).slots.getD a 0 = o := ⟨_, rfl⟩
      rw [ho] at hb
      have hoc : w.cell? ⟨(ad.add (k * 9)).block, (ad.add (k * 9)).off + 1 + a, none⟩ = some (.int .i64 (o : Int)) := by
        rcases hcs a with h | h
        · rw [show (ad.add (k * 9)).off + 1 + a = (ad.add (k * 9)).off + (a + 1) by omega, h, ← ho]; rfl
        · omega
      have HOc := kp hoc
      have ho8 : o ≤ 8 := by
        have h1 := hg.slot (tvT th) (List.mem_map_of_mem (List.mem_of_getElem? hth))
        have h2 := hg.eight (tvT th) (List.mem_map_of_mem (List.mem_of_getElem? hth))
        rw [← ho, List.getD_eq_getElem?_getD, List.getElem?_eq_getElem (by omega)]
        exact h1 _ (List.getElem_mem _)
      obtain ⟨bl, hbl⟩ : ∃ bl, M.lives q.cf ((o : Int) - 1) = bl := ⟨_, rfl⟩
      rw [hbl] at hb
      have HBl := kp hbl
      have HI1 : Kept (I64 ((o : Int) - 1)) := kp (by unfold I64; omega)
      subst hb
      clear hp hq ht hg hf hq17 hlv hlv2 hx hfit hth hsok hthc hsl hc0 hcs ha hA hfn ho k3 hal hoc hbl k6
      rw [lC, jO]
      go_enter Try.func27, Try.ntmps27
      go_wp2_with (first
        | ((with_reducible refine j2 rfl 43 (.tmp 0) rfl (pcC q) rfl ?_); intro g1 w1 hg1 hk1 hw1; have HK1 := kp hk1; have HW1 := kp hw1; have hs1 := hw1.size; have hl1 := hk1.lt; clear hk1 hw1)
        | ((with_reducible refine j2 rfl 38 (.tmp 1) rfl (pgC p) rfl ?_); intro g2 w2 hg2 hk2 hw2; have HK12 := kp (HK1.out.below hw2 hl1); have HK2 := kp hk2; have HW2 := kp (HW1.out.trans (hw2.mono hs1)); have hs2 := HW2.out.size; have hl12 := HK12.out.lt; have hl2 := hk2.lt; clear hk2 hw2)
        | ((with_reducible show Sl 10); go_must (refine j1 rfl 43 (.tmp 3) rfl g1 rfl _ (pcC q) _ HK12.out Try.underlying43 rfl (by rw [HQ17.out]; exact j6) ?_))
        | ((with_reducible show Sl 11); go_must (refine j1 rfl 38 (.tmp 4) rfl g2 rfl _ (pgC p) _ HK2.out Try.underlying38 rfl jB ?_))
        | (go_at_call 44; go_must (refine (q6 B p HFine.out q w2 (HP.out.below (HW2.out.mono hB)) (HQ.out.below (HW2.out.mono hB)) HG.out (by omega) ((k : Int)) HT.out true HLv.out (x) HX.out).mono ?_); rintro e w4 ⟨rfl, hb4⟩
           have HW4 := kp (HW2.out.trans (hb4.mono hs2)); have HK14 := kp (HK12.out.below hb4 hl12); have hl14 := HK14.out.lt; have hs4 := HW4.out.size; clear hb4)
        | ((with_reducible show Sl 7); go_must (refine j3 rfl 75 rfl (ndC ⟨0, 0, 0, 0⟩) jR ?_); intro g3 w5 hg3 hk5 hw5
           have HK35 := kp hk5; have HK15 := kp (HK14.out.below hw5 hl14); have HW5 := kp (HW4.out.trans (hw5.mono hs4)); have hs5 := HW5.out.size; have hl35 := hk5.lt; clear hk5 hw5)
        | ((with_reducible show Sn); go_must (refine j4 rfl 75 (.tmp 7) (.tmp 14) rfl g3 (ndC (x)) rfl rfl _ _ HK35.out jK rfl (jS _) ?_); intro w6 hk6 hg6 hs6
           have HK16 := kp (HK15.out.grown hg6 (fun e => by cases e; omega)); have HK36 := kp hk6; have HW6 := kp (HW5.out.grown hg6 hs5 (fun k e => by cases e; omega)); clear hg6
           rw [hEx.out] at hk6; have hx0 := hk6.cell 0; simp only [List.getElem?_cons_zero] at hx0; have HX6 := kp hk6; clear hk6))
      have hd1 := HK16.out.lt; have hd3 := HK36.out.lt
      apply lI (.is (pcA q) :: .is _ :: .is _ :: .is _ :: .is _ :: .is _ :: .is _ :: .is _ :: .is _ :: .is _ :: .is _ :: .is _ :: .is _ :: .is _ :: [])
        [[], [], [(1, 31)], [], [], [(4, 34)], [(2, 32), (3, 33)], [(6, 36)], [(7, 37), (5, 35)], [(8, 38)], [(9, 39)], [(0, 30), (10, 40)], [(11, 41)], [(12, 42)]]
        [(0, 30), (1, 31), (2, 32), (3, 33), (4, 34), (5, 35), (6, 36), (7, 37), (8, 38), (9, 39), (10, 40), (11, 41), (12, 42), (13, 6)] (by kernel_rfl) (by kernel_rfl)
      case hob =>
        refine ⟨?o0, ?o1, ?o2, ?o3, ?o4, ?o5, ?o6, ?o7, ?o8, ?o9, ?o10, ?o11, ?o12, ?o13, trivial⟩
        case o0 =>
          intro W hW; change wpList _ _ _ _ _ _
          have HKw := kp (HK16.out.below hW hd1)
          go_wp2_with ((with_reducible show Sl 30); go_must (refine j1 rfl 43 (.tmp 3) rfl g1 rfl _ (pcC q) _ HKw.out Try.underlying43 rfl (by rw [HQ17.out]; exact j6) ?_))
          exact j0 rfl rfl rfl
        case o1 => intro W hW; change wpList _ _ _ _ _ _; go_wp2; exact j0 rfl rfl rfl
        case o2 =>
          intro W hW; rintro _ rfl; change wpList _ _ _ _ _ _
          have hc := (HK16.out.below hW hd1).cell 0
          rw [HE.out, List.getElem?_cons_zero] at hc
          go_wp2; exact j0 rfl rfl rfl
        case o3 => intro W hW; change wpList _ _ _ _ _ _; go_wp2; exact j0 rfl rfl rfl
        case o4 => intro W hW; change wpList _ _ _ _ _ _; go_wp2; exact j0 rfl rfl rfl
        case o5 =>
          intro W hW; rintro _ rfl; change wpList _ _ _ _ _ _
          have hc := (HX6.out.below hW hd3).cell 1
          simp only [List.getElem?_cons_zero, List.getElem?_cons_succ] at hc
          go_wp2; exact j0 rfl rfl rfl
        case o6 => intro W hW; rintro _ rfl; rintro _ rfl; change wpList _ _ _ _ _ _; go_wp2; exact j0 rfl rfl rfl
        case o7 => intro W hW; rintro _ rfl; change wpList _ _ _ _ _ _; go_wp2; exact j0 rfl rfl rfl
        case o8 => intro W hW; rintro _ rfl; rintro _ rfl; change wpList _ _ _ _ _ _; go_wp2; exact j0 rfl rfl rfl
        case o9 =>
          intro W hW; rintro _ rfl; change wpList _ _ _ _ _ _
          have hc := ((HW6.out.trans (hW.mono HW6.out.size)).cell (p := ⟨(ad.add (k * 9)).block, (ad.add (k * 9)).off + 1 + a, none⟩) (by show (ad.add (k * 9)).block < _; rw [j8]; omega)).trans HOc.out
          go_wp2; exact j0 rfl rfl rfl
        case o10 =>
          intro W hW; rintro _ rfl; change wpList _ _ _ _ _ _
          go_wp2_with fail
          refine (sem_unmark o (by omega) W).mono ?_
          rintro e w2 ⟨rfl, rfl⟩
          go_wp2
          exact j0 rfl rfl rfl
        case o11 =>
          intro W hW; rintro _ rfl; rintro _ rfl; change wpList _ _ _ _ _ _
          go_wp2_with fail
          refine (vM B q W (HQ.out.below ((HW6.out.trans (hW.mono HW6.out.size)).mono hB)) (by have := (HW6.out.trans (hW.mono HW6.out.size)).size; omega) (by omega) ((o : Int) - 1) HI1.out bl HBl.out).mono ?_
          rintro e w2 ⟨rfl, hb2⟩
          have HB2 := kp hb2; clear hb2
          go_wp2
          exact jC rfl rfl rfl HB2.out rfl
        case o12 => intro W hW; rintro _ rfl; change wpList _ _ _ _ _ _; go_wp2; exact j0 rfl rfl rfl
        case o13 => intro W hW; rintro _ rfl; change wpList _ _ _ _ _ _; go_wp2; exact j0 rfl rfl rfl
      case hend =>
        intro W hW; rintro _ rfl; rintro _ rfl; rintro _ rfl; rintro _ rfl; rintro _ rfl; rintro _ rfl; rintro _ rfl; rintro _ rfl; rintro _ rfl; rintro _ rfl; rintro _ rfl; rintro _ rfl; rintro _ rfl; rintro _ rfl
        simp only [given, jI, List.set]
        have HWw := kp (HW6.out.trans (hW.mono HW6.out.size))
        clear hW
        go_wp2
        go_ret
        exact ⟨rfl, HWw.out⟩
    rw [if_neg k6] at hb
    have e6 : (x.kind == 6) = false := by rw [beq_eq_false_iff_ne]; exact k6
    by_cases k5 : x.kind = 5
    · rw [if_pos k5, hq.len] at hb
      have e5 : (x.kind == 5) = true := by rw [beq_iff_eq]; exact k5
      have HB : Kept (decide ((q.len : Int) < 8) = b) := kp (by rw [← hb, Bool.eq_iff_iff, decide_eq_true_eq, decide_eq_true_eq]; omega)
      clear hp hq ht hg hf hq17 hlv hlv2 hb hx hfit hth hsok hthc hsl hc0 hcs ha hA hfn k3 k6 k5
      rw [lC, jO]
      go_enter Try.func27, Try.ntmps27
      go_wp2_with (first
        | ((with_reducible refine j2 rfl 43 (.tmp 0) rfl (pcC q) rfl ?_); intro g1 w1 hg1 hk1 hw1; have HK1 := kp hk1; have HW1 := kp hw1; have hs1 := hw1.size; have hl1 := hk1.lt; clear hk1 hw1)
        | ((with_reducible refine j2 rfl 38 (.tmp 1) rfl (pgC p) rfl ?_); intro g2 w2 hg2 hk2 hw2; have HK12 := kp (HK1.out.below hw2 hl1); have HK2 := kp hk2; have HW2 := kp (HW1.out.trans (hw2.mono hs1)); have hs2 := HW2.out.size; have hl12 := HK12.out.lt; have hl2 := hk2.lt; clear hk2 hw2)
        | ((with_reducible show Sl 10); go_must (refine j1 rfl 43 (.tmp 3) rfl g1 rfl _ (pcC q) _ HK12.out Try.underlying43 rfl (by rw [HQ17.out]; exact j6) ?_))
        | ((with_reducible show Sl 11); go_must (refine j1 rfl 38 (.tmp 4) rfl g2 rfl _ (pgC p) _ HK2.out Try.underlying38 rfl jB ?_))
        | (go_at_call 44; go_must (refine (q6 B p HFine.out q w2 (HP.out.below (HW2.out.mono hB)) (HQ.out.below (HW2.out.mono hB)) HG.out (by omega) ((k : Int)) HT.out true HLv.out (x) HX.out).mono ?_); rintro e w4 ⟨rfl, hb4⟩
           have HW4 := kp (HW2.out.trans (hb4.mono hs2)); have HK14 := kp (HK12.out.below hb4 hl12); have hl14 := HK14.out.lt; have hs4 := HW4.out.size; clear hb4)
        | ((with_reducible show Sl 7); go_must (refine j3 rfl 75 rfl (ndC ⟨0, 0, 0, 0⟩) jR ?_); intro g3 w5 hg3 hk5 hw5
           have HK35 := kp hk5; have HK15 := kp (HK14.out.below hw5 hl14); have HW5 := kp (HW4.out.trans (hw5.mono hs4)); have hs5 := HW5.out.size; have hl35 := hk5.lt; clear hk5 hw5)
        | ((with_reducible show Sn); go_must (refine j4 rfl 75 (.tmp 7) (.tmp 14) rfl g3 (ndC (x)) rfl rfl _ _ HK35.out jK rfl (jS _) ?_); intro w6 hk6 hg6 hs6
           have HK16 := kp (HK15.out.grown hg6 (fun e => by cases e; omega)); have HK36 := kp hk6; have HW6 := kp (HW5.out.grown hg6 hs5 (fun k e => by cases e; omega)); clear hg6
           rw [hEx.out] at hk6; have hx0 := hk6.cell 0; simp only [List.getElem?_cons_zero] at hx0; clear hk6
           have hc0 := HK16.out.cell 0; rw [HE.out, List.getElem?_cons_zero] at hc0))
      go_ret
      exact ⟨jH HB.out, HW6.out⟩
    rw [if_neg k5] at hb
    subst hb
    have e5 : (x.kind == 5) = false := by rw [beq_eq_false_iff_ne]; exact k5
    clear hp hq ht hg hf hq17 hlv hlv2 hx hfit hth hsok hthc hsl hc0 hcs ha hA hfn k3 k6 k5
    rw [lC, jO]
    go_enter Try.func27, Try.ntmps27
    go_wp2_with (first
      | ((with_reducible refine j2 rfl 43 (.tmp 0) rfl (pcC q) rfl ?_); intro g1 w1 hg1 hk1 hw1; have HK1 := kp hk1; have HW1 := kp hw1; have hs1 := hw1.size; have hl1 := hk1.lt; clear hk1 hw1)
      | ((with_reducible refine j2 rfl 38 (.tmp 1) rfl (pgC p) rfl ?_); intro g2 w2 hg2 hk2 hw2; have HK12 := kp (HK1.out.below hw2 hl1); have HK2 := kp hk2; have HW2 := kp (HW1.out.trans (hw2.mono hs1)); have hs2 := HW2.out.size; have hl12 := HK12.out.lt; have hl2 := hk2.lt; clear hk2 hw2)
      | ((with_reducible show Sl 10); go_must (refine j1 rfl 43 (.tmp 3) rfl g1 rfl _ (pcC q) _ HK12.out Try.underlying43 rfl (by rw [HQ17.out]; exact j6) ?_))
      | ((with_reducible show Sl 11); go_must (refine j1 rfl 38 (.tmp 4) rfl g2 rfl _ (pgC p) _ HK2.out Try.underlying38 rfl jB ?_))
      | (go_at_call 44; go_must (refine (q6 B p HFine.out q w2 (HP.out.below (HW2.out.mono hB)) (HQ.out.below (HW2.out.mono hB)) HG.out (by omega) ((k : Int)) HT.out true HLv.out (x) HX.out).mono ?_); rintro e w4 ⟨rfl, hb4⟩
         have HW4 := kp (HW2.out.trans (hb4.mono hs2)); have HK14 := kp (HK12.out.below hb4 hl12); have hl14 := HK14.out.lt; have hs4 := HW4.out.size; clear hb4)
      | ((with_reducible show Sl 7); go_must (refine j3 rfl 75 rfl (ndC ⟨0, 0, 0, 0⟩) jR ?_); intro g3 w5 hg3 hk5 hw5
         have HK35 := kp hk5; have HK15 := kp (HK14.out.below hw5 hl14); have HW5 := kp (HW4.out.trans (hw5.mono hs4)); have hs5 := HW5.out.size; have hl35 := hk5.lt; clear hk5 hw5)
      | ((with_reducible show Sn); go_must (refine j4 rfl 75 (.tmp 7) (.tmp 14) rfl g3 (ndC (x)) rfl rfl _ _ HK35.out jK rfl (jS _) ?_); intro w6 hk6 hg6 hs6
         have HK16 := kp (HK15.out.grown hg6 (fun e => by cases e; omega)); have HK36 := kp hk6; have HW6 := kp (HW5.out.grown hg6 hs5 (fun k e => by cases e; omega)); clear hg6
         rw [hEx.out] at hk6; have hx0 := hk6.cell 0; simp only [List.getElem?_cons_zero] at hx0; clear hk6))
    go_ret
    exact ⟨rfl, HW6.out⟩
end Go.Proofs.Ytkhfolpffjihgaa
