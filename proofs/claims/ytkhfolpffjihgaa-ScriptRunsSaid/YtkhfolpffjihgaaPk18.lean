/- Build, SemBuild, SemP9, in one text. -/
import Derived.Test.YtkhfolpffjihgaaPk1
import Derived.Great.FillDense
import Derived.Great.BuildSlice
import Derived.Test.YtkhfolpffjihgaaPk14
import Derived.Test.YtkhfolpffjihgaaPk17
namespace Go.Proofs.Ytkhfolpffjihgaa
open Go.RowKit
theorem qD {P : Program} {ops : Array Oper} {rest : List Oper} {o : Oper} {a : Act} {w : World} {Q : Exit → Act → World → Prop} (hg : o.guard = none) (t : TypeId) (parts : Array (Nat × Operand)) (ho : o.op = .build t parts)
    (qs : List (Nat × Value)) (hq : (parts.map fun (i, x) => (i, a.eval x)).toList = qs) (cs : List Value) (hf : P.built t qs = some cs.toArray)
    (h : wpList P ops Q rest (a.put o.dst (.agg cs.toArray)) w) : wpList P ops Q (o :: rest) a w := by
  subst hq
  refine wpList_build hg t parts ho (by rw [hf]; rfl) ?_
  rw [hf]
  exact h
theorem qK {P : Program} {ops : Array Oper} {rest : List Oper} {o : Oper} {a : Act} {w : World} {Q : Exit → Act → World → Prop} (hg : o.guard = none) (t : TypeId) (i : Nat) (x : Operand) (ho : o.op = .build t #[(i, x)])
    (v : Value) (hx : a.eval x = v) (cs : List Value) (hf : P.built t [(i, v)] = some cs.toArray)
    (h : wpList P ops Q rest (a.put o.dst (.agg cs.toArray)) w) : wpList P ops Q (o :: rest) a w :=
  qD hg t _ ho [(i, v)] (by simp [hx]) cs hf h
theorem wpList_build_2 {P : Program} {ops : Array Oper} {rest : List Oper} {o : Oper} {a : Act} {w : World} {Q : Exit → Act → World → Prop} (hg : o.guard = none) (t : TypeId) (i j : Nat) (x y : Operand) (ho : o.op = .build t #[(i, x), (j, y)])
    (v u : Value) (hx : a.eval x = v) (hy : a.eval y = u) (cs : List Value) (hf : P.built t [(i, v), (j, u)] = some cs.toArray)
    (h : wpList P ops Q rest (a.put o.dst (.agg cs.toArray)) w) : wpList P ops Q (o :: rest) a w :=
  qD hg t _ ho [(i, v), (j, u)] (by simp [hx, hy]) cs hf h
theorem jF {P : Program} {ops : Array Oper} {rest : List Oper} {o : Oper} {a : Act} {w : World} {Q : Exit → Act → World → Prop} (hg : o.guard = none) (t e : TypeId) (x : Operand) (ho : o.op = .buildSlice t 1 #[(0, x)])
    (sz : Nat) (hu : P.underlying t = some (.slice e)) (hi : (P.info? e).map (fun i => (i.zero.map (·.cells.size), i.size)) = some (some sz, sz)) (h0 : 0 < sz) (h24 : sz ≤ 1000) (v : Value) (cs : List Value) (hx : a.eval x = v) (hv : v.cells = cs.toArray) (hl : cs.length = sz)
    (h : ∀ g w', w.heap.size ≤ g → Blk w' g e cs → Below w.heap.size w w' → wpList P ops Q rest (a.put o.dst (.slice (some ⟨g, 0, none⟩) 1 1)) w') : wpList P ops Q (o :: rest) a w := by
  cases hq : P.info? e with
  | none => simp [hq] at hi
  | some ie =>
    simp only [hq, Option.map_some, Option.some.injEq, Prod.mk.injEq] at hi
    obtain ⟨hz, hs⟩ := hi
    cases hzz : ie.zero with
    | none => simp [hzz] at hz
    | some z =>
      simp only [hzz, Option.map_some, Option.some.injEq] at hz
      refine wpList_buildSlice hg t e 1 _ ho cs.toArray ie z hu hq hzz (by rw [hs]; omega) (by rw [hs]; omega) ?_ (h _ _ (Nat.le_refl _) (Blk.newAt rfl rfl) ((Below.refl _ _).alloc (Nat.le_refl _) _))
      have hf := Go.Great.fill_whole (s := ie.size) (by rw [hs]; exact h0) [v] ((Array.range (1 * ie.size)).map (z.cells[· % z.cells.size]!)) (fun u hu => by rw [List.mem_singleton.1 hu, hv, hs]; simpa using hl) (by simp)
      simp only [List.map_toArray, List.map_cons, List.map_nil, hx]
      simpa [hv] using hf
def zeros (n : Nat) : List Value := List.replicate n (.int .i64 0)
theorem built_thread (A : Option Addr) (n c : Nat) : Try.prog.built 89 [(0, .slice A n c)] = some (Value.slice A n c :: zeros 8).toArray := by kernel_rfl
theorem built_conf (A : Option Addr) (n c : Nat) : Try.prog.built 43 [(0, .slice A n c)] = some (Value.slice A n c :: zeros 16).toArray := by kernel_rfl
theorem built_sixteen (a0 a1 a2 a3 a4 a5 a6 a7 a8 a9 a10 a11 a12 a13 a14 a15 : Nat) : Try.prog.built 59 [(2, .agg ([a0, a1, a2, a3, a4, a5, a6, a7, a8, a9, a10, a11, a12, a13, a14, a15].map natV).toArray)] = some (Value.slice none 0 0 :: .slice none 0 0 :: [a0, a1, a2, a3, a4, a5, a6, a7, a8, a9, a10, a11, a12, a13, a14, a15].map natV).toArray := by kernel_rfl
theorem vI (o : List Nat) (h : o.length = 16) : Try.prog.built 59 [(2, .agg (o.map natV).toArray)] = some (Value.slice none 0 0 :: .slice none 0 0 :: o.map natV).toArray := by
  match o, h with
  | [a0, a1, a2, a3, a4, a5, a6, a7, a8, a9, a10, a11, a12, a13, a14, a15], _ => exact built_sixteen a0 a1 a2 a3 a4 a5 a6 a7 a8 a9 a10 a11 a12 a13 a14 a15
theorem yI : (Try.prog.info? 89).map (·.zero) = some (some (.agg (Value.slice none 0 0 :: zeros 8).toArray)) := by kernel_rfl
theorem zK : (Try.prog.info? 89).map (fun i => (i.zero.map (·.cells.size), i.size)) = some (some 9, 9) := by kernel_rfl
theorem lQ : (Try.prog.info? 89).map (·.size) = some 9 := by kernel_rfl
theorem jP : (Try.prog.info? 43).map (·.zero) = some (some (.agg (Value.slice none 0 0 :: zeros 16).toArray)) := by kernel_rfl
theorem jV : (Try.prog.info? 59).map (·.zero) = some (some (.agg (Value.slice none 0 0 :: .slice none 0 0 :: zeros 16).toArray)) := by kernel_rfl
theorem j5 : (Try.prog.info? 59).map (·.size) = some 18 := by kernel_rfl
theorem yJ : (Try.prog.info? 89).map (fun i => (i.zero, i.size, i.bytes)) = some (some (.agg (Value.slice none 0 0 :: zeros 8).toArray), 9, 88) := by kernel_rfl
theorem zN : (Try.prog.info? 90).map (fun i => (i.zero, i.size, i.bytes)) = some (some (.agg #[.int .i64 0, .int .i64 0]), 2, 16) := by kernel_rfl
theorem qJ : (Try.prog.info? 86).map (fun i => (i.zero, i.size, i.bytes)) = some (some (.agg #[.int .i64 0, .int .i64 0]), 2, 16) := by kernel_rfl
theorem qF : (Try.prog.info? 83).map (fun i => (i.zero, i.size, i.bytes)) = some (some (.agg (zeros 8).toArray), 8, 64) := by kernel_rfl
theorem qI : (Try.prog.info? 83).map (fun i => (i.zero.map (·.cells.size), i.size)) = some (some 8, 8) := by kernel_rfl
theorem l4 : (Try.prog.info? 83).map (·.size) = some 8 := by kernel_rfl
theorem x8 : (Try.prog.info? 84).map (fun i => (i.zero, i.size, i.bytes)) = some (some (.slice none 0 0), 1, 24) := by kernel_rfl
theorem zeros_ow (n : Nat) : zeros n = (List.replicate n 0).map natV := by unfold zeros; rw [List.map_replicate]; rfl
theorem x9 (x : Nat × Nat) (j : Nat) : (frV x j).oneCell' = true := by unfold frV; split <;> rfl
theorem tvV_one (x : Tv) (j : Nat) : (tvV x j).oneCell' = true := by unfold tvV; split <;> rfl
theorem goOn_twice (s : List (Nat × Nat)) (n m : Nat) : M.goOn (M.goOn s n) m = M.goOn s m := by
  unfold M.goOn M.top
  rw [List.length_set]
  rcases Nat.eq_zero_or_pos s.length with h | h
  · rw [List.eq_nil_of_length_eq_zero h]; rfl
  · rw [List.set_set, List.getD_eq_getElem?_getD (l := s.set _ _), List.getElem?_set, if_pos rfl, if_pos (by omega)]
    rfl
theorem frame_size : (Try.prog.info? 90).map (·.size) = some 2 := by kernel_rfl
theorem frames_size : (Try.prog.info? 87).map (·.size) = some 1 := by kernel_rfl
set_option maxRecDepth 100000 in
set_option maxHeartbeats 1600000 in
theorem sem_branch (B gN gU k : Nat) (q : Pc) (x : Nd) (way : Bool) (th : Tv) (w : World) (hst : St w B gN gU q) (hu : Blk w gU 109 (turnC gN k way x)) (hkl : k < q.len) (hth : q.tvs[k]? = some th) (hs0 : 0 < th.sv.len) (hlen16 : th.sv.len ≤ 1000) (h8 : q.len ≤ 8) (nx : Nat) (hnx : x.next = (nx : Int)) (al : Nat) (hal : x.alt = (al : Int)) (hk8 : x.kind = 8) :
    Calls Try.prog 74 #[.pointer (some ⟨gU, 0, none⟩)] w fun e w' => e = .returned (.tuple #[]) ∧ ∃ q', St w' B gN gU q' ∧ q'.cf = M.act q.cf k x way ∧ Below B w w' := by
  go_enter Try.func74, Try.ntmps74
  go_wp2_with fail
  refine (qN B gN gU k q x way th w hst hu hkl hth hs0 hlen16 h8 nx hnx).mono ?_
  rintro e w1 ⟨rfl, hst1, hu1, hb1⟩
  have hw1s := hb1.size
  have hth1 : (q.put k (tvGo th nx)).tvs[k]? = some (tvGo th nx) := by
    show (q.tvs.set k (tvGo th nx))[k]? = _
    rw [List.getElem?_set, if_pos rfl, if_pos (List.getElem?_eq_some_iff.1 hth).1]
  have hcf1 : M.th q.cf k = tvT th := Pc.th_of hth
  have HCf := kp (Pc.put_cf q k (tvGo th nx))
  have HCf0 := kp hcf1
  have hs01 : 0 < (tvGo th nx).sv.len := hs0
  have hlen161 : (tvGo th nx).sv.len ≤ 1000 := hlen16
  have hkl1 : k < (q.put k (tvGo th nx)).len := hkl
  have h81 : (q.put k (tvGo th nx)).len ≤ 8 := h8
  have how1 : (q.put k (tvGo th nx)).ow = q.ow := rfl
  have HQlen : Kept ((q.put k (tvGo th nx)).len = q.len) := kp rfl
  have HTvs : Kept ((q.put k (tvGo th nx)).tvs = q.tvs.set k (tvGo th nx)) := kp rfl
  have HTh1 : Kept (tvT (tvGo th nx) = ⟨M.goOn th.sv.stack nx, th.slots⟩) := kp rfl
  obtain ⟨q1, hq1⟩ : ∃ q1, q.put k (tvGo th nx) = q1 := ⟨_, rfl⟩
  obtain ⟨th1, ht1⟩ : ∃ th1, tvGo th nx = th1 := ⟨_, rfl⟩
  rw [ht1] at hq1 hth1 hs01 hlen161 HCf HTh1 HTvs hst1 hkl1 h81 how1 HQlen
  rw [hq1] at hst1 hth1 hkl1 h81 how1 HCf HQlen HTvs
  clear hst hu hq1 ht1 hcf1 hs0 hlen16
  obtain ⟨gT, curT, thx, hA, hbT, hthx, hcT0, hcTj, hTN, hTU, hBT, hsl, hthc, hcTl⟩ := hst1.thread hkl1
  rw [hth1] at hthx
  cases hthx
  obtain ⟨gS, cur, hSA, hbS, hlen, hSN, hSU, hBS, hput⟩ := hst1.goes hth1 hs01
  have hbound := hst1.ok
  have hqc := hbound.lc; have hqm := hbound.cm
  unfold maxLen at hqm
  have HE : Kept (pcC q1 = .slice (some ⟨gT, 0, none⟩) q1.len q1.cap :: q1.ow.map natV) := kp (by unfold pcC; rw [hA])
  have hgN := hst1.conf.lt; have hgU := hu1.lt; have hgT := hbT.lt; have hgS := hbS.lt
  have HSt := kp hst1; have HK := kp hu1; have HT := kp hbT; have HS := kp hbS; have HPut := kp hput
  have hxc := hbound.svs th1 (List.mem_of_getElem? hth1)
  have hxc2 := hxc.lc; have hxm := hxc.cm
  unfold maxLen at hxm
  rw [hSA] at hcT0
  have HC0 := kp hcT0
  have hlow := hst1.low.1
  have hBw : B ≤ w1.heap.size := by omega
  have HLow := kp hst1.low
  obtain ⟨n, hn⟩ : ∃ n, th1.sv.len = n := ⟨_, rfl⟩
  obtain ⟨cp, hcp⟩ : ∃ cp, th1.sv.cap = cp := ⟨_, rfl⟩
  have HThl := kp hn
  rw [hn] at HC0 hs01 hlen161 hxc2 hlen HPut
  rw [hcp] at HC0 hxc2 hxm
  have HB1 := kp hb1
  have hu2 := HK.out.cell 2
  simp only [turnC, List.getElem?_cons_zero, List.getElem?_cons_succ] at hu2
  have HAct : Kept (M.act q.cf k x way = if way = true then ⟨q.cf.ths.set k ⟨M.goOn th.sv.stack al, th.slots⟩, q.ow⟩ else q1.cf) := kp (by
    unfold M.act
    rw [HCf.out, HCf0.out, if_neg (show ¬ x.kind = 9 by omega), if_neg (show ¬ x.kind = 3 by omega), if_neg (show ¬ x.kind = 4 by omega), if_neg (show ¬ x.kind = 5 by omega), if_neg (show ¬ x.kind = 7 by omega), hnx, hal, Int.toNat_natCast, Int.toNat_natCast, HTh1.out]
    cases way
    · rw [if_neg (by simp), if_neg (by simp)]; rfl
    · rw [if_pos ⟨hk8, rfl⟩, if_pos rfl]; rfl)
  have HGoalT : Kept ((q1.put k (tvGo th1 al)).cf = ⟨q.cf.ths.set k ⟨M.goOn th.sv.stack al, th.slots⟩, q.ow⟩) := kp (by
    rw [Pc.put_cf, HCf.out, how1, List.set_set]
    have e : tvT (tvGo th1 al) = ⟨M.goOn th.sv.stack al, th.slots⟩ := by
      have h1 : th1.sv.stack = M.goOn th.sv.stack nx := congrArg M.Th.stack HTh1.out
      have h2 : th1.slots = th.slots := congrArg M.Th.slots HTh1.out
      show (⟨M.goOn th1.sv.stack al, th1.slots⟩ : M.Th) = _
      rw [h1, h2, goOn_twice]
    rw [e])
  clear hst1 hu1 hth1 hput hbT hbS hcT0 hcTj hthc hcTl hsl hbound hxc hn hcp hSA hA hnx hb1
  cases way
  · have HGoal : Kept (q1.cf = M.act q.cf k x false) := kp (by rw [HAct.out]; rfl)
    go_wp2
    go_end0
    exact ⟨rfl, _, HSt.out, HGoal.out, HB1.out⟩
  · have HGoal : Kept ((q1.put k (tvGo th1 al)).cf = M.act q.cf k x true) := kp (by rw [HAct.out, HGoalT.out]; rfl)
    go_wp2
    apply jD 10 (.is _ :: .is _ :: .is _ :: .is _ :: .is _ :: .is _ :: .is _ :: .is _ :: .is _ :: .is _ :: [])
      [[], [(0, 9)], [(1, 10)], [], [(3, 12)], [(4, 13)], [(5, 14)], [(6, 15)], [(2, 11)], [(8, 17)], [(9, 18), (7, 16)]]
      [(0, 9), (1, 10), (2, 11), (3, 12), (4, 13), (5, 14), (6, 15), (7, 16), (8, 17), (9, 18)] (by kernel_rfl) (by kernel_rfl) (by kernel_rfl) (by kernel_rfl) (by kernel_rfl)
    case hob =>
      refine ⟨?o0, ?o1, ?o2, ?o3, ?o4, ?o5, ?o6, ?o7, ?o8, ?o9, trivial⟩
      case o0 => intro W hW; change wpList _ _ _ _ _ _; go_wp2; exact j0 rfl rfl rfl
      case o1 =>
        intro W hW; rintro _ rfl; change wpList _ _ _ _ _ _
        have hCu := (HK.out.below hW hgU)
        have hCn := ((HSt.out.conf.below hW hgN).cell 0)
        rw [HE.out, List.getElem?_cons_zero] at hCn
        have HC := kp (xC gU gN gT k q1.len q1.cap true x W hCu hCn hkl1)
        clear hCu hCn
        go_wp2_with fail
        refine (HC.out).mono ?_
        rintro e w2 ⟨rfl, m, rfl⟩
        go_wp2
        exact jC rfl rfl rfl (jE (Below.refl _ _) m) rfl
      case o2 =>
        intro W hW; rintro _ rfl; change wpList _ _ _ _ _ _
        have hc := (HT.out.below hW hgT).cell (k * 9)
        rw [HC0.out] at hc
        have hC := sem_last ⟨gT, k * 9, none⟩ ⟨gS, 0, none⟩ n cp W hs01 hlen161 hc
        rw [vW] at hC
        have HC := kp hC
        clear hc hC
        go_wp2_with fail
        refine (HC.out).mono ?_
        rintro e w2 ⟨rfl, m, rfl⟩
        go_wp2
        exact jC rfl rfl rfl (jE (Below.refl _ _) m) rfl
      case o3 => intro W hW; change wpList _ _ _ _ _ _; go_wp2; exact j0 rfl rfl rfl
      case o4 => intro W hW; rintro _ rfl; change wpList _ _ _ _ _ _; go_wp2; exact j0 rfl rfl rfl
      case o5 => intro W hW; rintro _ rfl; change wpList _ _ _ _ _ _; go_wp2; exact j0 rfl rfl rfl
      case o6 => intro W hW; rintro _ rfl; change wpList _ _ _ _ _ _; go_wp2; exact j0 rfl rfl rfl
      case o7 =>
        intro W hW; rintro _ rfl; change wpList _ _ _ _ _ _
        have hc := (HK.out.below hW hgU).cell 6
        simp only [turnC, List.getElem?_cons_zero, List.getElem?_cons_succ] at hc
        rw [hal] at hc
        go_wp2; exact j0 rfl rfl rfl
      case o8 => intro W hW; rintro _ rfl; change wpList _ _ _ _ _ _; go_wp2; exact j0 rfl rfl rfl
      case o9 => intro W hW; rintro _ rfl; change wpList _ _ _ _ _ _; go_wp2; exact j0 rfl rfl rfl
    case hend =>
      intro W hW; rintro _ rfl; rintro _ rfl; rintro _ rfl; rintro _ rfl; rintro _ rfl; rintro _ rfl; rintro _ rfl; rintro _ rfl; rintro _ rfl; rintro _ rfl
      simp only [given, jI, List.set, List.drop]
      have HKw := kp (HS.out.below hW hgS)
      have HStw := kp (HSt.out.below hW (Nat.le_refl _))
      have HBw := kp (hW.mono hBw)
      have HKu := kp (HK.out.below hW hgU)
      have hWs := hW.size
      have HWg := kp hW
      have hsw := HBw.out.size
      clear hW
      go_wp2_with (first
        | ((with_reducible show Sn); go_must (refine j7 rfl 3 (.tmp 18) (.tmp 16) rfl gS ((n - 1) * 2 + 1) (.int .i64 (al : Int)) rfl rfl rfl rfl _ _ HKw.out hlen l5 ?_); intro w5 hk5 hg5 hs5; have HFin := kp (HPut.out W w5 al HWg.out hk5 hg5 hs5); have HKu5 := kp (HKu.out.grown hg5 (fun e => hSU (by cases e; rfl))); have HB5 := kp (HBw.out.grown hg5 (by omega) (fun k e => by cases e; exact hBS)); clear hk5 hg5))
      go_end0
      exact ⟨rfl, _, HFin.out, HGoal.out, HB1.out.trans HB5.out⟩
set_option maxRecDepth 100000 in
set_option maxHeartbeats 1600000 in
theorem sem_leave (B gN gU k : Nat) (q : Pc) (x : Nd) (way : Bool) (th : Tv) (w : World) (hst : St w B gN gU q) (hu : Blk w gU 109 (turnC gN k way x)) (hkl : k < q.len) (hth : q.tvs[k]? = some th) (hs0 : 0 < th.sv.len) (hlen16 : th.sv.len ≤ 1000) (_h8 : q.len ≤ 8) (hk9 : x.kind = 9) :
    Calls Try.prog 75 #[.pointer (some ⟨gU, 0, none⟩)] w fun e w' => e = .returned (.tuple #[]) ∧ ∃ q', St w' B gN gU q' ∧ q'.cf = M.act q.cf k x way ∧ Below B w w' := by
  obtain ⟨gT, curT, th', hA, hbT, hth', hcT0, hcTj, hTN, hTU, hBT, hsl, hthc, hcTl⟩ := hst.thread hkl
  rw [hth] at hth'
  cases hth'
  obtain ⟨gS, cur, hSA, hbS, hlen, hSN, hSU, hBS, hput⟩ := hst.goes hth hs0
  have hbound := hst.ok
  have hqc := hbound.lc; have hqm := hbound.cm
  unfold maxLen at hqm
  have HE : Kept (pcC q = .slice (some ⟨gT, 0, none⟩) q.len q.cap :: q.ow.map natV) := kp (by unfold pcC; rw [hA])
  have hgN := hst.conf.lt; have hgU := hu.lt; have hgT := hbT.lt; have hgS := hbS.lt
  have HSt := kp hst; have HK := kp hu; have HT := kp hbT; have HS := kp hbS; have HPut := kp hput
  have hxc := hbound.svs th (List.mem_of_getElem? hth)
  have hxc2 := hxc.lc; have hxm := hxc.cm
  unfold maxLen at hxm
  rw [hSA] at hcT0
  have HC0 := kp hcT0
  have hlow := hst.low.1
  have hBw : B ≤ w.heap.size := by omega
  have HLow := kp hst.low
  obtain ⟨n, hn⟩ : ∃ n, th.sv.len = n := ⟨_, rfl⟩
  obtain ⟨cp, hcp⟩ : ∃ cp, th.sv.cap = cp := ⟨_, rfl⟩
  have HThl := kp hn
  rw [hn] at HC0 hs0 hlen16 hxc2 hlen HPut
  rw [hcp] at HC0 hxc2 hxm
  obtain ⟨mm, hmm⟩ : ∃ mm, n = mm + 1 := ⟨n - 1, by omega⟩
  have HA := kp hA; have HTh := kp hth
  have HOwn : Kept (∀ W, St W B gN gU q → OwnR 2 frV W B 90 (.slice (some ⟨gS, 0, none⟩) (mm + 1) cp) th.sv.stack) := kp (fun W hW => by
    have h := hW.fam.own k th.sv (by rw [List.getElem?_map, hth]; rfl)
    unfold svV at h
    rw [hSA, hn, hcp, hmm] at h
    exact h)
  have HBk : Kept ((svV ⟨some ⟨gS, 0, none⟩, mm, cp, th.sv.stack.take mm⟩).ownBlock = (svV th.sv).ownBlock) := kp (by unfold svV; rw [hSA]; rfl)
  have HGoal : Kept ((q.put k ⟨⟨some ⟨gS, 0, none⟩, mm, cp, th.sv.stack.take mm⟩, th.slots⟩).cf = M.act q.cf k x way) := kp (by
    rw [Pc.put_cf]
    unfold M.act
    rw [if_pos hk9, hthc]
    have e : (tvT th).stack.length - 1 = mm := by show th.sv.stack.length - 1 = mm; rw [hsl, hn, hmm]; rfl
    rw [e]; rfl)
  have hTlen : k * 9 < curT.length := by omega
  have hCu := hu
  have hCn := hst.conf.cell 0
  rw [HE.out, List.getElem?_cons_zero] at hCn
  have HC := kp (xC gU gN gT k q.len q.cap way x w hCu hCn hkl)
  subst hmm
  rw [Nat.add_sub_cancel] at hlen
  clear hst hu hth hput hbT hbS hcT0 hcTj hthc hcTl hsl hbound hxc hn hcp hSA hA hCu hCn
  go_enter Try.func75, Try.ntmps75
  go_wp2_with fail
  refine HC.out.mono ?_
  rintro e w9 ⟨rfl, m, rfl⟩
  obtain ⟨w1, hw1⟩ : ∃ y, w.drewN m = y := ⟨_, rfl⟩
  have HT1 : Kept (Blk w1 gT 89 curT) := kp (by rw [← hw1]; exact HT.out.drewN m)
  have HSt1 : Kept (St w1 B gN gU q) := kp (by rw [← hw1]; exact HSt.out.drewN m)
  have HB1 : Kept (Below B w w1) := kp (by rw [← hw1]; exact jE (Below.refl _ _) m)
  have hBw1 : B ≤ w1.heap.size := by have := HB1.out.size; omega
  have hgT1 := HT1.out.lt
  rw [hw1]
  clear hw1
  go_wp2
  apply jD 14 (.is _ :: .is _ :: .is _ :: .is _ :: .is _ :: .is _ :: .is _ :: .is _ :: .is _ :: .is _ :: .is (.int .i64 (mm : Int)) :: .is (.slice (some ⟨gS, 0, none⟩) mm cp) :: .is _ :: .is _ :: [])
    [[], [], [(1, 6)], [(2, 7)], [(3, 8)], [], [(5, 10)], [(6, 11)], [(7, 12)], [(8, 13)], [(9, 14)], [(4, 9), (10, 15)], [(0, 5)], [(12, 17)], [(13, 18), (11, 16)]]
    [(0, 5), (1, 6), (2, 7), (3, 8), (4, 9), (5, 10), (6, 11), (7, 12), (8, 13), (9, 14), (10, 15), (11, 16), (12, 17), (13, 18)] (by kernel_rfl) (by kernel_rfl) (by kernel_rfl) (by kernel_rfl) (by kernel_rfl)
  case hob =>
    refine ⟨?o0, ?o1, ?o2, ?o3, ?o4, ?o5, ?o6, ?o7, ?o8, ?o9, ?o10, ?o11, ?o12, ?o13, trivial⟩
    case o0 => intro W hW; change wpList _ _ _ _ _ _; go_wp2; exact j0 rfl rfl rfl
    case o1 => intro W hW; change wpList _ _ _ _ _ _; go_wp2; exact j0 rfl rfl rfl
    case o2 => intro W hW; rintro _ rfl; change wpList _ _ _ _ _ _; go_wp2; exact j0 rfl rfl rfl
    case o3 => intro W hW; rintro _ rfl; change wpList _ _ _ _ _ _; go_wp2; exact j0 rfl rfl rfl
    case o4 =>
      intro W hW; rintro _ rfl; change wpList _ _ _ _ _ _
      have hc := (HT1.out.below hW hgT1).cell (k * 9)
      rw [HC0.out] at hc
      go_wp2; exact j0 rfl rfl rfl
    case o5 => intro W hW; change wpList _ _ _ _ _ _; go_wp2; exact j0 rfl rfl rfl
    case o6 => intro W hW; rintro _ rfl; change wpList _ _ _ _ _ _; go_wp2; exact j0 rfl rfl rfl
    case o7 => intro W hW; rintro _ rfl; change wpList _ _ _ _ _ _; go_wp2; exact j0 rfl rfl rfl
    case o8 =>
      intro W hW; rintro _ rfl; change wpList _ _ _ _ _ _
      have hc := (HT1.out.below hW hgT1).cell (k * 9)
      rw [HC0.out] at hc
      go_wp2; exact j0 rfl rfl rfl
    case o9 => intro W hW; rintro _ rfl; change wpList _ _ _ _ _ _; go_wp2; exact j0 rfl rfl rfl
    case o10 => intro W hW; rintro _ rfl; change wpList _ _ _ _ _ _; go_wp2; exact j0 rfl rfl rfl
    case o11 =>
      intro W hW; rintro _ rfl; rintro _ rfl; change wpList _ _ _ _ _ _
      go_wp2_with ((with_reducible show Sl 16); go_must (refine zQ rfl 87 (.tmp 9) (.tmp 15) rfl 90 2 Try.underlying87 frame_size (some ⟨gS, 0, none⟩) (mm + 1) cp rfl .i64 mm rfl (by omega) ?_))
      exact j0 rfl rfl rfl
    case o12 => intro W hW; rintro _ rfl; change wpList _ _ _ _ _ _; go_wp2; exact j0 rfl rfl rfl
    case o13 => intro W hW; rintro _ rfl; change wpList _ _ _ _ _ _; go_wp2; exact j0 rfl rfl rfl
  case hend =>
    intro W hW; rintro _ rfl; rintro _ rfl; rintro _ rfl; rintro _ rfl; rintro _ rfl; rintro _ rfl; rintro _ rfl; rintro _ rfl; rintro _ rfl; rintro _ rfl; rintro _ rfl; rintro _ rfl; rintro _ rfl; rintro _ rfl
    simp only [given, jI, List.set, List.drop]
    have HKw := kp (HT1.out.below hW hgT1)
    have HStw := kp (HSt1.out.below hW (Nat.le_refl _))
    have HBw := kp (HB1.out.trans (hW.mono hBw1))
    have hWs := hW.size
    clear hW
    go_wp2_with (first
      | ((with_reducible show Sn); go_must (refine j7 rfl 87 (.tmp 18) (.tmp 16) rfl gT (k * 9) (.slice (some ⟨gS, 0, none⟩) mm cp) rfl rfl rfl rfl _ _ HKw.out hTlen frames_size ?_); intro w5 hk5 hg5 hs5
         have HFin := kp (HStw.out.stack (sv := ⟨some ⟨gS, 0, none⟩, mm, cp, th.sv.stack.take mm⟩) HA.out HKw.out HTh.out (xG _ _) ((HOwn.out _ HStw.out).front (Nat.le_succ mm)) (.inl HBk.out) hk5 hg5 hs5)
         have HB5 := kp (HBw.out.grown hg5 (by omega) (fun k e => by cases e; exact hBT)); clear hk5 hg5))
    go_end0
    exact ⟨rfl, _, HFin.out, HGoal.out, HB5.out⟩
end Go.Proofs.Ytkhfolpffjihgaa
