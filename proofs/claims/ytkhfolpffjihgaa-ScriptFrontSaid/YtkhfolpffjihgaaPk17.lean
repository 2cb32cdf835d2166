/- TextStep, SemP7, SemP8, in one text. -/
import Derived.Test.YtkhfolpffjihgaaPk12
import Derived.Maps.AppendAt
import Derived.Test.YtkhfolpffjihgaaPk15
import Derived.Test.YtkhfolpffjihgaaPk16
import Derived.Test.YtkhfolpffjihgaaPk7
namespace Go.Proofs.Ytkhfolpffjihgaa
open Go.RowKit
section
variable {P : Program} {ops : Array Oper} {rest : List Oper} {o : Oper} {a : Act} {w : World} {Q : Exit → Act → World → Prop} {α : Type}
theorem yU {e : TypeId} {gn : Nat} {vs : List Value} (h : Blk w gn e vs) : ∀ j y, vs[j]? = some y → w.cell? ((⟨gn, 0, none⟩ : Addr).add j) = some y := fun j y hy => by
  have hadd : (⟨gn, 0, none⟩ : Addr).add j = ⟨gn, j, none⟩ := by unfold Addr.add; split <;> simp_all
  rw [hadd, h.cell j]; exact hy
theorem zJ (hgd : o.guard = none) (s x : Operand) (t : TypeId)
    (ho : o.op = .call { callee := .builtin .append, args := #[s, x], argTypes := #[t, t] })
    (B : Nat) (e : TypeId) (sz : Nat) (z : Value) (bytes : Nat) (ht : P.underlying t = some (.slice e)) (hi : (P.info? e).map (fun i => (i.zero, i.size, i.bytes)) = some (some z, sz, bytes)) (hzs : z.cells.size = sz) (hsz : 0 < sz)
    (f : α → Nat → Value) (hone : ∀ x j, (f x j).oneCell' = true)
    (q cap : Nat) (l : List α) (u : α) (hs : a.eval s = .slice (some ⟨q, 0, none⟩) l.length cap) (hown : OwnR sz f w B e (.slice (some ⟨q, 0, none⟩) l.length cap) l) (hroom : l.length + 1 ≤ cap)
    (gn c : Nat) (hx : a.eval x = .slice (some ⟨gn, 0, none⟩) 1 c) (hbk : Blk w gn e ((List.range sz).map (f u))) (hbytes : (l.length + 1) * bytes ≤ 140737488355328)
    (h : ∀ w', OwnR sz f w' B e (.slice (some ⟨q, 0, none⟩) (l.length + 1) cap) (l ++ [u]) → w.grownBy w' (some q) → wpList P ops Q rest (a.put o.dst (.slice (some ⟨q, 0, none⟩) (l.length + 1) cap)) w') : wpList P ops Q (o :: rest) a w := by
  obtain ⟨i, hi0, hzz⟩ := Option.map_eq_some_iff.1 hi
  simp only [Prod.mk.injEq] at hzz
  obtain ⟨hz, hsize, hby⟩ := hzz
  have hone' : ∀ y ∈ (List.range sz).map (f u), y.oneCell' = true := fun y hy => by
    obtain ⟨j, _, rfl⟩ := List.mem_map.1 hy
    exact hone u j
  rcases hown.2 with ⟨hv, _⟩ | ⟨q', cap', cur, hv, hBq, hg, hn, hm, hcs, ht2⟩
  · cases hv
  injection hv with e1 _ e3
  cases e1
  subst e3
  have hlt : q < w.heap.size := (Array.getElem?_eq_some_iff.1 hg).1
  obtain ⟨v', w', hr, h2, h3, _⟩ := run_append_own_at (P := P) w B t o.type e i z sz bytes ht hi0 hz hsize hby hzs hsz _ l.length (cellsR sz f l) hown ⟨gn, 0, none⟩ 1 c ((List.range sz).map (f u)) (by simp) (yU hbk) hone'
    (by omega) hbytes (by omega)
  have hr2 := run_append_room (P := P) w t o.type e i ht hi0 q l.length cap cur hg ⟨gn, 0, none⟩ 1 c ((List.range sz).map (f u)) (by rw [hsize]; simp) (yU hbk) hone' hroom (by
    rw [hsize, hcs]
    have h9 := Nat.mul_le_mul_right sz hroom
    simp [Nat.add_mul] at h9 ⊢; omega)
  rw [hr] at hr2
  injection hr2 with e1 e2
  subst e1
  refine wpList_plain hgd fun K hK => ?_
  unfold Oper.wp execOp
  simp only [ho, resolve, invoke, builtin, Sem.run_bind, Sem.run_pure, Result.andThen_ok, List.map_toArray, List.map_cons, List.map_nil, hs, hx, hr]
  refine hK _ _ (h w' ?_ h3)
  unfold OwnR
  rw [List.length_append, List.length_singleton, xJ]
  have e1 : cellsR sz f [u] = (List.range sz).map (f u) := by simp [cellsR]
  rw [e1]
  exact h2
theorem xB (hgd : o.guard = none) (s x : Operand) (t : TypeId)
    (ho : o.op = .call { callee := .builtin .append, args := #[s, x], argTypes := #[t, t] })
    (B : Nat) (e : TypeId) (sz : Nat) (z : Value) (bytes : Nat) (ht : P.underlying t = some (.slice e)) (hi : (P.info? e).map (fun i => (i.zero, i.size, i.bytes)) = some (some z, sz, bytes)) (hzs : z.cells.size = sz) (hsz : 0 < sz)
    (f : α → Nat → Value) (hone : ∀ x j, (f x j).oneCell' = true)
    (v : Value) (l : List α) (u : α) (hs : a.eval s = v) (hown : OwnR sz f w B e v l) (hfull : v = .slice none 0 0 ∨ ∃ q, v = .slice (some ⟨q, 0, none⟩) l.length l.length)
    (gn c : Nat) (hx : a.eval x = .slice (some ⟨gn, 0, none⟩) 1 c) (hbk : Blk w gn e ((List.range sz).map (f u))) (h63 : l.length + 1 ≤ maxLen) (hbytes : (l.length + 1) * bytes ≤ 140737488355328) (hB : B ≤ w.heap.size)
    (h : ∀ v' w', OwnR sz f w' B e v' (l ++ [u]) → Below w.heap.size w w' → v'.ownBlock = some w.heap.size → wpList P ops Q rest (a.put o.dst v') w') : wpList P ops Q (o :: rest) a w := by
  obtain ⟨i, hi0, hzz⟩ := Option.map_eq_some_iff.1 hi
  simp only [Prod.mk.injEq] at hzz
  obtain ⟨hz, hsize, hby⟩ := hzz
  have hone' : ∀ y ∈ (List.range sz).map (f u), y.oneCell' = true := fun y hy => by
    obtain ⟨j, _, rfl⟩ := List.mem_map.1 hy
    exact hone u j
  obtain ⟨v', w', hr, h2, h3, _, h5⟩ := run_append_own_at (P := P) w B t o.type e i z sz bytes ht hi0 hz hsize hby hzs hsz v l.length (cellsR sz f l) hown ⟨gn, 0, none⟩ 1 c ((List.range sz).map (f u)) (by simp) (yU hbk) hone'
    h63 hbytes hB
  have hsm : l.length + 1 ≤ 9223372036854775807 := by unfold maxLen at h63; omega
  have hnew : ∃ cs k, w' = w.drew.alloc (.cells cs e) ∧ v' = .slice (some ⟨w.heap.size, 0, none⟩) (l.length + 1) k := by
    rcases hfull with rfl | ⟨q, rfl⟩
    · have hl0 : l.length = 0 := by
        rcases hown.2 with ⟨_, h0⟩ | ⟨q', cap', cur, hv, _⟩
        · exact h0
        · cases hv
      have hr2 := run_append_nil (P := P) w t o.type e i z ht hi0 hz ⟨gn, 0, none⟩ 1 c ((List.range sz).map (f u)) (by rw [hsize]; simp) (yU hbk) (by omega) (by omega) (by rw [hby]; have := hbytes; rw [hl0] at this; omega)
      rw [hr] at hr2
      injection hr2 with e1 e2
      exact ⟨_, _, e2, by rw [e1, hl0]⟩
    · have holds : ∀ j y, (cellsR sz f l)[j]? = some y → w.cell? ((⟨q, 0, none⟩ : Addr).add j) = some y := World.ownsRow.cells hown (g := q) rfl
      have hr2 := run_append_grow (P := P) w t o.type e i z ht hi0 hz ⟨q, 0, none⟩ l.length l.length (cellsR sz f l) (by rw [hsize, lP]) holds ⟨gn, 0, none⟩ 1 c ((List.range sz).map (f u)) (by rw [hsize]; simp) (yU hbk) (by omega) (by omega) (by rw [hby]; exact growslice_fits (by omega) (by omega))
      rw [hr] at hr2
      injection hr2 with e1 e2
      exact ⟨_, _, e2, e1⟩
  obtain ⟨cs, k, rfl, rfl⟩ := hnew
  refine wpList_plain hgd fun K hK => ?_
  unfold Oper.wp execOp
  simp only [ho, resolve, invoke, builtin, Sem.run_bind, Sem.run_pure, Result.andThen_ok, List.map_toArray, List.map_cons, List.map_nil, hs, hx, hr]
  refine hK _ _ (h _ _ ?_ ?_ rfl)
  · unfold OwnR
    rw [List.length_append, List.length_singleton, xJ]
    have e1 : cellsR sz f [u] = (List.range sz).map (f u) := by simp [cellsR]
    rw [e1]
    exact h2
  · exact ⟨rfl, rfl, rfl, by simp, fun k hk => Below.heap_alloc w.drew _ k hk⟩
end
def turnC (gN k : Nat) (way : Bool) (x : Nd) : List Value := [.pointer (some ⟨gN, 0, none⟩), .int .i64 (k : Int), .bool way, .int .i64 x.kind, .int .i64 x.arg, .int .i64 x.next, .int .i64 x.alt]
theorem y9 (a : Act) (v : Value) : a.put none v = a := rfl
set_option maxRecDepth 100000 in
set_option maxHeartbeats 800000 in
theorem xC (gU gN gT k n c : Nat) (way : Bool) (x : Nd) (w : World) (hu : Blk w gU 109 (turnC gN k way x)) (hn : w.cell? ⟨gN, 0, none⟩ = some (.slice (some ⟨gT, 0, none⟩) n c)) (hk : k < n) :
    Calls Try.prog 81 #[.pointer (some ⟨gU, 0, none⟩)] w fun e w' => e = .returned (.pointer (some ⟨gT, k * 9, none⟩)) ∧ ∃ m, w' = w.drewN m := by
  have h0 := hu.cell 0; have h1 := hu.cell 1
  simp only [turnC, List.getElem?_cons_zero, List.getElem?_cons_succ] at h0 h1
  have hkn : (k : Int) < (n : Int) := by omega
  clear hu
  go_enter Try.func81, Try.ntmps81
  go_wp2
  go_quiet (fail)
  go_wp2
  go_ret
  exact ⟨rfl, _, rfl⟩
set_option maxRecDepth 100000 in
set_option maxHeartbeats 1600000 in
theorem qN (B gN gU k : Nat) (q : Pc) (x : Nd) (way : Bool) (th : Tv) (w : World) (hst : St w B gN gU q) (hu : Blk w gU 109 (turnC gN k way x)) (hkl : k < q.len) (hth : q.tvs[k]? = some th) (hs0 : 0 < th.sv.len) (hlen16 : th.sv.len ≤ 1000) (_h8 : q.len ≤ 8) (nx : Nat) (hnx : x.next = (nx : Int)) :
    Calls Try.prog 69 #[.pointer (some ⟨gU, 0, none⟩)] w fun e w' => e = .returned (.tuple #[]) ∧ St w' B gN gU (q.put k (tvGo th nx)) ∧ Blk w' gU 109 (turnC gN k way x) ∧ Below B w w' := by
  obtain ⟨gT, curT, th', hA, hbT, hth', hcT0, hcTj, hTN, hTU, hBT, hsl, hthc, hcTl⟩ := hst.thread hkl
  rw [hth] at hth'
  cases hth'
  obtain ⟨gS, cur, hSA, hbS, hlen, hSN, hSU, hBS, hput⟩ := hst.goes hth hs0
  have hbound := hst.ok
  have hqc := hbound.lc; have hqm := hbound.cm
  unfold maxLen at hqm
  have HE : Kept (pcC q = .slice (some ⟨gT, 0, none⟩) q.len q.cap :: q.ow.map natV) := kp (by unfold pcC; rw [hA])
  have hgN := hst.conf.lt; have hgU := hu.lt; have hgT := hbT.lt; have hgS := hbS.lt
  have HSt := kp hst; have HK := kp hu; have HT := kp hbT; have HS := kp hbS; have HPut := kp hput
  have hxc := hbound.svs th (List.mem_of_getElem? hth)
  have hxc2 := hxc.lc; have hxm := hxc.cm
  unfold maxLen at hxm
  rw [hSA] at hcT0
  have HC0 := kp hcT0
  have hlow := hst.low.1
  have hBw : B ≤ w.heap.size := by omega
  have HLow := kp hst.low
  obtain ⟨n, hn⟩ : ∃ n, th.sv.len = n := ⟨_, rfl⟩
  obtain ⟨cp, hcp⟩ : ∃ cp, th.sv.cap = cp := ⟨_, rfl⟩
  have HThl := kp hn
  rw [hn] at HC0 hs0 hlen16 hxc2 hlen HPut
  rw [hcp] at HC0 hxc2 hxm
  have HB : Kept (Below B w w) := kp (Below.refl _ _)
  clear hst hu hth hput hbT hbS hcT0 hcTj hthc hcTl hsl hbound hxc hn hcp hSA hA
  go_enter Try.func69, Try.ntmps69
  go_wp2
  apply jD 10 (.is _ :: .is _ :: .is _ :: .is _ :: .is _ :: .is _ :: .is _ :: .is _ :: .is _ :: .is _ :: [])
    [[], [(0, 2)], [(1, 3)], [], [(3, 5)], [(4, 6)], [(5, 7)], [(6, 8)], [(2, 4)], [(8, 10)], [(9, 11), (7, 9)]]
    [(0, 2), (1, 3), (2, 4), (3, 5), (4, 6), (5, 7), (6, 8), (7, 9), (8, 10), (9, 11)] (by kernel_rfl) (by kernel_rfl) (by kernel_rfl) (by kernel_rfl) (by kernel_rfl)
  case hob =>
    refine ⟨?o0, ?o1, ?o2, ?o3, ?o4, ?o5, ?o6, ?o7, ?o8, ?o9, trivial⟩
    case o0 => intro W hW; change wpList _ _ _ _ _ _; go_wp2; exact j0 rfl rfl rfl
    case o1 =>
      intro W hW; rintro _ rfl; change wpList _ _ _ _ _ _
      have hCu := (HK.out.below hW hgU)
      have hCn := ((HSt.out.conf.below hW hgN).cell 0)
      rw [HE.out, List.getElem?_cons_zero] at hCn
      have HC := kp (xC gU gN gT k q.len q.cap way x W hCu hCn hkl)
      clear hCu hCn
      go_wp2_with fail
      refine (HC.out).mono ?_
      rintro e w2 ⟨rfl, m, rfl⟩
      go_wp2
      exact jC rfl rfl rfl (jE (Below.refl _ _) m) rfl
    case o2 =>
      intro W hW; rintro _ rfl; change wpList _ _ _ _ _ _
      have hc := (HT.out.below hW hgT).cell (k * 9)
      rw [HC0.out] at hc
      have hC := sem_last ⟨gT, k * 9, none⟩ ⟨gS, 0, none⟩ n cp W hs0 hlen16 hc
      rw [vW] at hC
      have HC := kp hC
      clear hc hC
      go_wp2_with fail
      refine (HC.out).mono ?_
      rintro e w2 ⟨rfl, m, rfl⟩
      go_wp2
      exact jC rfl rfl rfl (jE (Below.refl _ _) m) rfl
    case o3 => intro W hW; change wpList _ _ _ _ _ _; go_wp2; exact j0 rfl rfl rfl
    case o4 => intro W hW; rintro _ rfl; change wpList _ _ _ _ _ _; go_wp2; exact j0 rfl rfl rfl
    case o5 => intro W hW; rintro _ rfl; change wpList _ _ _ _ _ _; go_wp2; exact j0 rfl rfl rfl
    case o6 => intro W hW; rintro _ rfl; change wpList _ _ _ _ _ _; go_wp2; exact j0 rfl rfl rfl
    case o7 =>
      intro W hW; rintro _ rfl; change wpList _ _ _ _ _ _
      have hc := (HK.out.below hW hgU).cell 5
      simp only [turnC, List.getElem?_cons_zero, List.getElem?_cons_succ] at hc
      go_wp2; exact j0 rfl rfl rfl
    case o8 => intro W hW; rintro _ rfl; change wpList _ _ _ _ _ _; go_wp2; exact j0 rfl rfl rfl
    case o9 => intro W hW; rintro _ rfl; change wpList _ _ _ _ _ _; go_wp2; exact j0 rfl rfl rfl
  case hend =>
    intro W hW; rintro _ rfl; rintro _ rfl; rintro _ rfl; rintro _ rfl; rintro _ rfl; rintro _ rfl; rintro _ rfl; rintro _ rfl; rintro _ rfl; rintro _ rfl
    simp only [given, jI, List.set, List.drop]
    have HKw := kp (HS.out.below hW hgS)
    have HStw := kp (HSt.out.below hW (Nat.le_refl _))
    have HBw := kp (hW.mono hBw)
    have HKu := kp (HK.out.below hW hgU)
    have hWs := hW.size
    have HWg := kp hW
    have hsw := HBw.out.size
    clear hW
    go_wp2_with (first
      | ((with_reducible show Sn); go_must (refine j7 rfl 3 (.tmp 11) (.tmp 9) rfl gS ((n - 1) * 2 + 1) (.int .i64 (nx : Int)) rfl rfl rfl rfl _ _ HKw.out hlen l5 ?_); intro w5 hk5 hg5 hs5; have HFin := kp (HPut.out W w5 nx HWg.out hk5 hg5 hs5); have HKu5 := kp (HKu.out.grown hg5 (fun e => hSU (by cases e; rfl))); have HB5 := kp (HBw.out.grown hg5 (by omega) (fun k e => by cases e; exact hBS)); clear hk5 hg5))
    go_end0
    exact ⟨rfl, HFin.out, HKu5.out, HB5.out⟩
set_option maxRecDepth 100000 in
set_option maxHeartbeats 1600000 in
theorem sem_lock (B gN gU k : Nat) (q : Pc) (x : Nd) (way : Bool) (th : Tv) (w : World) (hst : St w B gN gU q) (hu : Blk w gU 109 (turnC gN k way x)) (hkl : k < q.len) (hth : q.tvs[k]? = some th) (hs0 : 0 < th.sv.len) (hlen16 : th.sv.len ≤ 1000) (h8 : q.len ≤ 8) (nx : Nat) (hnx : x.next = (nx : Int)) (a : Nat) (ha : x.arg = (a : Int)) (ha16 : a < 16) (how : q.ow.length = 16) (hk3 : x.kind = 3) :
    Calls Try.prog 70 #[.pointer (some ⟨gU, 0, none⟩)] w fun e w' => e = .returned (.tuple #[]) ∧ ∃ q', St w' B gN gU q' ∧ q'.cf = M.act q.cf k x way ∧ Below B w w' := by
  go_enter Try.func70, Try.ntmps70
  go_wp2_with fail
  refine (qN B gN gU k q x way th w hst hu hkl hth hs0 hlen16 h8 nx hnx).mono ?_
  rintro e w1 ⟨rfl, hst1, hu1, hb1⟩
  have hw1s := hb1.size
  have hth1 : (q.put k (tvGo th nx)).tvs[k]? = some (tvGo th nx) := by
    show (q.tvs.set k (tvGo th nx))[k]? = _
    rw [List.getElem?_set, if_pos rfl, if_pos (List.getElem?_eq_some_iff.1 hth).1]
  have hcf1 : M.th q.cf k = tvT th := Pc.th_of hth
  have HCf := kp (Pc.put_cf q k (tvGo th nx))
  have HCf0 := kp hcf1
  have hs01 : 0 < (tvGo th nx).sv.len := hs0
  have hlen161 : (tvGo th nx).sv.len ≤ 1000 := hlen16
  have hkl1 : k < (q.put k (tvGo th nx)).len := hkl
  have h81 : (q.put k (tvGo th nx)).len ≤ 8 := h8
  have how1 : (q.put k (tvGo th nx)).ow = q.ow := rfl
  have HQlen : Kept ((q.put k (tvGo th nx)).len = q.len) := kp rfl
  have HTvs : Kept ((q.put k (tvGo th nx)).tvs = q.tvs.set k (tvGo th nx)) := kp rfl
  have HTh1 : Kept (tvT (tvGo th nx) = ⟨M.goOn th.sv.stack nx, th.slots⟩) := kp rfl
  obtain ⟨q1, hq1⟩ : ∃ q1, q.put k (tvGo th nx) = q1 := ⟨_, rfl⟩
  obtain ⟨th1, ht1⟩ : ∃ th1, tvGo th nx = th1 := ⟨_, rfl⟩
  rw [ht1] at hq1 hth1 hs01 hlen161 HCf HTh1 HTvs hst1 hkl1 h81 how1 HQlen
  rw [hq1] at hst1 hth1 hkl1 h81 how1 HCf HQlen HTvs
  clear hst hu hq1 ht1 hcf1 hs0 hlen16
  obtain ⟨gT, curT, thx, hA, hbT, hthx, hcT0, hcTj, hTN, hTU, hBT, hsl, hthc, hcTl⟩ := hst1.thread hkl1
  rw [hth1] at hthx
  cases hthx
  obtain ⟨gS, cur, hSA, hbS, hlen, hSN, hSU, hBS, hput⟩ := hst1.goes hth1 hs01
  have hbound := hst1.ok
  have hqc := hbound.lc; have hqm := hbound.cm
  unfold maxLen at hqm
  have HE : Kept (pcC q1 = .slice (some ⟨gT, 0, none⟩) q1.len q1.cap :: q1.ow.map natV) := kp (by unfold pcC; rw [hA])
  have hgN := hst1.conf.lt; have hgU := hu1.lt; have hgT := hbT.lt; have hgS := hbS.lt
  have HSt := kp hst1; have HK := kp hu1; have HT := kp hbT; have HS := kp hbS; have HPut := kp hput
  have hxc := hbound.svs th1 (List.mem_of_getElem? hth1)
  have hxc2 := hxc.lc; have hxm := hxc.cm
  unfold maxLen at hxm
  rw [hSA] at hcT0
  have HC0 := kp hcT0
  have hlow := hst1.low.1
  have hBw : B ≤ w1.heap.size := by omega
  have HLow := kp hst1.low
  obtain ⟨n, hn⟩ : ∃ n, th1.sv.len = n := ⟨_, rfl⟩
  obtain ⟨cp, hcp⟩ : ∃ cp, th1.sv.cap = cp := ⟨_, rfl⟩
  have HThl := kp hn
  rw [hn] at HC0 hs01 hlen161 hxc2 hlen HPut
  rw [hcp] at HC0 hxc2 hxm
  have HL17 : Kept ((pcC q1).length = 17) := kp (by show (_ :: q1.ow.map natV).length = 17; simp [how1, how])
  have HGoal : Kept ((q1.own a (k + 1)).cf = M.act q.cf k x way) := kp (by
    have e : (q1.own a (k + 1)).cf = ⟨q1.cf.ths, q1.ow.set a (k + 1)⟩ := rfl
    unfold M.act
    rw [e, HCf.out, how1, HCf0.out, if_neg (show ¬ x.kind = 9 by omega), if_pos hk3, hnx, ha, Int.toNat_natCast, Int.toNat_natCast, HTh1.out]
    rfl)
  clear hst1 hu1 hth1 hput hbT hbS hcT0 hcTj hthc hcTl hsl hbound hxc hn hcp hSA hA
  go_wp2
  apply jD 18 (.is _ :: .is _ :: .is _ :: .is _ :: .is _ :: .is _ :: .is _ :: .is _ :: .is _ :: .is _ :: .is _ :: .is _ :: .is _ :: .is _ :: .is _ :: .is _ :: .is _ :: .is _ :: [])
    [[], [(0, 4)], [(1, 5)], [(2, 6)], [], [(4, 8)], [(5, 9)], [(6, 10)], [(7, 11)], [], [(9, 13)], [(10, 14)], [(11, 15)], [(12, 16)], [(13, 17)], [(3, 7)], [(15, 19)], [(16, 20), (8, 12)], [(17, 21), (14, 18)]]
    [(0, 4), (1, 5), (2, 6), (3, 7), (4, 8), (5, 9), (6, 10), (7, 11), (8, 12), (9, 13), (10, 14), (11, 15), (12, 16), (13, 17), (14, 18), (15, 19), (16, 20), (17, 21)] (by kernel_rfl) (by kernel_rfl) (by kernel_rfl) (by kernel_rfl) (by kernel_rfl)
  case hob =>
    refine ⟨?o0, ?o1, ?o2, ?o3, ?o4, ?o5, ?o6, ?o7, ?o8, ?o9, ?o10, ?o11, ?o12, ?o13, ?o14, ?o15, ?o16, ?o17, trivial⟩
    case o0 => intro W hW; change wpList _ _ _ _ _ _; go_wp2; exact j0 rfl rfl rfl
    case o1 => intro W hW; rintro _ rfl; change wpList _ _ _ _ _ _; go_wp2; exact j0 rfl rfl rfl
    case o2 => intro W hW; rintro _ rfl; change wpList _ _ _ _ _ _; go_wp2; exact j0 rfl rfl rfl
    case o3 =>
      intro W hW; rintro _ rfl; change wpList _ _ _ _ _ _
      have hc := (HK.out.below hW hgU).cell 0
      simp only [turnC, List.getElem?_cons_zero] at hc
      go_wp2; exact j0 rfl rfl rfl
    case o4 => intro W hW; change wpList _ _ _ _ _ _; go_wp2; exact j0 rfl rfl rfl
    case o5 => intro W hW; rintro _ rfl; change wpList _ _ _ _ _ _; go_wp2; exact j0 rfl rfl rfl
    case o6 => intro W hW; rintro _ rfl; change wpList _ _ _ _ _ _; go_wp2; exact j0 rfl rfl rfl
    case o7 => intro W hW; rintro _ rfl; change wpList _ _ _ _ _ _; go_wp2; exact j0 rfl rfl rfl
    case o8 =>
      intro W hW; rintro _ rfl; change wpList _ _ _ _ _ _
      have hc := (HK.out.below hW hgU).cell 4
      simp only [turnC, List.getElem?_cons_zero, List.getElem?_cons_succ] at hc
      rw [ha] at hc
      go_wp2; exact j0 rfl rfl rfl
    case o9 => intro W hW; change wpList _ _ _ _ _ _; go_wp2; exact j0 rfl rfl rfl
    case o10 => intro W hW; rintro _ rfl; change wpList _ _ _ _ _ _; go_wp2; exact j0 rfl rfl rfl
    case o11 => intro W hW; rintro _ rfl; change wpList _ _ _ _ _ _; go_wp2; exact j0 rfl rfl rfl
    case o12 => intro W hW; rintro _ rfl; change wpList _ _ _ _ _ _; go_wp2; exact j0 rfl rfl rfl
    case o13 =>
      intro W hW; rintro _ rfl; change wpList _ _ _ _ _ _
      have hc := (HK.out.below hW hgU).cell 1
      simp only [turnC, List.getElem?_cons_zero, List.getElem?_cons_succ] at hc
      go_wp2; exact j0 rfl rfl rfl
    case o14 =>
      intro W hW; rintro _ rfl; change wpList _ _ _ _ _ _
      go_wp2_with fail
      refine (sem_mark k (by omega) W).mono ?_
      rintro e w2 ⟨rfl, rfl⟩
      go_wp2
      exact j0 rfl rfl rfl
    case o15 => intro W hW; rintro _ rfl; change wpList _ _ _ _ _ _; go_wp2; exact j0 rfl rfl rfl
    case o16 => intro W hW; rintro _ rfl; change wpList _ _ _ _ _ _; go_wp2; exact j0 rfl rfl rfl
    case o17 => intro W hW; rintro _ rfl; rintro _ rfl; change wpList _ _ _ _ _ _; go_wp2; exact j0 rfl rfl rfl
  case hend =>
    intro W hW; rintro _ rfl; rintro _ rfl; rintro _ rfl; rintro _ rfl; rintro _ rfl; rintro _ rfl; rintro _ rfl; rintro _ rfl; rintro _ rfl; rintro _ rfl; rintro _ rfl; rintro _ rfl; rintro _ rfl; rintro _ rfl; rintro _ rfl; rintro _ rfl; rintro _ rfl; rintro _ rfl
    simp only [given, jI, List.set, List.drop]
    have HKw := kp (HSt.out.conf.below hW hgN)
    have HStw := kp (HSt.out.below hW (Nat.le_refl _))
    have HBw := kp (hb1.trans (hW.mono hBw))
    have hWs := hW.size
    clear hW
    go_wp2_with (first
      | ((with_reducible show Sn); go_must (refine j7 rfl 3 (.tmp 21) (.tmp 18) rfl gN (1 + a) (.int .i64 ((k + 1 : Nat) : Int)) rfl rfl rfl rfl _ _ HKw.out (by rw [HL17.out]; omega) l5 ?_); intro w5 hk5 hg5 hs5; have HFin := kp (HStw.out.owns hk5 hg5 hs5); have HB5 := kp (HBw.out.grown hg5 (by omega) (fun k e => by cases e; exact hlow)); clear hk5 hg5))
    go_end0
    exact ⟨rfl, _, HFin.out, HGoal.out, HB5.out⟩
set_option maxRecDepth 100000 in
set_option maxHeartbeats 1600000 in
theorem sem_unlock (B gN gU k : Nat) (q : Pc) (x : Nd) (way : Bool) (th : Tv) (w : World) (hst : St w B gN gU q) (hu : Blk w gU 109 (turnC gN k way x)) (hkl : k < q.len) (hth : q.tvs[k]? = some th) (hs0 : 0 < th.sv.len) (hlen16 : th.sv.len ≤ 1000) (h8 : q.len ≤ 8) (nx : Nat) (hnx : x.next = (nx : Int)) (a : Nat) (ha : x.arg = (a : Int)) (ha16 : a < 16) (how : q.ow.length = 16) (hk4 : x.kind = 4) :
    Calls Try.prog 71 #[.pointer (some ⟨gU, 0, none⟩)] w fun e w' => e = .returned (.tuple #[]) ∧ ∃ q', St w' B gN gU q' ∧ q'.cf = M.act q.cf k x way ∧ Below B w w' := by
  go_enter Try.func71, Try.ntmps71
  go_wp2_with fail
  refine (qN B gN gU k q x way th w hst hu hkl hth hs0 hlen16 h8 nx hnx).mono ?_
  rintro e w1 ⟨rfl, hst1, hu1, hb1⟩
  have hw1s := hb1.size
  have hth1 : (q.put k (tvGo th nx)).tvs[k]? = some (tvGo th nx) := by
    show (q.tvs.set k (tvGo th nx))[k]? = _
    rw [List.getElem?_set, if_pos rfl, if_pos (List.getElem?_eq_some_iff.1 hth).1]
  have hcf1 : M.th q.cf k = tvT th := Pc.th_of hth
  have HCf := kp (Pc.put_cf q k (tvGo th nx))
  have HCf0 := kp hcf1
  have hs01 : 0 < (tvGo th nx).sv.len := hs0
  have hlen161 : (tvGo th nx).sv.len ≤ 1000 := hlen16
  have hkl1 : k < (q.put k (tvGo th nx)).len := hkl
  have h81 : (q.put k (tvGo th nx)).len ≤ 8 := h8
  have how1 : (q.put k (tvGo th nx)).ow = q.ow := rfl
  have HQlen : Kept ((q.put k (tvGo th nx)).len = q.len) := kp rfl
  have HTvs : Kept ((q.put k (tvGo th nx)).tvs = q.tvs.set k (tvGo th nx)) := kp rfl
  have HTh1 : Kept (tvT (tvGo th nx) = ⟨M.goOn th.sv.stack nx, th.slots⟩) := kp rfl
  obtain ⟨q1, hq1⟩ : ∃ q1, q.put k (tvGo th nx) = q1 := ⟨_, rfl⟩
  obtain ⟨th1, ht1⟩ : ∃ th1, tvGo th nx = th1 := ⟨_, rfl⟩
  rw [ht1] at hq1 hth1 hs01 hlen161 HCf HTh1 HTvs hst1 hkl1 h81 how1 HQlen
  rw [hq1] at hst1 hth1 hkl1 h81 how1 HCf HQlen HTvs
  clear hst hu hq1 ht1 hcf1 hs0 hlen16
  obtain ⟨gT, curT, thx, hA, hbT, hthx, hcT0, hcTj, hTN, hTU, hBT, hsl, hthc, hcTl⟩ := hst1.thread hkl1
  rw [hth1] at hthx
  cases hthx
  obtain ⟨gS, cur, hSA, hbS, hlen, hSN, hSU, hBS, hput⟩ := hst1.goes hth1 hs01
  have hbound := hst1.ok
  have hqc := hbound.lc; have hqm := hbound.cm
  unfold maxLen at hqm
  have HE : Kept (pcC q1 = .slice (some ⟨gT, 0, none⟩) q1.len q1.cap :: q1.ow.map natV) := kp (by unfold pcC; rw [hA])
  have hgN := hst1.conf.lt; have hgU := hu1.lt; have hgT := hbT.lt; have hgS := hbS.lt
  have HSt := kp hst1; have HK := kp hu1; have HT := kp hbT; have HS := kp hbS; have HPut := kp hput
  have hxc := hbound.svs th1 (List.mem_of_getElem? hth1)
  have hxc2 := hxc.lc; have hxm := hxc.cm
  unfold maxLen at hxm
  rw [hSA] at hcT0
  have HC0 := kp hcT0
  have hlow := hst1.low.1
  have hBw : B ≤ w1.heap.size := by omega
  have HLow := kp hst1.low
  obtain ⟨n, hn⟩ : ∃ n, th1.sv.len = n := ⟨_, rfl⟩
  obtain ⟨cp, hcp⟩ : ∃ cp, th1.sv.cap = cp := ⟨_, rfl⟩
  have HThl := kp hn
  rw [hn] at HC0 hs01 hlen161 hxc2 hlen HPut
  rw [hcp] at HC0 hxc2 hxm
  have HL17 : Kept ((pcC q1).length = 17) := kp (by show (_ :: q1.ow.map natV).length = 17; simp [how1, how])
  have hc16 : (pcC q1)[1 + a]? = some (.int .i64 (q1.ow.getD a 0 : Int)) := by
    rw [HE.out, show 1 + a = a + 1 by omega, List.getElem?_cons_succ]; exact owner_at (by rw [how1]; exact how) ha16
  have hu0 := HK.out.cell 0; have hu1' := HK.out.cell 1; have hu4 := HK.out.cell 4
  simp only [turnC, List.getElem?_cons_zero, List.getElem?_cons_succ] at hu0 hu1' hu4
  rw [ha] at hu4
  have hco := (HSt.out.conf.cell (1 + a)).trans hc16
  obtain ⟨o, ho⟩ : ∃ o, q1.ow.getD a 0 = o := ⟨_, rfl⟩
  rw [ho] at hco
  have HMk := kp (sem_mark k (by omega))
  have HAct : Kept (M.act q.cf k x way = ⟨q1.cf.ths, if o = k + 1 then q1.ow.set a 0 else q1.ow⟩) := kp (by
    unfold M.act
    rw [HCf.out, how1, HCf0.out, if_neg (show ¬ x.kind = 9 by omega), if_neg (show ¬ x.kind = 3 by omega), if_pos hk4, hnx, ha, Int.toNat_natCast, Int.toNat_natCast, HTh1.out, ← ho, how1]
    rfl)
  have HB1 := kp hb1
  clear hst1 hu1 hth1 hput hbT hbS hcT0 hcTj hthc hcTl hsl hbound hxc hn hcp hSA hA hc16 ho hnx ha hb1
  by_cases hok : o = k + 1
  · have HGoal : Kept ((q1.own a 0).cf = M.act q.cf k x way) := kp (by rw [HAct.out, if_pos hok]; rfl)
    have hoe : ((o : Int) == ((k + 1 : Nat) : Int)) = true := by rw [beq_iff_eq]; omega
    clear hok
    go_wp2
    go_quiet (fail)
    obtain ⟨w2, hw2⟩ : ∃ y, w1.drewN nq = y := ⟨_, rfl⟩
    have HSt2 : Kept (St w2 B gN gU q1) := kp (by rw [← hw2]; exact HSt.out.drewN nq)
    have HB2 : Kept (Below B w w2) := kp (by rw [← hw2]; exact jE HB1.out nq)
    have hW2 : w1.heap.size ≤ w2.heap.size := by rw [← hw2]; exact Nat.le_refl _
    replace hu1' : w2.cell? ⟨gU, 1, none⟩ = some (.int .i64 (k : Int)) := by rw [← hw2]; exact hu1'
    replace hco : w2.cell? ⟨gN, 1 + a, none⟩ = some (.int .i64 (o : Int)) := by rw [← hw2]; exact hco
    rw [hw2]
    clear hw2
    go_wp2
    go_quiet ((go_at_call 82; exact zY (HMk.out _)))
    obtain ⟨w3, hw3⟩ : ∃ y, w2.drewN nq = y := ⟨_, rfl⟩
    have HKw : Kept (Blk w3 gN 43 (pcC q1)) := kp (by rw [← hw3]; exact HSt2.out.conf.drewN nq)
    have HStw : Kept (St w3 B gN gU q1) := kp (by rw [← hw3]; exact HSt2.out.drewN nq)
    have HBw : Kept (Below B w w3) := kp (by rw [← hw3]; exact jE HB2.out nq)
    have hWs : w1.heap.size ≤ w3.heap.size := by rw [← hw3]; exact hW2
    rw [hw3]
    clear hw3 hu0 hu1' hu4 hco
    go_wp2_with (first
      | ((with_reducible show Sn); go_must (refine j7 rfl 3 (.tmp 28) _ rfl gN (1 + a) (.int .i64 ((0 : Nat) : Int)) rfl rfl rfl rfl _ _ HKw.out (by rw [HL17.out]; omega) l5 ?_); intro w5 hk5 hg5 hs5; have HFin := kp (HStw.out.owns hk5 hg5 hs5); have HB5 := kp (HBw.out.grown hg5 (by omega) (fun k e => by cases e; exact hlow)); clear hk5 hg5))
    go_end0
    exact ⟨rfl, _, HFin.out, HGoal.out, HB5.out⟩
  · have HGoal : Kept (q1.cf = M.act q.cf k x way) := kp (by rw [HAct.out, if_neg hok]; rfl)
    have hoe : ((o : Int) == ((k + 1 : Nat) : Int)) = false := by rw [beq_eq_false_iff_ne]; omega
    clear hok
    go_wp2
    go_quiet (fail)
    obtain ⟨w2, hw2⟩ : ∃ y, w1.drewN nq = y := ⟨_, rfl⟩
    have HSt2 : Kept (St w2 B gN gU q1) := kp (by rw [← hw2]; exact HSt.out.drewN nq)
    have HB2 : Kept (Below B w w2) := kp (by rw [← hw2]; exact jE HB1.out nq)
    have hW2 : w1.heap.size ≤ w2.heap.size := by rw [← hw2]; exact Nat.le_refl _
    replace hu1' : w2.cell? ⟨gU, 1, none⟩ = some (.int .i64 (k : Int)) := by rw [← hw2]; exact hu1'
    replace hco : w2.cell? ⟨gN, 1 + a, none⟩ = some (.int .i64 (o : Int)) := by rw [← hw2]; exact hco
    rw [hw2]
    clear hw2
    go_wp2
    go_quiet ((go_at_call 82; exact zY (HMk.out _)))
    go_wp2
    go_end0
    exact ⟨rfl, _, HSt2.out.drewN nq, HGoal.out, jE HB2.out nq⟩
end Go.Proofs.Ytkhfolpffjihgaa
