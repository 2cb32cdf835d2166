/- RowsApp, SemPc, SemPd, in one text. -/
import Derived.Test.YtkhfolpffjihgaaPk12
import Derived.Great.BuildSlice
import Derived.Test.YtkhfolpffjihgaaPk14
import Derived.Test.YtkhfolpffjihgaaPk18
import Derived.Lib.SliceRun
import Derived.Test.YtkhfolpffjihgaaPk19
import Derived.Test.YtkhfolpffjihgaaPk20
namespace Go.Proofs.Ytkhfolpffjihgaa
open Go.RowKit
theorem OwnR.empty {α : Type} (sz : Nat) (f : α → Nat → Value) (w : World) (B : Nat) (e : TypeId) (hB : B ≤ w.heap.size) : OwnR sz f (w.alloc (.cells #[] e)) B e (.slice (some ⟨w.heap.size, 0, none⟩) 0 0) [] :=
  ⟨by simp [cellsR], .inr ⟨w.heap.size, 0, #[], rfl, hB, heap_alloc_new w _, Nat.le_refl _, by simp [maxLen], by simp, by simp [cellsR]⟩⟩
theorem append_rows {P : Program} (t ty : TypeId) (B : Nat) (e : TypeId) (sz : Nat) (z : Value) (bytes : Nat) (ht : P.underlying t = some (.slice e)) (hi : (P.info? e).map (fun i => (i.zero, i.size, i.bytes)) = some (some z, sz, bytes)) (hzs : z.cells.size = sz) (hsz : 0 < sz)
    {α : Type} (f : α → Nat → Value) (hone : ∀ x j, (f x j).oneCell' = true) (w : World) (v : Value) (l : List α) (hown : OwnR sz f w B e v l) (A : Option Addr) (m c C : Nat) (news : List α) (hr : Recs sz f w C A m news)
    (h63 : l.length + m ≤ maxLen) (hbytes : (l.length + m) * bytes ≤ 140737488355328) (hB : B ≤ w.heap.size) :
    ∃ v' w', (Builtin.append_ #[t, t] ty #[v, .slice A m c]).run P w = .ok v' w' ∧ OwnR sz f w' B e v' (l ++ news) ∧ Grew w w' v v' := by
  obtain ⟨i, hi0, hzz⟩ := Option.map_eq_some_iff.1 hi
  simp only [Prod.mk.injEq] at hzz
  obtain ⟨hz, hsize, hby⟩ := hzz
  rcases A with _ | ad
  · have h0 : m = 0 := by
      rcases Nat.eq_zero_or_pos m with h0 | h0
      · exact h0
      · obtain ⟨_, h, _⟩ := hr.cells h0; cases h
    subst h0
    have hn : news = [] := List.eq_nil_of_length_eq_zero hr.len
    subst hn
    rcases hown.2 with ⟨rfl, hl0⟩ | ⟨g, cap, cur, rfl, _, _, hnc, _⟩
    · exact ⟨_, w, by simp [Builtin.append_, run_underlying ht, sizeOf, typeInfo, hi0, Builtin.lenOf, Builtin.firstCells], by simpa using hown, Grew.refl _ _⟩
    · exact ⟨_, w, by simp [Builtin.append_, run_underlying ht, sizeOf, typeInfo, hi0, Builtin.lenOf, Builtin.firstCells, hnc, storeCells], by simpa using hown, Grew.refl _ _⟩
  · have hcl : (cellsR sz f news).length = m * sz := by rw [lP, hr.len]
    have hcells : ∀ j u, (cellsR sz f news)[j]? = some u → w.cell? (ad.add j) = some u := by
      intro j u hu
      have hj : j < m * sz := by
        have := (List.getElem?_eq_some_iff.1 hu).1
        rw [hcl] at this; exact this
      have h0 : 0 < m := by
        rcases Nat.eq_zero_or_pos m with h0 | h0
        · rw [h0] at hj; omega
        · exact h0
      obtain ⟨ad', e1, _, hc⟩ := hr.cells h0
      cases e1
      have hd : j / sz < m := by
        rcases Nat.lt_or_ge (j / sz) m with h | h
        · exact h
        · have h1 := Nat.mul_le_mul_right sz h
          have h2 := Nat.div_mul_le_self j sz
          omega
      have hr2 : j % sz < sz := Nat.mod_lt _ hsz
      have hq : j = j / sz * sz + j % sz := by have := Nat.div_add_mod j sz; rw [Nat.mul_comm] at this; omega
      have hx : news[j / sz]? = some (news[j / sz]'(by rw [hr.len]; exact hd)) := List.getElem?_eq_getElem _
      have h1 := hc _ _ hx _ hr2
      have h2 := lB sz f news _ _ _ hx hr2
      rw [← hq] at h1 h2
      rw [h2] at hu
      rw [h1, Option.some.inj hu]
    have hone' : ∀ u ∈ cellsR sz f news, u.oneCell' = true := fun u hu => by
      unfold cellsR at hu
      obtain ⟨x, _, hu⟩ := List.mem_flatMap.1 hu
      obtain ⟨j, _, rfl⟩ := List.mem_map.1 hu
      exact hone x j
    obtain ⟨v', w', hrun, h2, h3, _, h5⟩ := run_append_own_at (P := P) w B t ty e i z sz bytes ht hi0 hz hsize hby hzs hsz v l.length (cellsR sz f l) hown ad m c (cellsR sz f news) hcl hcells hone' h63 hbytes hB
    refine ⟨v', w', hrun, ?_, h3, ?_⟩
    · unfold OwnR; rw [List.length_append, hr.len, xJ]; exact h2
    · rcases h5 with h5 | h5
      · exact .inl h5
      · refine .inr fun g hg => ?_
        rw [h5] at hg; cases hg; exact Nat.le_refl _
theorem lD {P : Program} {ops : Array Oper} {rest : List Oper} {o : Oper} {a : Act} {Q : Exit → Act → World → Prop} (hgd : o.guard = none) (s x : Operand) (t : TypeId)
    (ho : o.op = .call { callee := .builtin .append, args := #[s, x], argTypes := #[t, t] })
    (B : Nat) (e : TypeId) (sz : Nat) (z : Value) (bytes : Nat) (ht : P.underlying t = some (.slice e)) (hi : (P.info? e).map (fun i => (i.zero, i.size, i.bytes)) = some (some z, sz, bytes)) (hzs : z.cells.size = sz) (hsz : 0 < sz)
    {α : Type} (f : α → Nat → Value) (hone : ∀ x j, (f x j).oneCell' = true) (w : World) (v : Value) (l : List α) (hs : a.eval s = v) (hown : OwnR sz f w B e v l) (A : Option Addr) (m c C : Nat) (news : List α) (hx : a.eval x = .slice A m c) (hr : Recs sz f w C A m news)
    (h63 : l.length + m ≤ maxLen) (hbytes : (l.length + m) * bytes ≤ 140737488355328) (hB : B ≤ w.heap.size)
    (h : ∀ v' w', OwnR sz f w' B e v' (l ++ news) → Grew w w' v v' → wpList P ops Q rest (a.put o.dst v') w') : wpList P ops Q (o :: rest) a w := by
  refine wpList_plain hgd fun K hK => ?_
  obtain ⟨v', w', hr, h2, h3⟩ := append_rows (P := P) t o.type B e sz z bytes ht hi hzs hsz f hone w v l hown A m c C news hr h63 hbytes hB
  unfold Oper.wp execOp
  simp only [ho, resolve, invoke, builtin, Sem.run_bind, Sem.run_pure, Result.andThen_ok, List.map_toArray, List.map_cons, List.map_nil, hs, hx, hr]
  exact hK _ _ (h v' w' h2 h3)
set_option maxRecDepth 100000 in
set_option maxHeartbeats 1600000 in
theorem sem_cloneF (A : Option Addr) (n c : Nat) (l : List (Nat × Nat)) (w : World) (hr : Recs 2 frV w w.heap.size A n l) (hn : n ≤ 1000) :
    Calls Try.prog 68 #[.slice A n c] w fun e w' => ∃ v, e = .returned v ∧ OwnR 2 frV w' w.heap.size 90 v l ∧ Below w.heap.size w w' := by
  have HR := kp hr
  have hlen := hr.len
  have HLen := kp hlen
  clear hr hlen
  cases A with
  | none =>
    have hl : l = [] := by
      have h0 : n = 0 := by
        rcases Nat.eq_zero_or_pos n with h0 | h0
        · exact h0
        · obtain ⟨_, h, _⟩ := HR.out.cells h0; cases h
      exact List.eq_nil_of_length_eq_zero (by rw [HLen.out]; exact h0)
    subst hl
    have hnil : (binOp .eql 87 (.slice none n c) (.slice none 0 0)).run Try.prog w = .ok (.bool true) w := Lib.run_eql_slice_nil w _ _ none n c 0 0 Try.underlying87
    go_enter Try.func68, Try.ntmps68
    go_wp2
    go_ret
    exact ⟨_, rfl, OwnR.nil _ _ _ _ _, Below.refl _ _⟩
  | some ad =>
    have hnil : (binOp .eql 87 (.slice (some ad) n c) (.slice none 0 0)).run Try.prog w = .ok (.bool false) w := Lib.run_eql_slice_nil w _ _ (some ad) n c 0 0 Try.underlying87
    go_enter Try.func68, Try.ntmps68
    have HB : Kept (Below w.heap.size w (w.alloc (.cells #[] 90))) := kp ((Below.refl _ _).alloc (Nat.le_refl _) _)
    have HE : Kept (OwnR 2 frV (w.alloc (.cells #[] 90)) w.heap.size 90 (.slice (some ⟨w.heap.size, 0, none⟩) 0 0) []) := kp (OwnR.empty _ _ _ _ _ (Nat.le_refl _))
    have HS : Kept (w.heap.size ≤ (w.alloc (.cells #[] 90)).heap.size) := kp HB.out.size
    go_wp2_with (at_builtin; go_must (refine lD rfl (.tmp 5) (.tmp 6) 87 rfl w.heap.size 90 2 _ 16 Try.underlying87 zN rfl (by omega) frV x9 _ _ [] rfl HE.out (some ad) n c w.heap.size l rfl (HR.out.below HB.out) (by unfold maxLen; simp; omega) (by simp; omega) HS.out ?_); intro v' w' hown hgr; rw [List.nil_append] at hown; have HOw := kp hown; have HBe := kp (HB.out.grown hgr.1 HS.out (fun k e => by cases e; exact Nat.le_refl _)); clear hown hgr)
    go_ret
    exact ⟨_, rfl, HOw.out, HBe.out⟩
set_option maxRecDepth 100000 in
set_option maxHeartbeats 1600000 in
theorem sem_cloneT (A : Option Addr) (n c : Nat) (l : List Tv) (w : World) (hr : Recs 9 tvV w w.heap.size A n l) (hn : n ≤ 1000) :
    Calls Try.prog 67 #[.slice A n c] w fun e w' => ∃ v, e = .returned v ∧ OwnR 9 tvV w' w.heap.size 89 v l ∧ Below w.heap.size w w' := by
  have HR := kp hr
  have hlen := hr.len
  have HLen := kp hlen
  clear hr hlen
  cases A with
  | none =>
    have hl : l = [] := by
      have h0 : n = 0 := by
        rcases Nat.eq_zero_or_pos n with h0 | h0
        · exact h0
        · obtain ⟨_, h, _⟩ := HR.out.cells h0; cases h
      exact List.eq_nil_of_length_eq_zero (by rw [HLen.out]; exact h0)
    subst hl
    have hnil : (binOp .eql 40 (.slice none n c) (.slice none 0 0)).run Try.prog w = .ok (.bool true) w := Lib.run_eql_slice_nil w _ _ none n c 0 0 Try.underlying40
    go_enter Try.func67, Try.ntmps67
    go_wp2
    go_ret
    exact ⟨_, rfl, OwnR.nil _ _ _ _ _, Below.refl _ _⟩
  | some ad =>
    have hnil : (binOp .eql 40 (.slice (some ad) n c) (.slice none 0 0)).run Try.prog w = .ok (.bool false) w := Lib.run_eql_slice_nil w _ _ (some ad) n c 0 0 Try.underlying40
    go_enter Try.func67, Try.ntmps67
    have HB : Kept (Below w.heap.size w (w.alloc (.cells #[] 89))) := kp ((Below.refl _ _).alloc (Nat.le_refl _) _)
    have HE : Kept (OwnR 9 tvV (w.alloc (.cells #[] 89)) w.heap.size 89 (.slice (some ⟨w.heap.size, 0, none⟩) 0 0) []) := kp (OwnR.empty _ _ _ _ _ (Nat.le_refl _))
    have HS : Kept (w.heap.size ≤ (w.alloc (.cells #[] 89)).heap.size) := kp HB.out.size
    go_wp2_with (at_builtin; go_must (refine lD rfl (.tmp 5) (.tmp 6) 40 rfl w.heap.size 89 9 _ 88 Try.underlying40 yJ rfl (by omega) tvV tvV_one _ _ [] rfl HE.out (some ad) n c w.heap.size l rfl (HR.out.below HB.out) (by unfold maxLen; simp; omega) (by simp; omega) HS.out ?_); intro v' w' hown hgr; rw [List.nil_append] at hown; have HOw := kp hown; have HBe := kp (HB.out.grown hgr.1 HS.out (fun k e => by cases e; exact Nat.le_refl _)); clear hown hgr)
    go_ret
    exact ⟨_, rfl, HOw.out, HBe.out⟩
theorem threads_size' : (Try.prog.info? 40).map (·.size) = some 1 := by kernel_rfl
def Fact.ownN {α : Type} (sz : Nat) (f : α → Nat → Value) (B : Nat) (e : TypeId) (K : Nat) (l : List α) : Fact :=
  ⟨fun v W => OwnR sz f W B e v l ∧ ∀ b, v.ownBlock = some b → K ≤ b, fun _ _ _ hb ⟨h1, h2⟩ => ⟨h1.below hb (Nat.le_refl _), h2⟩⟩
structure Mine (w : World) (B : Nat) (q : Pc) : Prop where
  row : OwnR 9 tvV w B 89 (.slice q.A q.len q.cap) q.tvs
  fam : Fam 90 w B (fun b => (Value.slice q.A q.len q.cap).ownBlock = some b) (q.tvs.map (·.sv))
theorem Mine.st {w1 w : World} {B gN gU : Nat} {q : Pc} (h : Mine w1 B q) (hw : Below w1.heap.size w1 w) (hc : Blk w gN 43 (pcC q)) (hN : w1.heap.size ≤ gN) (hU : w1.heap.size ≤ gU) (hl : gU < w.heap.size) (hB : B ≤ gN) : St w B gN gU q :=
  ⟨hc, h.row.below hw (Nat.le_refl _), (h.fam.less fun b hb => by
    rcases hb with rfl | rfl | hb
    · exact .inr hN
    · exact .inr hU
    · exact .inl hb).below hw (Nat.le_refl _), fun b hb => by
    have := (h.row.block b hb).2
    constructor <;> omega, hB, hl⟩
theorem Mine.far {w w' : World} {B g : Nat} {q : Pc} (h : Mine w B q) (hg : w.grownBy w' (some g)) (hr : ∀ b, (Value.slice q.A q.len q.cap).ownBlock = some b → b ≠ g) (hf : ∀ (k : Nat) (y : Sv) (b : Nat), (q.tvs.map (·.sv))[k]? = some y → (svV y).ownBlock = some b → b ≠ g) : Mine w' B q :=
  ⟨h.row.far hg (by
    cases hv : (Value.slice q.A q.len q.cap).ownBlock with
    | none => exact .inl rfl
    | some b => exact .inr fun e => hr b hv (by cases e; rfl)), ⟨fun k x hx => (h.fam.own k x hx).far hg (by
    cases hv : (svV x).ownBlock with
    | none => exact .inl rfl
    | some b => exact .inr fun e => hf k x b hx hv (by cases e; rfl)), h.fam.out, h.fam.apart⟩⟩
theorem cp_row {W w7 : World} {B0 gT n cap i : Nat} {tvs tvs1 : List Tv} {x : Tv} {A5 : Option Addr} {c5 : Nat} {cur : List Value} (hr : OwnR 9 tvV W B0 89 (.slice (some ⟨gT, 0, none⟩) n cap) (tvs1 ++ tvs.drop i)) (hx : tvs[i]? = some x) (hl : tvs1.length = i) (_h9 : True)
    (hb : Blk W gT 89 cur) (hb7 : Blk w7 gT 89 (cur.set (i * 9) (.slice A5 x.sv.len c5))) : OwnR 9 tvV w7 B0 89 (.slice (some ⟨gT, 0, none⟩) n cap) ((tvs1 ++ [⟨⟨A5, x.sv.len, c5, x.sv.stack⟩, x.slots⟩]) ++ tvs.drop (i + 1)) := by
  have hi : i < tvs.length := (List.getElem?_eq_some_iff.1 hx).1
  have hd : tvs.drop i = x :: tvs.drop (i + 1) := by
    rw [List.drop_eq_getElem_cons hi]
    have : tvs[i] = x := by rw [List.getElem?_eq_getElem hi] at hx; exact Option.some.inj hx
    rw [this]
  have hk : (tvs1 ++ tvs.drop i)[i]? = some x := by
    rw [List.getElem?_append_right (by omega), hl, Nat.sub_self, hd]; rfl
  have h := hr.set (k := i) (j := 0) (x' := ⟨⟨A5, x.sv.len, c5, x.sv.stack⟩, x.slots⟩) (v := .slice A5 x.sv.len c5) hk (by omega) (fun j hj => by
    match j, hj with
    | 0, _ => rfl
    | j + 1, _ => rfl) hb rfl hb7
  have e : (tvs1 ++ tvs.drop i).set i ⟨⟨A5, x.sv.len, c5, x.sv.stack⟩, x.slots⟩ = (tvs1 ++ [⟨⟨A5, x.sv.len, c5, x.sv.stack⟩, x.slots⟩]) ++ tvs.drop (i + 1) := by
    rw [hd, List.set_append_right _ _ (by omega), hl, Nat.sub_self, List.set_cons_zero, List.append_assoc]; rfl
  rw [e] at h
  exact h
theorem cp_fam {W w7 : World} {B0 gN g2 gT K n5 c5 : Nat} {tvs1 : List Tv} {A5 : Option Addr} {l : List (Nat × Nat)} {sl : List Nat} (hf : Fam 90 W B0 (fun b => b = gN ∨ b = g2 ∨ b = gT) (tvs1.map (·.sv))) (ho : OwnR 2 frV W B0 90 (.slice A5 n5 c5) l) (hk : ∀ b, (Value.slice A5 n5 c5).ownBlock = some b → K ≤ b)
    (hS : ∀ b, (b = gN ∨ b = g2 ∨ b = gT) → b < K) (hb : ∀ (k : Nat) (y : Sv) (b : Nat), (tvs1.map (·.sv))[k]? = some y → (svV y).ownBlock = some b → B0 ≤ b ∧ b < K) (hg : W.grownBy w7 (some gT)) :
    Fam 90 w7 B0 (fun b => b = gN ∨ b = g2 ∨ b = gT) ((tvs1 ++ [(⟨⟨A5, n5, c5, l⟩, sl⟩ : Tv)]).map (·.sv)) := by
  rw [List.map_append]
  refine (hf.add (x := ⟨A5, n5, c5, l⟩) ho (fun b h1 h2 => ?_) fun k y b hy h1 h2 => ?_).turn hg fun b e => by cases e; exact .inr (.inr rfl)
  · have := hk b h1; have := hS b h2; omega
  · have := hk b h1; have := (hb k y b hy h2).2; omega
set_option maxRecDepth 100000 in
set_option maxHeartbeats 1600000 in
theorem lE (q : Pc) (w : World) (hq : q.Ok w w.heap.size) (h8 : q.len ≤ 8) (h0 : 0 < q.len) (h16 : q.ow.length = 16) (hst : ∀ x ∈ q.tvs, x.sv.len ≤ 1000) :
    Calls Try.prog 47 #[pcA q] w fun e w' => ∃ q', e = .returned (pcA q') ∧ Mine w' w.heap.size q' ∧ q'.cf = q.cf ∧ q'.len = q.len ∧ q'.ow = q.ow ∧ Below w.heap.size w w' := by
  have HQ := kp hq
  have hlen := hq.row.len
  have HQl := kp hlen
  have HQ17 := kp (jG h16)
  have HSt := kp hst
  obtain ⟨tvs, htv⟩ : ∃ tvs, q.tvs = tvs := ⟨_, rfl⟩
  obtain ⟨n, hn⟩ : ∃ n, q.len = n := ⟨_, rfl⟩
  have HTv0 := kp htv; have HN := kp hn
  rw [htv, hn] at HQl; rw [htv] at HSt
  rw [hn] at h8 h0
  have HE0 : Kept (pcC q = .slice q.A n q.cap :: q.ow.map natV) := kp (by unfold pcC; rw [hn])
  have HRec : Kept (Recs 9 tvV w w.heap.size q.A n tvs) := kp (by rw [← htv, ← hn]; exact hq.row)
  have HSv : Kept (∀ x ∈ tvs, x.sv.Ok w w.heap.size) := kp (by rw [← htv]; exact hq.svs)
  clear hq hlen hst htv hn
  rw [lC]
  go_enter Try.func47, Try.ntmps47
  go_wp2_with (first
    | ((with_reducible refine j2 rfl 43 (.tmp 0) rfl (pcC q) rfl ?_); intro gN w1 hgN0 hk1 hw1; have HK1 := kp hk1; have HW1 := kp hw1; have hs1 := hw1.size; have hl1 := hk1.lt; clear hk1 hw1)
    | ((with_reducible show Sl 2); go_must (refine j3 rfl 43 rfl _ jP ?_); intro g2 w2 hg20 hk2 hw2
       have HK22 := kp hk2; have HK12 := kp (HK1.out.below hw2 hl1); have HW2 := kp (HW1.out.trans (hw2.mono hs1)); have hs2 := HW2.out.size; have hl12 := HK12.out.lt; have hl2 := hk2.lt
       have hc0 := HK12.out.cell 0
       rw [HE0.out, List.getElem?_cons_zero] at hc0
       have HRec2 := kp ((HRec.out.below HW2.out).more hs2)
       clear hk2 hw2)
    | (go_at_call 67; go_must (refine (sem_cloneT q.A n q.cap tvs w2 HRec2.out (by omega)).mono ?_); rintro e w3 ⟨v3, rfl, hown3, hb3⟩
       obtain ⟨A3, c3, rfl, hl3, hm3, _⟩ := hown3.form
       rw [HQl.out] at hown3 hl3 ⊢
       obtain ⟨gT, curT0, hA3, hbT3, hcT3, _, hgT3, _, _, _⟩ := hown3.blk h0
       subst hA3
       have HOw3 := kp (hown3.less (show w.heap.size ≤ w2.heap.size by omega)); have HbT3 := kp hbT3; have hTl3 := hbT3.lt
       unfold maxLen at hm3
       have HNe : Kept (gT ≠ gN ∧ g2 ≠ gN ∧ gT ≠ g2 ∧ w.heap.size ≤ gN ∧ w.heap.size ≤ g2 ∧ w.heap.size ≤ gT) := kp (by omega)
       have HK13 := kp (HK12.out.below hb3 hl12); have HK23 := kp (HK22.out.below hb3 hl2); have HW3 := kp (HW2.out.trans (hb3.mono hs2)); have hs3 := HW3.out.size; have hs23 := hb3.size; clear hown3 hb3 hc0 hbT3)
    | ((with_reducible show Sn); go_must (refine j7 rfl 40 (.tmp 7) (.tmp 6) rfl gN 0 (.slice (some ⟨gT, 0, none⟩) n c3) rfl rfl rfl rfl _ _ HK13.out (by rw [HQ17.out]; omega) threads_size' ?_); intro w4 hk4 hg4 hs4
       have HK4 : Kept (Blk w4 gN 43 (.slice (some ⟨gT, 0, none⟩) n c3 :: q.ow.map natV)) := kp (by rw [HE0.out] at hk4; exact hk4)
       have HRow4 := kp (HOw3.out.far hg4 (.inr (fun e => by cases e; exact HNe.out.1 rfl)))
       have HK24 := kp (HK23.out.grown hg4 (fun e => by cases e; exact HNe.out.2.1 rfl))
       have HW4 := kp (HW3.out.grown hg4 HW3.out.size (fun k e => by cases e; exact HNe.out.2.2.2.1)); have hs4' := HW4.out.size
       have hc0 := HK4.out.cell 0
       rw [List.getElem?_cons_zero] at hc0
       clear hk4 hg4 hs4))
  go_loopw [11] (fun v11 wr => ∃ (i : Nat) (tvs1 : List Tv), i ≤ n ∧ v11 = .int .i64 i ∧ tvs1.length = i ∧ tvs1.map tvT = (tvs.take i).map tvT ∧ OwnR 9 tvV wr w.heap.size 89 (.slice (some ⟨gT, 0, none⟩) n c3) (tvs1 ++ tvs.drop i) ∧
      Fam 90 wr w.heap.size (fun b => b = gN ∨ b = g2 ∨ b = gT) (tvs1.map (·.sv)) ∧ Blk wr gN 43 (.slice (some ⟨gT, 0, none⟩) n c3 :: q.ow.map natV) ∧ Blk wr g2 43 (Value.slice none 0 0 :: zeros 16) ∧ Below w.heap.size w wr) (fun v11 _ => n - (intOf v11).toNat)
  case atStart => exact ⟨0, [], by omega, rfl, rfl, rfl, by simpa using HRow4.out, Fam.nil _ _ _ _, HK4.out, HK24.out, HW4.out⟩
  case round =>
    obtain ⟨i, tvs1, hi, rfl, htl, htt, hrow, hfam, hkN, hk2, hbl⟩ := hrel
    have HTl := kp htl; have HTt := kp htt; have HRow := kp hrow; have HFam := kp hfam; have HK := kp hkN; have HK2 := kp hk2; have HB := kp hbl
    have hBs := hbl.size
    have hgN := hkN.lt; have hg2 := hk2.lt
    have hcN := hkN.cell 0
    rw [List.getElem?_cons_zero] at hcN
    clear htl htt hrow hfam hkN hk2 hbl
    by_cases hlt : i < n
    · have hxi : tvs[i]? = some (tvs[i]'(by rw [HQl.out]; exact hlt)) := List.getElem?_eq_getElem _
      obtain ⟨x, hx⟩ : ∃ x, tvs[i]'(by rw [HQl.out]; exact hlt) = x := ⟨_, rfl⟩
      rw [hx] at hxi
      have hxm := List.mem_of_getElem? hxi
      have HX := kp (HSv.out x hxm)
      have hx1000 := HSt.out x hxm
      have HTv := kp hxi
      obtain ⟨gT2, curT, hAT, hbT, hcTl, hcTt, hBT, hnc, hcm, _⟩ := HRow.out.blk h0
      have eT : gT = gT2 := by injection hAT with e; injection e
      subst eT
      have hk : (tvs1 ++ tvs.drop i)[i]? = some x := by
        rw [List.getElem?_append_right (by rw [HTl.out]; exact Nat.le_refl _), HTl.out, Nat.sub_self, List.getElem?_drop]; exact hxi
      have hcx : curT[i * 9]? = some (.slice x.sv.A x.sv.len x.sv.cap) := by
        have h1 := lB 9 tvV (tvs1 ++ tvs.drop i) i 0 _ hk (by omega)
        rw [← hcTt, List.getElem?_take] at h1
        split at h1
        · exact h1
        · cases h1
      have HC0 := kp hcx; have HT := kp hbT
      have hgT := hbT.lt
      have hTlen : i * 9 < curT.length := by rw [hcTl]; omega
      have hTN : gT ≠ gN := HNe.out.1
      have hT2 : gT ≠ g2 := HNe.out.2.2.1
      have HX9 : Kept True := kp trivial
      have HTw : Kept (∀ (A5 : Option Addr) (c5 : Nat), (tvs1 ++ [(⟨⟨A5, x.sv.len, c5, x.sv.stack⟩, x.slots⟩ : Tv)]).map tvT = (tvs.take (i + 1)).map tvT) := kp (fun A5 c5 => by
        rw [List.map_append, HTt.out, List.take_add_one, hxi, List.map_append]; rfl)
      have hxlc := HX.out.lc; have hxcm := HX.out.cm
      unfold maxLen at hxcm hcm
      clear hxi hx hxm hk hcx hbT hcTt hAT hcTl
      go_wp2
      apply jD 12 (.is _ :: .is _ :: .is _ :: .is _ :: .is _ :: .is _ :: .is _ :: .is _ :: .is _ :: Fact.ownN 2 frV w.heap.size 90 wr.heap.size x.sv.stack :: .is _ :: .is _ :: [])
        [[], [(0, 14)], [], [], [(3, 17)], [], [(4, 18), (5, 19)], [(6, 20)], [(7, 21)], [(8, 22)], [(1, 15), (2, 16)], [(10, 24)], [(11, 25), (9, 23)]]
        [(0, 14), (1, 15), (2, 16), (3, 17), (4, 18), (5, 19), (6, 20), (7, 21), (8, 22), (9, 23), (10, 24), (11, 25)] (by kernel_rfl) (by kernel_rfl) (by kernel_rfl) (by kernel_rfl) (by kernel_rfl)
      case hob =>
        refine ⟨?o0, ?o1, ?o2, ?o3, ?o4, ?o5, ?o6, ?o7, ?o8, ?o9, ?o10, ?o11, trivial⟩
        case o0 => intro W hW; change wpList _ _ _ _ _ _; go_wp2; exact j0 rfl rfl rfl
        case o1 =>
          intro W hW; rintro _ rfl; change wpList _ _ _ _ _ _
          have hc := ((HK.out.below hW hgN).cell 0)
          rw [List.getElem?_cons_zero] at hc
          go_wp2; exact j0 rfl rfl rfl
        case o2 => intro W hW; change wpList _ _ _ _ _ _; go_wp2; exact j0 rfl rfl rfl
        case o3 => intro W hW; change wpList _ _ _ _ _ _; go_wp2; exact j0 rfl rfl rfl
        case o4 =>
          intro W hW; rintro _ rfl; change wpList _ _ _ _ _ _
          have hc := ((HK.out.below hW hgN).cell 0)
          rw [List.getElem?_cons_zero] at hc
          go_wp2; exact j0 rfl rfl rfl
        case o5 => intro W hW; change wpList _ _ _ _ _ _; go_wp2; exact j0 rfl rfl rfl
        case o6 => intro W hW; rintro _ rfl; rintro _ rfl; change wpList _ _ _ _ _ _; go_wp2; exact j0 rfl rfl rfl
        case o7 => intro W hW; rintro _ rfl; change wpList _ _ _ _ _ _; go_wp2; exact j0 rfl rfl rfl
        case o8 =>
          intro W hW; rintro _ rfl; change wpList _ _ _ _ _ _
          have hc := (HT.out.below hW hgT).cell (i * 9)
          rw [HC0.out] at hc
          go_wp2; exact j0 rfl rfl rfl
        case o9 =>
          intro W hW; rintro _ rfl; change wpList _ _ _ _ _ _
          have HRw := kp ((HX.out.row.below (HB.out.trans (hW.mono hBs))).more (show w.heap.size ≤ W.heap.size by have := hW.size; omega))
          have hWs := hW.size
          clear hW
          go_wp2_with fail
          refine (sem_cloneF x.sv.A x.sv.len x.sv.cap x.sv.stack W HRw.out hx1000).mono ?_
          rintro e w2 ⟨v5, rfl, hown5, hb5⟩
          have HOw5 := kp (hown5.less (show w.heap.size ≤ W.heap.size by omega)); have HB5 := kp hb5; have HBk := kp hown5.block
          clear hown5 hb5
          go_wp2
          exact jC rfl rfl rfl HB5.out ⟨HOw5.out, fun b hb => Nat.le_trans hWs (HBk.out b hb).1⟩
        case o10 => intro W hW; rintro _ rfl; rintro _ rfl; change wpList _ _ _ _ _ _; go_wp2; exact j0 rfl rfl rfl
        case o11 => intro W hW; rintro _ rfl; change wpList _ _ _ _ _ _; go_wp2; exact j0 rfl rfl rfl
      case hend =>
        intro W hW; rintro _ rfl; rintro _ rfl; rintro _ rfl; rintro _ rfl; rintro _ rfl; rintro _ rfl; rintro _ rfl; rintro _ rfl; rintro _ rfl; rintro v5 ⟨hown5, hk5⟩; rintro _ rfl; rintro _ rfl
        simp only [given, jI, List.set, List.drop]
        obtain ⟨A5, c5, rfl, hl5, hm5, _⟩ := hown5.form
        rw [HX.out.row.len] at hown5 hk5 hl5
        have HOw5 := kp hown5; have HK5 := kp hk5
        have HKw := kp (HT.out.below hW hgT)
        have HNw := kp (HK.out.below hW hgN)
        have HRw := kp (HRow.out.below hW (Nat.le_refl _))
        have HFw := kp (HFam.out.below hW (Nat.le_refl _))
        have HK2w := kp (HK2.out.below hW hg2)
        have HBw := kp (HB.out.trans (hW.mono hBs))
        have hWs := hW.size
        have HFb := kp (fun (k : Nat) (y : Sv) (b : Nat) (hy : (tvs1.map (·.sv))[k]? = some y) (hb : (svV y).ownBlock = some b) => HFam.out.block hy hb)
        clear hW hown5 hk5 hl5
        rw [HX.out.row.len]
        go_wp2_with (first
          | ((with_reducible show Sn); go_must (refine j7 rfl 87 (.tmp 25) (.tmp 23) rfl gT (i * 9) (.slice A5 x.sv.len c5) rfl rfl rfl rfl _ _ HKw.out hTlen yB ?_); intro w7 hk7 hg7 hs7
             have HRow7 := kp (cp_row HRw.out HTv.out HTl.out HX9.out HKw.out hk7 (A5 := A5) (c5 := c5))
             have HFam7 := kp (cp_fam (sl := x.slots) HFw.out HOw5.out HK5.out (fun b hb => by rcases hb with rfl | rfl | rfl <;> omega) HFb.out hg7)
             have HK7 := kp (HNw.out.grown hg7 (fun e => hTN (by cases e; rfl)))
             have HK27 := kp (HK2w.out.grown hg7 (fun e => hT2 (by cases e; rfl)))
             have HB7 := kp (HBw.out.grown hg7 (by omega) (fun k e => by cases e; exact hBT))
             have hbt7 := hk7
             clear hk7 hg7 hs7))
        go_roundw
        case rel => exact ⟨i + 1, tvs1 ++ [⟨⟨A5, x.sv.len, c5, x.sv.stack⟩, x.slots⟩], by omega, by go_num, by rw [List.length_append, HTl.out]; rfl, HTw.out _ _, HRow7.out, HFam7.out, HK7.out, HK27.out, HB7.out⟩
        case measure => simp [intOf]; omega
    · have hie : i = n := by omega
      have hkN := HK.out
      have HM : Kept (Mine wr w.heap.size ⟨some ⟨gT, 0, none⟩, n, c3, tvs1, q.ow⟩ ∧ (⟨some ⟨gT, 0, none⟩, n, c3, tvs1, q.ow⟩ : Pc).cf = q.cf) := kp (by
        have hd : tvs.drop i = [] := List.drop_of_length_le (by rw [HQl.out, hie]; exact Nat.le_refl _)
        have h1 := HRow.out
        rw [hd, List.append_nil] at h1
        refine ⟨⟨h1, HFam.out.less fun b hb => ?_⟩, ?_⟩
        · cases hb; exact .inl (.inr (.inr rfl))
        · have h2 := HTt.out
          rw [List.take_of_length_le (by rw [HQl.out, hie]; exact Nat.le_refl _)] at h2
          show (⟨tvs1.map tvT, q.ow⟩ : M.Cf) = ⟨q.tvs.map tvT, q.ow⟩
          rw [h2, HTv0.out])
      have HC17 : Kept ((.slice (some ⟨gT, 0, none⟩) n c3 :: q.ow.map natV : List Value).length = 17) := kp (by simp [h16])
      have hge : n ≤ i := by omega
      clear hlt hie hkN
      go_wp2_with (first
        | ((with_reducible show Sl 27); go_must (refine j1 rfl 43 (.tmp 1) rfl gN rfl _ (.slice (some ⟨gT, 0, none⟩) n c3 :: q.ow.map natV) _ HK.out Try.underlying43 rfl (by rw [HC17.out]; exact j6) ?_))
        | ((with_reducible show Sn); go_must (refine j4 rfl 43 (.tmp 2) (.tmp 27) rfl g2 (.slice (some ⟨gT, 0, none⟩) n c3 :: q.ow.map natV) rfl rfl _ _ HK2.out (by rw [HC17.out]; exact j6) (by rw [HC17.out]; rfl) (jN ⟨some ⟨gT, 0, none⟩, n, c3, [], q.ow⟩) ?_); intro w8 hk8 hg8 hs8
           have HK8 := kp hk8
           have HM8 : Kept (Mine w8 w.heap.size ⟨some ⟨gT, 0, none⟩, n, c3, tvs1, q.ow⟩) := kp (HM.out.1.far hg8 (fun b e => by cases e; exact HNe.out.2.2.1) (fun k y b hy hb => by have := HFam.out.out k y b hy hb; intro e; exact this (.inr (.inl e))))
           have HB8 := kp (HB.out.grown hg8 HB.out.size (fun k e => by cases e; exact HNe.out.2.2.2.2.1))
           clear hk8 hg8 hs8)
        | ((with_reducible show bodyPost _ _ _ _ _ _); exact bodyPost_ret (jJ (P := Try.prog) (fn := Try.f47) rfl _ _ g2 43 _ _ rfl HK8.out Try.underlying43 rfl (by rw [HC17.out]; exact j6)) rfl ⟨⟨some ⟨gT, 0, none⟩, n, c3, tvs1, q.ow⟩, rfl, HM8.out, HM.out.2, HN.out.symm, rfl, HB8.out⟩))
end Go.Proofs.Ytkhfolpffjihgaa
