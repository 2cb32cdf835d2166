/- RowsApp, SemPc, in one text. -/
import Derived.Test.YtkblgafackmckaaPk12
import Derived.Great.BuildSlice
import Derived.Test.YtkblgafackmckaaPk14
import Derived.Test.YtkblgafackmckaaPk18
import Derived.Lib.SliceRun
/- append of all that another slice of structs holds, to a slice that the call made; an empty slice that was built. -/
namespace Go.Proofs.Ytkblgafackmckaa
open Go.RowKit

theorem OwnR.empty {α : Type} (sz : Nat) (f : α → Nat → Value) (w : World) (B : Nat) (e : TypeId) (hB : B ≤ w.heap.size) : OwnR sz f (w.alloc (.cells #[] e)) B e (.slice (some ⟨w.heap.size, 0, none⟩) 0 0) [] :=
  ⟨by simp [cellsR], .inr ⟨w.heap.size, 0, #[], rfl, hB, heap_alloc_new w _, Nat.le_refl _, by simp [maxLen], by simp, by simp [cellsR]⟩⟩
theorem append_rows {P : Program} (t ty : TypeId) (B : Nat) (e : TypeId) (sz : Nat) (z : Value) (bytes : Nat) (ht : P.underlying t = some (.slice e)) (hi : (P.info? e).map (fun i => (i.zero, i.size, i.bytes)) = some (some z, sz, bytes)) (hzs : z.cells.size = sz) (hsz : 0 < sz)
    {α : Type} (f : α → Nat → Value) (hone : ∀ x j, (f x j).oneCell' = true) (w : World) (v : Value) (l : List α) (hown : OwnR sz f w B e v l) (A : Option Addr) (m c C : Nat) (news : List α) (hr : Recs sz f w C A m news)
    (h63 : l.length + m ≤ maxLen) (hbytes : (l.length + m) * bytes ≤ 140737488355328) (hB : B ≤ w.heap.size) :
    ∃ v' w', (Builtin.append_ #[t, t] ty #[v, .slice A m c]).run P w = .ok v' w' ∧ OwnR sz f w' B e v' (l ++ news) ∧ Grew w w' v v' := by
  obtain ⟨i, hi0, hzz⟩ := Option.map_eq_some_iff.1 hi
  simp only [Prod.mk.injEq] at hzz
  obtain ⟨hz, hsize, hby⟩ := hzz
  rcases A with _ | ad
  · have h0 : m = 0 := by
      rcases Nat.eq_zero_or_pos m with h0 | h0
      · exact h0
      · obtain ⟨_, h, _⟩ := hr.cells h0; cases h
    subst h0
    have hn : news = [] := List.eq_nil_of_length_eq_zero hr.len
    subst hn
    rcases hown.2 with ⟨rfl, hl0⟩ | ⟨g, cap, cur, rfl, _, _, hnc, _⟩
    · exact ⟨_, w, by simp [Builtin.append_, run_underlying ht, sizeOf, typeInfo, hi0, Builtin.lenOf, Builtin.firstCells], by simpa using hown, Grew.refl _ _⟩
    · exact ⟨_, w, by simp [Builtin.append_, run_underlying ht, sizeOf, typeInfo, hi0, Builtin.lenOf, Builtin.firstCells, hnc, storeCells], by simpa using hown, Grew.refl _ _⟩
  · have hcl : (cellsR sz f news).length = m * sz := by rw [cellsR_len, hr.len]
    have hcells : ∀ j u, (cellsR sz f news)[j]? = some u → w.cell? (ad.add j) = some u := by
      intro j u hu
      have hj : j < m * sz := by
        have := (List.getElem?_eq_some_iff.1 hu).1
        rw [hcl] at this; exact this
      have h0 : 0 < m := by
        rcases Nat.eq_zero_or_pos m with h0 | h0
        · rw [h0] at hj; omega
        · exact h0
      obtain ⟨ad', e1, _, hc⟩ := hr.cells h0
      cases e1
      have hd : j / sz < m := by
        rcases Nat.lt_or_ge (j / sz) m with h | h
        · exact h
        · have h1 := Nat.mul_le_mul_right sz h
          have h2 := Nat.div_mul_le_self j sz
          omega
      have hr2 : j % sz < sz := Nat.mod_lt _ hsz
      have hq : j = j / sz * sz + j % sz := by have := Nat.div_add_mod j sz; rw [Nat.mul_comm] at this; omega
      have hx : news[j / sz]? = some (news[j / sz]'(by rw [hr.len]; exact hd)) := List.getElem?_eq_getElem _
      have h1 := hc _ _ hx _ hr2
      have h2 := cellsR_at sz f news _ _ _ hx hr2
      rw [← hq] at h1 h2
      rw [h2] at hu
      rw [h1, Option.some.inj hu]
    have hone' : ∀ u ∈ cellsR sz f news, u.oneCell' = true := fun u hu => by
      unfold cellsR at hu
      obtain ⟨x, _, hu⟩ := List.mem_flatMap.1 hu
      obtain ⟨j, _, rfl⟩ := List.mem_map.1 hu
      exact hone x j
    obtain ⟨v', w', hrun, h2, h3, _, h5⟩ := run_append_own_at (P := P) w B t ty e i z sz bytes ht hi0 hz hsize hby hzs hsz v l.length (cellsR sz f l) hown ad m c (cellsR sz f news) hcl hcells hone' h63 hbytes hB
    refine ⟨v', w', hrun, ?_, h3, ?_⟩
    · unfold OwnR; rw [List.length_append, hr.len, cellsR_app]; exact h2
    · rcases h5 with h5 | h5
      · exact .inl h5
      · refine .inr fun g hg => ?_
        rw [h5] at hg; cases hg; exact Nat.le_refl _
theorem wpList_append_rows {P : Program} {ops : Array Oper} {rest : List Oper} {o : Oper} {a : Act} {Q : Exit → Act → World → Prop} (hgd : o.guard = none) (s x : Operand) (t : TypeId)
    (ho : o.op = .call { callee := .builtin .append, args := #[s, x], argTypes := #[t, t] })
    (B : Nat) (e : TypeId) (sz : Nat) (z : Value) (bytes : Nat) (ht : P.underlying t = some (.slice e)) (hi : (P.info? e).map (fun i => (i.zero, i.size, i.bytes)) = some (some z, sz, bytes)) (hzs : z.cells.size = sz) (hsz : 0 < sz)
    {α : Type} (f : α → Nat → Value) (hone : ∀ x j, (f x j).oneCell' = true) (w : World) (v : Value) (l : List α) (hs : a.eval s = v) (hown : OwnR sz f w B e v l) (A : Option Addr) (m c C : Nat) (news : List α) (hx : a.eval x = .slice A m c) (hr : Recs sz f w C A m news)
    (h63 : l.length + m ≤ maxLen) (hbytes : (l.length + m) * bytes ≤ 140737488355328) (hB : B ≤ w.heap.size)
    (h : ∀ v' w', OwnR sz f w' B e v' (l ++ news) → Grew w w' v v' → wpList P ops Q rest (a.put o.dst v') w') : wpList P ops Q (o :: rest) a w := by
  refine wpList_plain hgd fun K hK => ?_
  obtain ⟨v', w', hr, h2, h3⟩ := append_rows (P := P) t o.type B e sz z bytes ht hi hzs hsz f hone w v l hown A m c C news hr h63 hbytes hB
  unfold Oper.wp execOp
  simp only [ho, resolve, invoke, builtin, Sem.run_bind, Sem.run_pure, Result.andThen_ok, List.map_toArray, List.map_cons, List.map_nil, hs, hx, hr]
  exact hK _ _ (h v' w' h2 h3)
end Go.Proofs.Ytkblgafackmckaa

/- The program's interpreter, walked: lists cloned. -/
namespace Go.Proofs.Ytkblgafackmckaa
open Go.RowKit

set_option maxRecDepth 100000 in
set_option maxHeartbeats 1600000 in
theorem sem_cloneF (A : Option Addr) (n c : Nat) (l : List (Nat × Nat)) (w : World) (hr : Recs 2 frV w w.heap.size A n l) (hn : n ≤ 1000) :
    Calls Try.prog 49 #[.slice A n c] w fun e w' => ∃ v, e = .returned v ∧ OwnR 2 frV w' w.heap.size 78 v l ∧ Below w.heap.size w w' := by
  have HR := kp hr
  have hlen := hr.len
  have HLen := kp hlen
  clear hr hlen
  cases A with
  | none =>
    have hl : l = [] := by
      have h0 : n = 0 := by
        rcases Nat.eq_zero_or_pos n with h0 | h0
        · exact h0
        · obtain ⟨_, h, _⟩ := HR.out.cells h0; cases h
      exact List.eq_nil_of_length_eq_zero (by rw [HLen.out]; exact h0)
    subst hl
    have hnil : (binOp .eql 60 (.slice none n c) (.slice none 0 0)).run Try.prog w = .ok (.bool true) w := Lib.run_eql_slice_nil w _ _ none n c 0 0 Try.underlying60
    go_enter Try.func49, Try.ntmps49
    go_wp2
    go_ret
    exact ⟨_, rfl, OwnR.nil _ _ _ _ _, Below.refl _ _⟩
  | some ad =>
    have hnil : (binOp .eql 60 (.slice (some ad) n c) (.slice none 0 0)).run Try.prog w = .ok (.bool false) w := Lib.run_eql_slice_nil w _ _ (some ad) n c 0 0 Try.underlying60
    go_enter Try.func49, Try.ntmps49
    have HB : Kept (Below w.heap.size w (w.alloc (.cells #[] 78))) := kp ((Below.refl _ _).alloc (Nat.le_refl _) _)
    have HE : Kept (OwnR 2 frV (w.alloc (.cells #[] 78)) w.heap.size 78 (.slice (some ⟨w.heap.size, 0, none⟩) 0 0) []) := kp (OwnR.empty _ _ _ _ _ (Nat.le_refl _))
    have HS : Kept (w.heap.size ≤ (w.alloc (.cells #[] 78)).heap.size) := kp HB.out.size
    go_wp2_with (at_builtin; go_must (refine wpList_append_rows rfl (.tmp 5) (.tmp 6) 60 rfl w.heap.size 78 2 _ 16 Try.underlying60 frame_info rfl (by omega) frV frV_one _ _ [] rfl HE.out (some ad) n c w.heap.size l rfl (HR.out.below HB.out) (by unfold maxLen; simp; omega) (by simp; omega) HS.out ?_); intro v' w' hown hgr; rw [List.nil_append] at hown; have HOw := kp hown; have HBe := kp (HB.out.grown hgr.1 HS.out (fun k e => by cases e; exact Nat.le_refl _)); clear hown hgr)
    go_ret
    exact ⟨_, rfl, HOw.out, HBe.out⟩

set_option maxRecDepth 100000 in
set_option maxHeartbeats 1600000 in
theorem sem_cloneT (A : Option Addr) (n c : Nat) (l : List Tv) (w : World) (hr : Recs 9 tvV w w.heap.size A n l) (hn : n ≤ 1000) :
    Calls Try.prog 48 #[.slice A n c] w fun e w' => ∃ v, e = .returned v ∧ OwnR 9 tvV w' w.heap.size 63 v l ∧ Below w.heap.size w w' := by
  have HR := kp hr
  have hlen := hr.len
  have HLen := kp hlen
  clear hr hlen
  cases A with
  | none =>
    have hl : l = [] := by
      have h0 : n = 0 := by
        rcases Nat.eq_zero_or_pos n with h0 | h0
        · exact h0
        · obtain ⟨_, h, _⟩ := HR.out.cells h0; cases h
      exact List.eq_nil_of_length_eq_zero (by rw [HLen.out]; exact h0)
    subst hl
    have hnil : (binOp .eql 28 (.slice none n c) (.slice none 0 0)).run Try.prog w = .ok (.bool true) w := Lib.run_eql_slice_nil w _ _ none n c 0 0 Try.underlying28
    go_enter Try.func48, Try.ntmps48
    go_wp2
    go_ret
    exact ⟨_, rfl, OwnR.nil _ _ _ _ _, Below.refl _ _⟩
  | some ad =>
    have hnil : (binOp .eql 28 (.slice (some ad) n c) (.slice none 0 0)).run Try.prog w = .ok (.bool false) w := Lib.run_eql_slice_nil w _ _ (some ad) n c 0 0 Try.underlying28
    go_enter Try.func48, Try.ntmps48
    have HB : Kept (Below w.heap.size w (w.alloc (.cells #[] 63))) := kp ((Below.refl _ _).alloc (Nat.le_refl _) _)
    have HE : Kept (OwnR 9 tvV (w.alloc (.cells #[] 63)) w.heap.size 63 (.slice (some ⟨w.heap.size, 0, none⟩) 0 0) []) := kp (OwnR.empty _ _ _ _ _ (Nat.le_refl _))
    have HS : Kept (w.heap.size ≤ (w.alloc (.cells #[] 63)).heap.size) := kp HB.out.size
    go_wp2_with (at_builtin; go_must (refine wpList_append_rows rfl (.tmp 5) (.tmp 6) 28 rfl w.heap.size 63 9 _ 88 Try.underlying28 thread_info rfl (by omega) tvV tvV_one _ _ [] rfl HE.out (some ad) n c w.heap.size l rfl (HR.out.below HB.out) (by unfold maxLen; simp; omega) (by simp; omega) HS.out ?_); intro v' w' hown hgr; rw [List.nil_append] at hown; have HOw := kp hown; have HBe := kp (HB.out.grown hgr.1 HS.out (fun k e => by cases e; exact Nat.le_refl _)); clear hown hgr)
    go_ret
    exact ⟨_, rfl, HOw.out, HBe.out⟩
end Go.Proofs.Ytkblgafackmckaa
