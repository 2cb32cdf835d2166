/- SemRIn, SemROwn, SemRB, in one text. -/
import Derived.Test.YtkhfolpffjihgaaPk14
import Derived.Test.YtkhfolpffjihgaaPk18
import Derived.Test.YtkhfolpffjihgaaPk16
import Derived.Test.YtkhfolpffjihgaaPk21
import Derived.Test.YtkhfolpffjihgaaPk19
namespace Go.Proofs.Ytkhfolpffjihgaa
open Go.RowKit
def slV (l : List Nat) (j : Nat) : Value := .int .i64 ((l.getD j 0 : Nat) : Int)
theorem y4 (l : List Nat) (j : Nat) : (slV l j).oneCell' = true := rfl
structure Rc where
  A : Option Addr
  cap : Nat
  svs : List Sv
  A2 : Option Addr
  cap2 : Nat
  sls : List (List Nat)
  len : Nat
  ow : List Nat
def rcC (q : Rc) : List Value := .slice q.A q.len q.cap :: .slice q.A2 q.len q.cap2 :: q.ow.map natV
def rcA (q : Rc) : Value := .agg (rcC q).toArray
theorem l8 (q : Rc) : rcA q = .agg (rcC q).toArray := rfl
def Rc.cf (q : Rc) : M.Cf := ⟨List.zipWith (fun (s : Sv) l => ⟨s.stack, l⟩) q.svs q.sls, q.ow⟩
structure Rc.Ok (q : Rc) (w : World) (B : Nat) : Prop where
  row : Row svV w B q.A q.len q.svs
  slr : Recs 8 slV w B q.A2 q.len q.sls
  lc : q.len ≤ q.cap ∧ q.cap ≤ maxLen
  lc2 : q.len ≤ q.cap2 ∧ q.cap2 ≤ maxLen
  svs : ∀ x ∈ q.svs, x.Ok w B
theorem Rc.Ok.keep {q : Rc} {w w' : World} {B : Nat} (h : q.Ok w B) (hk : ∀ p : Addr, p.block < B → w'.cell? p = w.cell? p) : q.Ok w' B := ⟨h.row.keep hk, h.slr.keep hk, h.lc, h.lc2, fun x hx => (h.svs x hx).keep hk⟩
theorem Rc.Ok.below {q : Rc} {w w' : World} {B : Nat} (h : q.Ok w B) (hb : Below B w w') : q.Ok w' B := h.keep fun _ hp => hb.cell hp
theorem Rc.Ok.more {q : Rc} {w : World} {B B' : Nat} (h : q.Ok w B) (hB : B ≤ B') : q.Ok w B' := ⟨h.row.more hB, h.slr.more hB, h.lc, h.lc2, fun x hx => (h.svs x hx).more hB⟩
theorem Rc.Ok.len {q : Rc} {w : World} {B : Nat} (h : q.Ok w B) : q.cf.ths.length = q.len := by
  unfold Rc.cf
  rw [List.length_zipWith, h.row.len, h.slr.len, Nat.min_self]
theorem Rc.Ok.thread {q : Rc} {w : World} {B : Nat} (h : q.Ok w B) {k : Nat} (hk : k < q.len) :
    ∃ ad x ad2 sl, q.A = some ad ∧ ad.block < B ∧ q.svs[k]? = some x ∧ x.Ok w B ∧ w.cell? (ad.add k) = some (.slice x.A x.len x.cap) ∧ q.A2 = some ad2 ∧ ad2.block < B ∧ q.sls[k]? = some sl ∧ M.th q.cf k = ⟨x.stack, sl⟩ ∧ x.stack.length = x.len ∧
      ∀ j, j < 8 → w.cell? (ad2.add (k * 8 + j)) = some (.int .i64 ((sl.getD j 0 : Nat) : Int)) := by
  obtain ⟨ad, x, e, hb, hx, hc⟩ := h.row.get hk
  obtain ⟨ad2, sl, e2, hb2, hsl, hc2⟩ := h.slr.get hk
  have hok := h.svs x (List.mem_of_getElem? hx)
  refine ⟨ad, x, ad2, sl, e, hb, hx, hok, hc, e2, hb2, hsl, M.th_is ?_, hok.row.len, fun j hj => hc2 j hj⟩
  unfold Rc.cf
  rw [List.getElem?_zipWith, hx, hsl]
theorem jW {q : Rc} (h : q.ow.length = 16) : (rcC q).length = 18 := by simp [rcC, h]
theorem jZ (q : Rc) : ∀ u ∈ rcC q, u.oneCell' = true := by
  intro u hu
  unfold rcC at hu
  rcases List.mem_cons.1 hu with rfl | hu
  · rfl
  rcases List.mem_cons.1 hu with rfl | hu
  · rfl
  · obtain ⟨x, _, rfl⟩ := List.mem_map.1 hu
    rfl
theorem qL {P : Program} {ops : Array Oper} {rest : List Oper} {o : Oper} {a : Act} {w : World} {Q : Exit → Act → World → Prop} (hgd : o.guard = none) (s x : Operand) (t : TypeId)
    (ho : o.op = .call { callee := .builtin .append, args := #[s, x], argTypes := #[t, t] })
    (B : Nat) (e : TypeId) (sz : Nat) (z : Value) (bytes : Nat) (ht : P.underlying t = some (.slice e)) (hi : (P.info? e).map (fun i => (i.zero, i.size, i.bytes)) = some (some z, sz, bytes)) (hzs : z.cells.size = sz) (hsz : 0 < sz)
    {α : Type} (f : α → Nat → Value) (hone : ∀ x j, (f x j).oneCell' = true) (g : Nat) (hs : a.eval s = .slice (some ⟨g, 0, none⟩) 0 0) (hown : OwnR sz f w B e (.slice (some ⟨g, 0, none⟩) 0 0) ([] : List α)) (A : Option Addr) (m c C : Nat) (news : List α) (hx : a.eval x = .slice A m c) (hr : Recs sz f w C A m news)
    (h63 : m ≤ maxLen) (hbytes : m * bytes ≤ 140737488355328) (hB : B ≤ w.heap.size)
    (h : ∀ g' c' w', OwnR sz f w' B e (.slice (some ⟨g', 0, none⟩) m c') news → Below w.heap.size w w' → (g' = g ∨ w.heap.size ≤ g') → wpList P ops Q rest (a.put o.dst (.slice (some ⟨g', 0, none⟩) m c')) w') : wpList P ops Q (o :: rest) a w := by
  refine wpList_plain hgd fun K hK => ?_
  have key : ∃ g' c' w', (Builtin.append_ #[t, t] o.type #[.slice (some ⟨g, 0, none⟩) 0 0, .slice A m c]).run P w = .ok (.slice (some ⟨g', 0, none⟩) m c') w' ∧ OwnR sz f w' B e (.slice (some ⟨g', 0, none⟩) m c') news ∧ Below w.heap.size w w' ∧ (g' = g ∨ w.heap.size ≤ g') := by
    rcases Nat.eq_zero_or_pos m with h0 | h0
    · subst h0
      have hn : news = [] := List.eq_nil_of_length_eq_zero hr.len
      subst hn
      obtain ⟨i, hi0, hzz⟩ := Option.map_eq_some_iff.1 hi
      refine ⟨g, 0, w, ?_, hown, Below.refl _ _, .inl rfl⟩
      cases A with
      | none => simp [Builtin.append_, run_underlying ht, sizeOf, typeInfo, hi0, Builtin.lenOf, Builtin.firstCells, storeCells]
      | some ad =>
        have hl : (loadCells ad 0).run P w = .ok #[] w := run_loadCells_list (P := P) w ad [] (fun j v h => by simp at h)
        simp [Builtin.append_, run_underlying ht, sizeOf, typeInfo, hi0, Builtin.lenOf, Builtin.firstCells, storeCells, hl]
    · obtain ⟨v', w', hrun, h2, h3⟩ := append_rows (P := P) t o.type B e sz z bytes ht hi hzs hsz f hone w _ [] hown A m c C news hr (by simpa using h63) (by simpa using hbytes) hB
      obtain ⟨i, hi0, hzz⟩ := Option.map_eq_some_iff.1 hi
      simp only [Prod.mk.injEq] at hzz
      obtain ⟨hz, hsize, hby⟩ := hzz
      obtain ⟨ad, rfl, _, hc⟩ := hr.cells h0
      have hcl : (cellsR sz f news).length = m * sz := by rw [lP, hr.len]
      have hcells : ∀ j u, (cellsR sz f news)[j]? = some u → w.cell? (ad.add j) = some u := by
        intro j u hu
        have hj : j < m * sz := by
          have := (List.getElem?_eq_some_iff.1 hu).1
          rw [hcl] at this; exact this
        have hd : j / sz < m := by
          rcases Nat.lt_or_ge (j / sz) m with h | h
          · exact h
          · have h1 := Nat.mul_le_mul_right sz h
            have h2 := Nat.div_mul_le_self j sz
            omega
        have hr2 : j % sz < sz := Nat.mod_lt _ hsz
        have hq : j = j / sz * sz + j % sz := by have := Nat.div_add_mod j sz; rw [Nat.mul_comm] at this; omega
        have hx : news[j / sz]? = some (news[j / sz]'(by rw [hr.len]; exact hd)) := List.getElem?_eq_getElem _
        have h1 := hc _ _ hx _ hr2
        have h2 := lB sz f news _ _ _ hx hr2
        rw [← hq] at h1 h2
        rw [h2] at hu
        rw [h1, Option.some.inj hu]
      have hsm : m ≤ 9223372036854775807 := by unfold maxLen at h63; omega
      have hr2 := run_append_grow (P := P) w t o.type e i z ht hi0 hz ⟨g, 0, none⟩ 0 0 [] (by simp) (fun j v h => by simp at h) ad m c (cellsR sz f news) (by rw [hsize]; exact hcl) hcells (by omega) (by omega) (growslice_fits (by omega) (by rw [hby]; simpa using hbytes))
      rw [hrun] at hr2
      injection hr2 with e1 e2
      subst e1
      rw [Nat.zero_add] at hrun h2
      refine ⟨w.heap.size, _, w', hrun, by simpa using h2, ?_, .inr (Nat.le_refl _)⟩
      rw [e2]
      exact ⟨rfl, rfl, rfl, by simp, fun k hk => Below.heap_alloc w.drew _ k hk⟩
  obtain ⟨g', c', w', hrun, h1, h2, h3⟩ := key
  unfold Oper.wp execOp
  simp only [ho, resolve, invoke, builtin, Sem.run_bind, Sem.run_pure, Result.andThen_ok, List.map_toArray, List.map_cons, List.map_nil, hs, hx, hrun]
  exact hK _ _ (h g' c' w' h1 h2 h3)
def svR (x : Sv) (_ : Nat) : Value := svV x
theorem svR_one (x : Sv) (j : Nat) : (svR x j).oneCell' = true := rfl
theorem recs_row {w : World} {B n : Nat} {A : Option Addr} {l : List Sv} (h : Recs 1 svR w B A n l) : Row svV w B A n l :=
  ⟨h.len, fun h0 => by
    obtain ⟨ad, e, hb, hc⟩ := h.cells h0
    refine ⟨ad, e, hb, fun k hk => ?_⟩
    have hx : l[k]? = some (l[k]'(by rw [h.len]; exact hk)) := List.getElem?_eq_getElem _
    have := hc k _ hx 0 (by omega)
    rw [hx]
    rw [Nat.mul_one, Nat.add_zero] at this
    exact this⟩
structure RMine (w : World) (B : Nat) (q : Rc) : Prop where
  row : OwnR 1 svR w B 84 (.slice q.A q.len q.cap) q.svs
  slr : OwnR 8 slV w B 83 (.slice q.A2 q.len q.cap2) q.sls
  fam : Fam 86 w B (fun b => (Value.slice q.A q.len q.cap).ownBlock = some b ∨ (Value.slice q.A2 q.len q.cap2).ownBlock = some b) q.svs
  ne : ∀ b, (Value.slice q.A q.len q.cap).ownBlock = some b → (Value.slice q.A2 q.len q.cap2).ownBlock ≠ some b
theorem RMine.ok {w : World} {B : Nat} {q : Rc} (h : RMine w B q) : q.Ok w w.heap.size :=
  ⟨recs_row h.row.recs, h.slr.recs, h.row.len_is.2, h.slr.len_is.2, fun x hx => by
    obtain ⟨k, hk⟩ := List.mem_iff_getElem?.1 hx
    have ho := h.fam.own k x hk
    exact ⟨ho.recs, ho.len_is.2.1, ho.len_is.2.2⟩⟩
theorem RMine.below {w w' : World} {B C : Nat} {q : Rc} (h : RMine w B q) (hb : Below C w w') (hC : w.heap.size ≤ C) : RMine w' B q := ⟨h.row.below hb hC, h.slr.below hb hC, h.fam.below hb hC, h.ne⟩
theorem RMine.far {w w' : World} {B g : Nat} {q : Rc} (h : RMine w B q) (hg : w.grownBy w' (some g)) (hB : g < B ∨ w.heap.size ≤ g) : RMine w' B q := by
  have key : ∀ b, B ≤ b ∧ b < w.heap.size → b ≠ g := fun b hb e => by subst e; omega
  have k1 : ∀ v : Value, (∀ b, v.ownBlock = some b → B ≤ b ∧ b < w.heap.size) → v.ownBlock = none ∨ v.ownBlock ≠ some g := fun v hv => by
    cases h1 : v.ownBlock with
    | none => exact .inl rfl
    | some b => exact .inr fun e => key b (hv b h1) (by cases e; rfl)
  exact ⟨h.row.far hg (k1 _ h.row.block), h.slr.far hg (k1 _ h.slr.block), ⟨fun k x hx => (h.fam.own k x hx).far hg (k1 _ fun b hb => h.fam.block hx hb), h.fam.out, h.fam.apart⟩, h.ne⟩
theorem yS {v : Value} {g : Nat} (h : ∀ b, v.ownBlock = some b → b ≠ g) : v.ownBlock = none ∨ v.ownBlock ≠ some g := by
  cases hv : v.ownBlock with
  | none => exact .inl rfl
  | some b => exact .inr fun e => h b hv (by cases e; rfl)
theorem OwnR.room_or {α : Type} {sz : Nat} {f : α → Nat → Value} {w : World} {B : Nat} {e : TypeId} {A : Option Addr} {n cap : Nat} {l : List α} (h : OwnR sz f w B e (.slice A n cap) l) :
    (∃ g, A = some ⟨g, 0, none⟩ ∧ n + 1 ≤ cap) ∨ (Value.slice A n cap = .slice none 0 0 ∨ ∃ g, Value.slice A n cap = .slice (some ⟨g, 0, none⟩) l.length l.length) := by
  rcases h.2 with ⟨hv, hz⟩ | ⟨g, cap', cur, hv, hB, hg, hn, hm, hs, ht⟩
  · exact .inr (.inl hv)
  · injection hv with e1 e2 e3
    by_cases hr : n + 1 ≤ cap
    · exact .inl ⟨g, e1, hr⟩
    · refine .inr (.inr ⟨g, ?_⟩)
      rw [e1, e2, show cap = l.length by omega]
section
variable {P : Program} {ops : Array Oper} {rest : List Oper} {o : Oper} {a : Act} {w : World} {Q : Exit → Act → World → Prop} {α : Type}
theorem l0 (hgd : o.guard = none) (s x : Operand) (t : TypeId)
    (ho : o.op = .call { callee := .builtin .append, args := #[s, x], argTypes := #[t, t] })
    (B : Nat) (e : TypeId) (sz : Nat) (z : Value) (bytes : Nat) (ht : P.underlying t = some (.slice e)) (hi : (P.info? e).map (fun i => (i.zero, i.size, i.bytes)) = some (some z, sz, bytes)) (hzs : z.cells.size = sz) (hsz : 0 < sz)
    (f : α → Nat → Value) (hone : ∀ x j, (f x j).oneCell' = true)
    (A : Option Addr) (cap n : Nat) (l : List α) (hn : l.length = n) (u : α) (hs : a.eval s = .slice A n cap) (hown : OwnR sz f w B e (.slice A n cap) l) (hfull : Value.slice A n cap = .slice none 0 0 ∨ ∃ g, Value.slice A n cap = .slice (some ⟨g, 0, none⟩) l.length l.length)
    (gn c : Nat) (hx : a.eval x = .slice (some ⟨gn, 0, none⟩) 1 c) (hbk : Blk w gn e ((List.range sz).map (f u))) (h63 : n + 1 ≤ maxLen) (hbytes : (n + 1) * bytes ≤ 140737488355328) (hB : B ≤ w.heap.size)
    (h : ∀ g c' w', OwnR sz f w' B e (.slice (some ⟨g, 0, none⟩) (n + 1) c') (l ++ [u]) → Below w.heap.size w w' → w.heap.size ≤ g → wpList P ops Q rest (a.put o.dst (.slice (some ⟨g, 0, none⟩) (n + 1) c')) w') : wpList P ops Q (o :: rest) a w := by
  subst hn
  refine xB hgd s x t ho B e sz z bytes ht hi hzs hsz f hone _ l u hs hown hfull gn c hx hbk h63 hbytes hB fun v' w' h1 h2 h3 => ?_
  obtain ⟨A', c', rfl, _⟩ := h1.form
  rw [List.length_append, List.length_singleton] at h1 h3 ⊢
  cases A' with
  | none => cases h3
  | some ad =>
    have e1 : ad.block = w.heap.size := by injection h3
    obtain ⟨g, cur, hA, _⟩ := h1.blk (by omega)
    injection hA with hA
    subst hA
    exact h g c' w' h1 h2 (by rw [← e1]; exact Nat.le_refl _)
end
structure RB (w : World) (B gO gR : Nat) (A : Option Addr) (n cap : Nat) (svs : List Sv) (A2 : Option Addr) (n2 cap2 : Nat) (sls : List (List Nat)) (ow : List Nat) : Prop where
  conf : Blk w gO 59 (.slice A n cap :: .slice A2 n2 cap2 :: ow.map natV)
  row : OwnR 1 svR w B 84 (.slice A n cap) svs
  slr : OwnR 8 slV w B 83 (.slice A2 n2 cap2) sls
  fam : Fam 86 w B (fun b => b = gO ∨ b = gR ∨ (Value.slice A n cap).ownBlock = some b ∨ (Value.slice A2 n2 cap2).ownBlock = some b) svs
  ne : ∀ b, (Value.slice A n cap).ownBlock = some b → b ≠ gO ∧ b ≠ gR ∧ (Value.slice A2 n2 cap2).ownBlock ≠ some b
  ne2 : ∀ b, (Value.slice A2 n2 cap2).ownBlock = some b → b ≠ gO ∧ b ≠ gR
  low : B ≤ gO ∧ gR < w.heap.size
section
variable {w W w' : World} {B gO gR : Nat} {A A' A2 : Option Addr} {n cap cap' n2 cap2 : Nat} {svs : List Sv} {sls : List (List Nat)} {ow : List Nat}
theorem RB.below {C : Nat} (h : RB w B gO gR A n cap svs A2 n2 cap2 sls ow) (hb : Below C w w') (hC : w.heap.size ≤ C) : RB w' B gO gR A n cap svs A2 n2 cap2 sls ow :=
  ⟨h.conf.below hb (Nat.lt_of_lt_of_le h.conf.lt hC), h.row.below hb hC, h.slr.below hb hC, h.fam.below hb hC, h.ne, h.ne2, h.low.1, Nat.lt_of_lt_of_le h.low.2 hb.size⟩
theorem RB.len (h : RB w B gO gR A n cap svs A2 n2 cap2 sls ow) : svs.length = n ∧ sls.length = n2 := ⟨h.row.len_is.1, h.slr.len_is.1⟩
theorem RB.mine (h : RB w B gO gR A n cap svs A2 n cap2 sls ow) : RMine w B ⟨A, cap, svs, A2, cap2, sls, n, ow⟩ :=
  ⟨h.row, h.slr, h.fam.less fun _ hb => .inl (.inr (.inr hb)), fun b hb => (h.ne b hb).2.2⟩
theorem RB.row_push {g : Nat} {sv : Sv} (h : RB w B gO gR A n cap svs A2 n2 cap2 sls ow) (hg0 : w.grownBy W (Value.slice A n cap).ownBlock) (hrow : OwnR 1 svR W B 84 (.slice (some ⟨g, 0, none⟩) (n + 1) cap') (svs ++ [sv]))
    (hV : (Value.slice A n cap).ownBlock = some g ∨ w.heap.size ≤ g) (ho : OwnR 2 frV W B 86 (svV sv) sv.stack) (hs : ∀ b, (svV sv).ownBlock = some b → w.heap.size ≤ b ∧ b ≠ g)
    (hb : Blk w' gO 59 (.slice (some ⟨g, 0, none⟩) (n + 1) cap' :: .slice A2 n2 cap2 :: ow.map natV)) (hg : W.grownBy w' (some gO)) (hz : W.heap.size ≤ w'.heap.size) :
    RB w' B gO gR (some ⟨g, 0, none⟩) (n + 1) cap' (svs ++ [sv]) A2 n2 cap2 sls ow := by
  have hOl := h.conf.lt
  have hRl := h.low.2
  have hgO : g ≠ gO := by
    rcases hV with hV | hV
    · exact (h.ne g hV).1
    · omega
  have hgR : g ≠ gR := by
    rcases hV with hV | hV
    · exact (h.ne g hV).2.1
    · omega
  have hs2 : ∀ b, (Value.slice A2 n2 cap2).ownBlock = some b → b ≠ g := fun b hb2 e => by
    subst e
    rcases hV with hV | hV
    · exact (h.ne b hV).2.2 hb2
    · have := (h.slr.block b hb2).2; omega
  have hslr : OwnR 8 slV W B 83 (.slice A2 n2 cap2) sls := h.slr.far hg0 (by
    cases hv : (Value.slice A2 n2 cap2).ownBlock with
    | none => exact .inl rfl
    | some b => exact .inr fun e => (h.ne b e.symm).2.2 hv)
  refine ⟨hb, hrow.far hg (.inr fun e => hgO (by cases e; rfl)), hslr.far hg (yS fun b hb => (h.ne2 b hb).1), ?_, fun b e => by cases e; exact ⟨hgO, hgR, fun e2 => hs2 _ e2 rfl⟩, h.ne2, h.low.1, by have := hg0.size; omega⟩
  have f1 : Fam 86 w B (fun b => (b = gO ∨ b = gR ∨ (Value.slice A n cap).ownBlock = some b ∨ (Value.slice A2 n2 cap2).ownBlock = some b) ∨ b = g) svs := h.fam.less fun b hb => by
    rcases hb with hb | hb
    · exact .inl hb
    · subst hb
      rcases hV with hV | hV
      · exact .inl (.inr (.inr (.inl hV)))
      · exact .inr hV
  have f2 := f1.turn hg0 (fun b e => .inl (.inr (.inr (.inl e))))
  have f3 := f2.add ho (fun b e => by
    have h1 := hs b e
    rintro ((e1 | e1 | e1 | e1) | e1)
    · omega
    · omega
    · have := (h.row.block b e1).2; omega
    · have := (h.slr.block b e1).2; omega
    · exact h1.2 e1) (fun k y b hy e e3 => by
    have h1 := hs b e
    have := (f1.block hy e3).2
    omega)
  have f4 := f3.turn hg (fun b e => by cases e; exact .inl (.inl rfl))
  refine f4.less fun b hb => ?_
  rcases hb with hb | hb | hb | hb
  · exact .inl (.inl (.inl hb))
  · exact .inl (.inl (.inr (.inl hb)))
  · cases hb; exact .inl (.inr rfl)
  · exact .inl (.inl (.inr (.inr (.inr hb))))
theorem RB.slr_push {g : Nat} {sl : List Nat} (h : RB w B gO gR A n cap svs A2 n2 cap2 sls ow) (hg0 : w.grownBy W (Value.slice A2 n2 cap2).ownBlock) (hslr : OwnR 8 slV W B 83 (.slice (some ⟨g, 0, none⟩) (n2 + 1) cap') (sls ++ [sl]))
    (hV : (Value.slice A2 n2 cap2).ownBlock = some g ∨ w.heap.size ≤ g)
    (hb : Blk w' gO 59 (.slice A n cap :: .slice (some ⟨g, 0, none⟩) (n2 + 1) cap' :: ow.map natV)) (hg : W.grownBy w' (some gO)) (hz : W.heap.size ≤ w'.heap.size) :
    RB w' B gO gR A n cap svs (some ⟨g, 0, none⟩) (n2 + 1) cap' (sls ++ [sl]) ow := by
  have hOl := h.conf.lt
  have hRl := h.low.2
  have hgO : g ≠ gO := by
    rcases hV with hV | hV
    · exact (h.ne2 g hV).1
    · omega
  have hgR : g ≠ gR := by
    rcases hV with hV | hV
    · exact (h.ne2 g hV).2
    · omega
  have hs2 : ∀ b, (Value.slice A n cap).ownBlock = some b → b ≠ g := fun b hb2 e => by
    subst e
    rcases hV with hV | hV
    · exact (h.ne b hb2).2.2 hV
    · have := (h.row.block b hb2).2; omega
  have hrow : OwnR 1 svR W B 84 (.slice A n cap) svs := h.row.far hg0 (by
    cases hv : (Value.slice A n cap).ownBlock with
    | none => exact .inl rfl
    | some b => exact .inr fun e => (h.ne b hv).2.2 e.symm)
  refine ⟨hb, hrow.far hg (yS fun b hb => (h.ne b hb).1), hslr.far hg (.inr fun e => hgO (by cases e; rfl)), ?_, fun b e => ⟨(h.ne b e).1, (h.ne b e).2.1, fun e2 => by cases e2; exact hs2 _ e rfl⟩, fun b e => by cases e; exact ⟨hgO, hgR⟩, h.low.1, by have := hg0.size; omega⟩
  have f1 : Fam 86 w B (fun b => (b = gO ∨ b = gR ∨ (Value.slice A n cap).ownBlock = some b ∨ (Value.slice A2 n2 cap2).ownBlock = some b) ∨ b = g) svs := h.fam.less fun b hb => by
    rcases hb with hb | hb
    · exact .inl hb
    · subst hb
      rcases hV with hV | hV
      · exact .inl (.inr (.inr (.inr hV)))
      · exact .inr hV
  have f2 := f1.turn hg0 (fun b e => .inl (.inr (.inr (.inr e))))
  have f4 := f2.turn hg (fun b e => by cases e; exact .inl (.inl rfl))
  refine f4.less fun b hb => ?_
  rcases hb with hb | hb | hb | hb
  · exact .inl (.inl (.inl hb))
  · exact .inl (.inl (.inr (.inl hb)))
  · exact .inl (.inl (.inr (.inr (.inl hb))))
  · cases hb; exact .inl (.inr rfl)
theorem RB.row_set {k gS : Nat} {x sv : Sv} {cur : List Value} (h : RB w B gO gR A n cap svs A2 n2 cap2 sls ow) (hA : A = some ⟨gS, 0, none⟩) (hc : Blk w gS 84 cur) (hx : svs[k]? = some x) (hg0 : w.grownBy W (svV x).ownBlock) (ho : OwnR 2 frV W B 86 (svV sv) sv.stack)
    (hbk : (svV sv).ownBlock = (svV x).ownBlock ∨ ∀ b, (svV sv).ownBlock = some b → w.heap.size ≤ b) (hb : Blk w' gS 84 (cur.set k (svV sv))) (hg : W.grownBy w' (some gS)) (hz : W.heap.size ≤ w'.heap.size) :
    RB w' B gO gR A n cap (svs.set k sv) A2 n2 cap2 sls ow := by
  have hAb : (Value.slice A n cap).ownBlock = some gS := by rw [hA]; rfl
  have hout : ∀ b, (svV x).ownBlock = some b → ¬ (b = gO ∨ b = gR ∨ (Value.slice A n cap).ownBlock = some b ∨ (Value.slice A2 n2 cap2).ownBlock = some b) := fun b hb => h.fam.out k x b hx hb
  have hnS : some gS ≠ (svV x).ownBlock := fun e => hout gS e.symm (.inr (.inr (.inl hAb)))
  have hnO : some gO ≠ (svV x).ownBlock := fun e => hout gO e.symm (.inl rfl)
  have hne := h.ne gS hAb
  refine ⟨(h.conf.grown hg0 hnO).grown hg (fun e => hne.1 (by cases e; rfl)), ?_, ?_, ?_, h.ne, h.ne2, h.low.1, by have := hg0.size; have := h.low.2; omega⟩
  · have hr := h.row.far hg0 (by rw [hAb]; exact .inr hnS)
    rw [hA] at hr ⊢
    exact hr.set (x' := sv) (j := 0) hx (by omega) (fun i hi => by
      have : i = 0 := by omega
      subst this; rfl) (hc.grown hg0 hnS) rfl (by rw [Nat.mul_one, Nat.add_zero]; exact hb)
  · refine (h.slr.far hg0 ?_).far hg (yS fun b hb e => hne.2.2 (by rw [← e]; exact hb))
    cases hv : (Value.slice A2 n2 cap2).ownBlock with
    | none => exact .inl rfl
    | some b => exact .inr fun e => hout b e.symm (.inr (.inr (.inr hv)))
  · refine (h.fam.set hx hg0 ho hbk fun b hb2 => ?_).turn hg fun b e => by cases e; exact .inr (.inr (.inl hAb))
    rcases hb2 with rfl | rfl | hb2 | hb2
    · exact h.conf.lt
    · exact h.low.2
    · exact (h.row.block b hb2).2
    · exact (h.slr.block b hb2).2
theorem RB.goes {k : Nat} {x : Sv} (h : RB w B gO gR A n cap svs A2 n2 cap2 sls ow) (hx : svs[k]? = some x) (h0 : 0 < x.len) :
    ∃ gK cur, x.A = some ⟨gK, 0, none⟩ ∧ Blk w gK 86 cur ∧ (x.len - 1) * 2 + 1 < cur.length ∧ gK ≠ gO ∧ gK ≠ gR ∧ B ≤ gK ∧ gK < w.heap.size ∧
      ∀ W w' m, Below w.heap.size w W → Blk w' gK 86 (cur.set ((x.len - 1) * 2 + 1) (.int .i64 ((m : Nat) : Int))) → W.grownBy w' (some gK) → W.heap.size ≤ w'.heap.size → RB w' B gO gR A n cap (svs.set k ⟨x.A, x.len, x.cap, M.goOn x.stack m⟩) A2 n2 cap2 sls ow := by
  have ho := h.fam.own k _ hx
  obtain ⟨gK, cur, hA, hb, hs, ht, hB, hn, hm, hl⟩ := ho.blk h0
  have hbk : (svV x).ownBlock = some gK := by unfold svV; rw [hA]; rfl
  have hout := h.fam.out k _ gK hx hbk
  have hlen : (x.len - 1) * 2 + 1 < cur.length := by rw [hs]; omega
  have hgl := hb.lt
  refine ⟨gK, cur, hA, hb, hlen, fun e => hout (.inl e), fun e => hout (.inr (.inl e)), hB, hgl, fun W w' m hW hb' hg hz => ?_⟩
  replace hb := hb.below hW hgl
  replace h := h.below hW (Nat.le_refl _)
  replace ho := h.fam.own k _ hx
  have htop : x.stack[x.len - 1]? = some (M.top x.stack) := by rw [← hl]; exact M.top_at (by omega)
  have hown : OwnR 2 frV w' B 86 (svV ⟨x.A, x.len, x.cap, M.goOn x.stack m⟩) (M.goOn x.stack m) := by
    have hv : svV ⟨x.A, x.len, x.cap, M.goOn x.stack m⟩ = .slice (some ⟨gK, 0, none⟩) x.len x.cap := by unfold svV; simp only; rw [hA]
    have hst : M.goOn x.stack m = x.stack.set (x.len - 1) ((M.top x.stack).1, m) := by unfold M.goOn; rw [hl]
    rw [hv, hst]
    have ho2 := ho
    unfold svV at ho2
    rw [hA] at ho2
    exact ho2.set htop (by omega) frV_go hb rfl hb'
  refine ⟨h.conf.grown hg (fun e => hout (.inl (by cases e; rfl))), ?_, ?_, ?_, h.ne, h.ne2, h.low.1, by have := h.low.2; omega⟩
  · refine (h.row.far hg (yS fun b hb2 e => hout (.inr (.inr (.inl (by rw [← e]; exact hb2)))))).congr (by simp) (cellsR_same hx ?_)
    funext j
    rfl
  · exact h.slr.far hg (yS fun b hb2 e => hout (.inr (.inr (.inr (by rw [← e]; exact hb2)))))
  · refine h.fam.set hx (by rw [hbk]; exact hg) hown (.inl rfl) fun b hb2 => ?_
    rcases hb2 with rfl | rfl | hb2 | hb2
    · exact h.conf.lt
    · exact h.low.2
    · exact (h.row.block b hb2).2
    · exact (h.slr.block b hb2).2
theorem RB.owns {a o : Nat} (h : RB w B gO gR A n cap svs A2 n2 cap2 sls ow) (hb : Blk w' gO 59 ((.slice A n cap :: .slice A2 n2 cap2 :: ow.map natV : List Value).set (2 + a) (.int .i64 (o : Int)))) (hg : w.grownBy w' (some gO)) (hz : w.heap.size ≤ w'.heap.size) :
    RB w' B gO gR A n cap svs A2 n2 cap2 sls (ow.set a o) := by
  refine ⟨?_, h.row.far hg (yS fun b hb => (h.ne b hb).1), h.slr.far hg (yS fun b hb => (h.ne2 b hb).1), h.fam.turn hg fun b e => .inl (by cases e; rfl), h.ne, h.ne2, h.low.1, by have := h.low.2; omega⟩
  have e : (.slice A n cap :: .slice A2 n2 cap2 :: ow.map natV : List Value).set (2 + a) (.int .i64 (o : Int)) = .slice A n cap :: .slice A2 n2 cap2 :: (ow.set a o).map natV := by
    rw [show 2 + a = (a + 1) + 1 by omega, List.set_cons_succ, List.set_cons_succ, List.map_set]; rfl
  rw [e] at hb
  exact hb
theorem RB.slot {k gL j o : Nat} {sl : List Nat} {cur : List Value} (h : RB w B gO gR A n cap svs A2 n2 cap2 sls ow) (hA : A2 = some ⟨gL, 0, none⟩) (hc : Blk w gL 83 cur) (hx : sls[k]? = some sl) (h8 : sl.length = 8) (hj : j < 8)
    (hb : Blk w' gL 83 (cur.set (k * 8 + j) (.int .i64 (o : Int)))) (hg : w.grownBy w' (some gL)) (hz : w.heap.size ≤ w'.heap.size) : RB w' B gO gR A n cap svs A2 n2 cap2 (sls.set k (sl.set j o)) ow := by
  have hAb : (Value.slice A2 n2 cap2).ownBlock = some gL := by rw [hA]; rfl
  have hne := h.ne2 gL hAb
  refine ⟨h.conf.grown hg (fun e => hne.1 (by cases e; rfl)), h.row.far hg (yS fun b hb e => (h.ne b hb).2.2 (by rw [e]; exact hAb)), ?_, h.fam.turn hg fun b e => .inr (.inr (.inr (by cases e; exact hAb))), h.ne, h.ne2, h.low.1, by have := h.low.2; omega⟩
  have hr := h.slr
  rw [hA] at hr ⊢
  refine hr.set (x' := sl.set j o) hx hj (fun i hi => ?_) hc rfl hb
  show Value.int .i64 (((sl.set j o).getD i 0 : Nat) : Int) = if i = j then _ else .int .i64 ((sl.getD i 0 : Nat) : Int)
  rw [List.getD_eq_getElem?_getD, List.getElem?_set, List.getD_eq_getElem?_getD]
  by_cases e : j = i
  · subst e
    rw [if_pos rfl, if_pos (by omega), if_pos rfl]; rfl
  · rw [if_neg e, if_neg (fun e2 => e e2.symm)]
end
end Go.Proofs.Ytkhfolpffjihgaa
