/- SemRB, SemR4, SemR1, in one text. -/
import Derived.Test.YtkblgafackmckaaPq24
import Derived.Test.YtkblgafackmckaaSemPb
import Derived.Test.YtkblgafackmckaaPq22
import Derived.Test.YtkblgafackmckaaPq4
/- A config of the document's in a variable, while it is being made or changed. -/
namespace Go.Proofs.Ytkblgafackmckaa
open Go.RowKit

theorem far_of {v : Value} {g : Nat} (h : ∀ b, v.ownBlock = some b → b ≠ g) : v.ownBlock = none ∨ v.ownBlock ≠ some g := by
  cases hv : v.ownBlock with
  | none => exact .inl rfl
  | some b => exact .inr fun e => h b hv (by cases e; rfl)
theorem OwnR.room_or {α : Type} {sz : Nat} {f : α → Nat → Value} {w : World} {B : Nat} {e : TypeId} {A : Option Addr} {n cap : Nat} {l : List α} (h : OwnR sz f w B e (.slice A n cap) l) :
    (∃ g, A = some ⟨g, 0, none⟩ ∧ n + 1 ≤ cap) ∨ (Value.slice A n cap = .slice none 0 0 ∨ ∃ g, Value.slice A n cap = .slice (some ⟨g, 0, none⟩) l.length l.length) := by
  rcases h.2 with ⟨hv, hz⟩ | ⟨g, cap', cur, hv, hB, hg, hn, hm, hs, ht⟩
  · exact .inr (.inl hv)
  · injection hv with e1 e2 e3
    by_cases hr : n + 1 ≤ cap
    · exact .inl ⟨g, e1, hr⟩
    · refine .inr (.inr ⟨g, ?_⟩)
      rw [e1, e2, show cap = l.length by omega]
section
variable {P : Program} {ops : Array Oper} {rest : List Oper} {o : Oper} {a : Act} {w : World} {Q : Exit → Act → World → Prop} {α : Type}
theorem wpList_append_full_v (hgd : o.guard = none) (s x : Operand) (t : TypeId)
    (ho : o.op = .call { callee := .builtin .append, args := #[s, x], argTypes := #[t, t] })
    (B : Nat) (e : TypeId) (sz : Nat) (z : Value) (bytes : Nat) (ht : P.underlying t = some (.slice e)) (hi : (P.info? e).map (fun i => (i.zero, i.size, i.bytes)) = some (some z, sz, bytes)) (hzs : z.cells.size = sz) (hsz : 0 < sz)
    (f : α → Nat → Value) (hone : ∀ x j, (f x j).oneCell' = true)
    (A : Option Addr) (cap n : Nat) (l : List α) (hn : l.length = n) (u : α) (hs : a.eval s = .slice A n cap) (hown : OwnR sz f w B e (.slice A n cap) l) (hfull : Value.slice A n cap = .slice none 0 0 ∨ ∃ g, Value.slice A n cap = .slice (some ⟨g, 0, none⟩) l.length l.length)
    (gn c : Nat) (hx : a.eval x = .slice (some ⟨gn, 0, none⟩) 1 c) (hbk : Blk w gn e ((List.range sz).map (f u))) (h63 : n + 1 ≤ maxLen) (hbytes : (n + 1) * bytes ≤ 140737488355328) (hB : B ≤ w.heap.size)
    (h : ∀ g c' w', OwnR sz f w' B e (.slice (some ⟨g, 0, none⟩) (n + 1) c') (l ++ [u]) → Below w.heap.size w w' → w.heap.size ≤ g → wpList P ops Q rest (a.put o.dst (.slice (some ⟨g, 0, none⟩) (n + 1) c')) w') : wpList P ops Q (o :: rest) a w := by
  subst hn
  refine wpList_append_full hgd s x t ho B e sz z bytes ht hi hzs hsz f hone _ l u hs hown hfull gn c hx hbk h63 hbytes hB fun v' w' h1 h2 h3 => ?_
  obtain ⟨A', c', rfl, _⟩ := h1.form
  rw [List.length_append, List.length_singleton] at h1 h3 ⊢
  cases A' with
  | none => cases h3
  | some ad =>
    have e1 : ad.block = w.heap.size := by injection h3
    obtain ⟨g, cur, hA, _⟩ := h1.blk (by omega)
    injection hA with hA
    subst hA
    exact h g c' w' h1 h2 (by rw [← e1]; exact Nat.le_refl _)
end

structure RB (w : World) (B gO gR : Nat) (A : Option Addr) (n cap : Nat) (svs : List Sv) (A2 : Option Addr) (n2 cap2 : Nat) (sls : List (List Nat)) (ow : List Nat) : Prop where
  conf : Blk w gO 40 (.slice A n cap :: .slice A2 n2 cap2 :: ow.map natV)
  row : OwnR 1 svR w B 66 (.slice A n cap) svs
  slr : OwnR 8 slV w B 61 (.slice A2 n2 cap2) sls
  fam : Fam 68 w B (fun b => b = gO ∨ b = gR ∨ (Value.slice A n cap).ownBlock = some b ∨ (Value.slice A2 n2 cap2).ownBlock = some b) svs
  ne : ∀ b, (Value.slice A n cap).ownBlock = some b → b ≠ gO ∧ b ≠ gR ∧ (Value.slice A2 n2 cap2).ownBlock ≠ some b
  ne2 : ∀ b, (Value.slice A2 n2 cap2).ownBlock = some b → b ≠ gO ∧ b ≠ gR
  low : B ≤ gO ∧ gR < w.heap.size
section
variable {w W w' : World} {B gO gR : Nat} {A A' A2 : Option Addr} {n cap cap' n2 cap2 : Nat} {svs : List Sv} {sls : List (List Nat)} {ow : List Nat}
theorem RB.below {C : Nat} (h : RB w B gO gR A n cap svs A2 n2 cap2 sls ow) (hb : Below C w w') (hC : w.heap.size ≤ C) : RB w' B gO gR A n cap svs A2 n2 cap2 sls ow :=
  ⟨h.conf.below hb (Nat.lt_of_lt_of_le h.conf.lt hC), h.row.below hb hC, h.slr.below hb hC, h.fam.below hb hC, h.ne, h.ne2, h.low.1, Nat.lt_of_lt_of_le h.low.2 hb.size⟩
theorem RB.len (h : RB w B gO gR A n cap svs A2 n2 cap2 sls ow) : svs.length = n ∧ sls.length = n2 := ⟨h.row.len_is.1, h.slr.len_is.1⟩
/-- What it is as a config. -/
theorem RB.mine (h : RB w B gO gR A n cap svs A2 n cap2 sls ow) : RMine w B ⟨A, cap, svs, A2, cap2, sls, n, ow⟩ :=
  ⟨h.row, h.slr, h.fam.less fun _ hb => .inl (.inr (.inr hb)), fun b hb => (h.ne b hb).2.2⟩
/-- A stack more, its row not yet in the config. -/
theorem RB.row_push {g : Nat} {sv : Sv} (h : RB w B gO gR A n cap svs A2 n2 cap2 sls ow) (hg0 : w.grownBy W (Value.slice A n cap).ownBlock) (hrow : OwnR 1 svR W B 66 (.slice (some ⟨g, 0, none⟩) (n + 1) cap') (svs ++ [sv]))
    (hV : (Value.slice A n cap).ownBlock = some g ∨ w.heap.size ≤ g) (ho : OwnR 2 frV W B 68 (svV sv) sv.stack) (hs : ∀ b, (svV sv).ownBlock = some b → w.heap.size ≤ b ∧ b ≠ g)
    (hb : Blk w' gO 40 (.slice (some ⟨g, 0, none⟩) (n + 1) cap' :: .slice A2 n2 cap2 :: ow.map natV)) (hg : W.grownBy w' (some gO)) (hz : W.heap.size ≤ w'.heap.size) :
    RB w' B gO gR (some ⟨g, 0, none⟩) (n + 1) cap' (svs ++ [sv]) A2 n2 cap2 sls ow := by
  have hOl := h.conf.lt
  have hRl := h.low.2
  have hgO : g ≠ gO := by
    rcases hV with hV | hV
    · exact (h.ne g hV).1
    · omega
  have hgR : g ≠ gR := by
    rcases hV with hV | hV
    · exact (h.ne g hV).2.1
    · omega
  have hs2 : ∀ b, (Value.slice A2 n2 cap2).ownBlock = some b → b ≠ g := fun b hb2 e => by
    subst e
    rcases hV with hV | hV
    · exact (h.ne b hV).2.2 hb2
    · have := (h.slr.block b hb2).2; omega
  have hslr : OwnR 8 slV W B 61 (.slice A2 n2 cap2) sls := h.slr.far hg0 (by
    cases hv : (Value.slice A2 n2 cap2).ownBlock with
    | none => exact .inl rfl
    | some b => exact .inr fun e => (h.ne b e.symm).2.2 hv)
  refine ⟨hb, hrow.far hg (.inr fun e => hgO (by cases e; rfl)), hslr.far hg (far_of fun b hb => (h.ne2 b hb).1), ?_, fun b e => by cases e; exact ⟨hgO, hgR, fun e2 => hs2 _ e2 rfl⟩, h.ne2, h.low.1, by have := hg0.size; omega⟩
  have f1 : Fam 68 w B (fun b => (b = gO ∨ b = gR ∨ (Value.slice A n cap).ownBlock = some b ∨ (Value.slice A2 n2 cap2).ownBlock = some b) ∨ b = g) svs := h.fam.less fun b hb => by
    rcases hb with hb | hb
    · exact .inl hb
    · subst hb
      rcases hV with hV | hV
      · exact .inl (.inr (.inr (.inl hV)))
      · exact .inr hV
  have f2 := f1.turn hg0 (fun b e => .inl (.inr (.inr (.inl e))))
  have f3 := f2.add ho (fun b e => by
    have h1 := hs b e
    rintro ((e1 | e1 | e1 | e1) | e1)
    · omega
    · omega
    · have := (h.row.block b e1).2; omega
    · have := (h.slr.block b e1).2; omega
    · exact h1.2 e1) (fun k y b hy e e3 => by
    have h1 := hs b e
    have := (f1.block hy e3).2
    omega)
  have f4 := f3.turn hg (fun b e => by cases e; exact .inl (.inl rfl))
  refine f4.less fun b hb => ?_
  rcases hb with hb | hb | hb | hb
  · exact .inl (.inl (.inl hb))
  · exact .inl (.inl (.inr (.inl hb)))
  · cases hb; exact .inl (.inr rfl)
  · exact .inl (.inl (.inr (.inr (.inr hb))))
/-- Slots more, their row not yet in the config. -/
theorem RB.slr_push {g : Nat} {sl : List Nat} (h : RB w B gO gR A n cap svs A2 n2 cap2 sls ow) (hg0 : w.grownBy W (Value.slice A2 n2 cap2).ownBlock) (hslr : OwnR 8 slV W B 61 (.slice (some ⟨g, 0, none⟩) (n2 + 1) cap') (sls ++ [sl]))
    (hV : (Value.slice A2 n2 cap2).ownBlock = some g ∨ w.heap.size ≤ g)
    (hb : Blk w' gO 40 (.slice A n cap :: .slice (some ⟨g, 0, none⟩) (n2 + 1) cap' :: ow.map natV)) (hg : W.grownBy w' (some gO)) (hz : W.heap.size ≤ w'.heap.size) :
    RB w' B gO gR A n cap svs (some ⟨g, 0, none⟩) (n2 + 1) cap' (sls ++ [sl]) ow := by
  have hOl := h.conf.lt
  have hRl := h.low.2
  have hgO : g ≠ gO := by
    rcases hV with hV | hV
    · exact (h.ne2 g hV).1
    · omega
  have hgR : g ≠ gR := by
    rcases hV with hV | hV
    · exact (h.ne2 g hV).2
    · omega
  have hs2 : ∀ b, (Value.slice A n cap).ownBlock = some b → b ≠ g := fun b hb2 e => by
    subst e
    rcases hV with hV | hV
    · exact (h.ne b hb2).2.2 hV
    · have := (h.row.block b hb2).2; omega
  have hrow : OwnR 1 svR W B 66 (.slice A n cap) svs := h.row.far hg0 (by
    cases hv : (Value.slice A n cap).ownBlock with
    | none => exact .inl rfl
    | some b => exact .inr fun e => (h.ne b hv).2.2 e.symm)
  refine ⟨hb, hrow.far hg (far_of fun b hb => (h.ne b hb).1), hslr.far hg (.inr fun e => hgO (by cases e; rfl)), ?_, fun b e => ⟨(h.ne b e).1, (h.ne b e).2.1, fun e2 => by cases e2; exact hs2 _ e rfl⟩, fun b e => by cases e; exact ⟨hgO, hgR⟩, h.low.1, by have := hg0.size; omega⟩
  have f1 : Fam 68 w B (fun b => (b = gO ∨ b = gR ∨ (Value.slice A n cap).ownBlock = some b ∨ (Value.slice A2 n2 cap2).ownBlock = some b) ∨ b = g) svs := h.fam.less fun b hb => by
    rcases hb with hb | hb
    · exact .inl hb
    · subst hb
      rcases hV with hV | hV
      · exact .inl (.inr (.inr (.inr hV)))
      · exact .inr hV
  have f2 := f1.turn hg0 (fun b e => .inl (.inr (.inr (.inr e))))
  have f4 := f2.turn hg (fun b e => by cases e; exact .inl (.inl rfl))
  refine f4.less fun b hb => ?_
  rcases hb with hb | hb | hb | hb
  · exact .inl (.inl (.inl hb))
  · exact .inl (.inl (.inr (.inl hb)))
  · exact .inl (.inl (.inr (.inr (.inl hb))))
  · cases hb; exact .inl (.inr rfl)
/-- Stack k is another one, in its old block or a new one. -/
theorem RB.row_set {k gS : Nat} {x sv : Sv} {cur : List Value} (h : RB w B gO gR A n cap svs A2 n2 cap2 sls ow) (hA : A = some ⟨gS, 0, none⟩) (hc : Blk w gS 66 cur) (hx : svs[k]? = some x) (hg0 : w.grownBy W (svV x).ownBlock) (ho : OwnR 2 frV W B 68 (svV sv) sv.stack)
    (hbk : (svV sv).ownBlock = (svV x).ownBlock ∨ ∀ b, (svV sv).ownBlock = some b → w.heap.size ≤ b) (hb : Blk w' gS 66 (cur.set k (svV sv))) (hg : W.grownBy w' (some gS)) (hz : W.heap.size ≤ w'.heap.size) :
    RB w' B gO gR A n cap (svs.set k sv) A2 n2 cap2 sls ow := by
  have hAb : (Value.slice A n cap).ownBlock = some gS := by rw [hA]; rfl
  have hout : ∀ b, (svV x).ownBlock = some b → ¬ (b = gO ∨ b = gR ∨ (Value.slice A n cap).ownBlock = some b ∨ (Value.slice A2 n2 cap2).ownBlock = some b) := fun b hb => h.fam.out k x b hx hb
  have hnS : some gS ≠ (svV x).ownBlock := fun e => hout gS e.symm (.inr (.inr (.inl hAb)))
  have hnO : some gO ≠ (svV x).ownBlock := fun e => hout gO e.symm (.inl rfl)
  have hne := h.ne gS hAb
  refine ⟨(h.conf.grown hg0 hnO).grown hg (fun e => hne.1 (by cases e; rfl)), ?_, ?_, ?_, h.ne, h.ne2, h.low.1, by have := hg0.size; have := h.low.2; omega⟩
  · have hr := h.row.far hg0 (by rw [hAb]; exact .inr hnS)
    rw [hA] at hr ⊢
    exact hr.set (x' := sv) (j := 0) hx (by omega) (fun i hi => by
      have : i = 0 := by omega
      subst this; rfl) (hc.grown hg0 hnS) rfl (by rw [Nat.mul_one, Nat.add_zero]; exact hb)
  · refine (h.slr.far hg0 ?_).far hg (far_of fun b hb e => hne.2.2 (by rw [← e]; exact hb))
    cases hv : (Value.slice A2 n2 cap2).ownBlock with
    | none => exact .inl rfl
    | some b => exact .inr fun e => hout b e.symm (.inr (.inr (.inr hv)))
  · refine (h.fam.set hx hg0 ho hbk fun b hb2 => ?_).turn hg fun b e => by cases e; exact .inr (.inr (.inl hAb))
    rcases hb2 with rfl | rfl | hb2 | hb2
    · exact h.conf.lt
    · exact h.low.2
    · exact (h.row.block b hb2).2
    · exact (h.slr.block b hb2).2
/-- The last place of stack k: its cell, and what a store there leaves. -/
theorem RB.goes {k : Nat} {x : Sv} (h : RB w B gO gR A n cap svs A2 n2 cap2 sls ow) (hx : svs[k]? = some x) (h0 : 0 < x.len) :
    ∃ gK cur, x.A = some ⟨gK, 0, none⟩ ∧ Blk w gK 68 cur ∧ (x.len - 1) * 2 + 1 < cur.length ∧ gK ≠ gO ∧ gK ≠ gR ∧ B ≤ gK ∧ gK < w.heap.size ∧
      ∀ W w' m, Below w.heap.size w W → Blk w' gK 68 (cur.set ((x.len - 1) * 2 + 1) (.int .i64 ((m : Nat) : Int))) → W.grownBy w' (some gK) → W.heap.size ≤ w'.heap.size → RB w' B gO gR A n cap (svs.set k ⟨x.A, x.len, x.cap, M.goOn x.stack m⟩) A2 n2 cap2 sls ow := by
  have ho := h.fam.own k _ hx
  obtain ⟨gK, cur, hA, hb, hs, ht, hB, hn, hm, hl⟩ := ho.blk h0
  have hbk : (svV x).ownBlock = some gK := by unfold svV; rw [hA]; rfl
  have hout := h.fam.out k _ gK hx hbk
  have hlen : (x.len - 1) * 2 + 1 < cur.length := by rw [hs]; omega
  have hgl := hb.lt
  refine ⟨gK, cur, hA, hb, hlen, fun e => hout (.inl e), fun e => hout (.inr (.inl e)), hB, hgl, fun W w' m hW hb' hg hz => ?_⟩
  replace hb := hb.below hW hgl
  replace h := h.below hW (Nat.le_refl _)
  replace ho := h.fam.own k _ hx
  have htop : x.stack[x.len - 1]? = some (M.top x.stack) := by rw [← hl]; exact M.top_at (by omega)
  have hown : OwnR 2 frV w' B 68 (svV ⟨x.A, x.len, x.cap, M.goOn x.stack m⟩) (M.goOn x.stack m) := by
    have hv : svV ⟨x.A, x.len, x.cap, M.goOn x.stack m⟩ = .slice (some ⟨gK, 0, none⟩) x.len x.cap := by unfold svV; simp only; rw [hA]
    have hst : M.goOn x.stack m = x.stack.set (x.len - 1) ((M.top x.stack).1, m) := by unfold M.goOn; rw [hl]
    rw [hv, hst]
    have ho2 := ho
    unfold svV at ho2
    rw [hA] at ho2
    exact ho2.set htop (by omega) frV_go hb rfl hb'
  refine ⟨h.conf.grown hg (fun e => hout (.inl (by cases e; rfl))), ?_, ?_, ?_, h.ne, h.ne2, h.low.1, by have := h.low.2; omega⟩
  · refine (h.row.far hg (far_of fun b hb2 e => hout (.inr (.inr (.inl (by rw [← e]; exact hb2)))))).congr (by simp) (cellsR_same hx ?_)
    funext j
    rfl
  · exact h.slr.far hg (far_of fun b hb2 e => hout (.inr (.inr (.inr (by rw [← e]; exact hb2)))))
  · refine h.fam.set hx (by rw [hbk]; exact hg) hown (.inl rfl) fun b hb2 => ?_
    rcases hb2 with rfl | rfl | hb2 | hb2
    · exact h.conf.lt
    · exact h.low.2
    · exact (h.row.block b hb2).2
    · exact (h.slr.block b hb2).2
/-- An owner is another one. -/
theorem RB.owns {a o : Nat} (h : RB w B gO gR A n cap svs A2 n2 cap2 sls ow) (hb : Blk w' gO 40 ((.slice A n cap :: .slice A2 n2 cap2 :: ow.map natV : List Value).set (2 + a) (.int .i64 (o : Int)))) (hg : w.grownBy w' (some gO)) (hz : w.heap.size ≤ w'.heap.size) :
    RB w' B gO gR A n cap svs A2 n2 cap2 sls (ow.set a o) := by
  refine ⟨?_, h.row.far hg (far_of fun b hb => (h.ne b hb).1), h.slr.far hg (far_of fun b hb => (h.ne2 b hb).1), h.fam.turn hg fun b e => .inl (by cases e; rfl), h.ne, h.ne2, h.low.1, by have := h.low.2; omega⟩
  have e : (.slice A n cap :: .slice A2 n2 cap2 :: ow.map natV : List Value).set (2 + a) (.int .i64 (o : Int)) = .slice A n cap :: .slice A2 n2 cap2 :: (ow.set a o).map natV := by
    rw [show 2 + a = (a + 1) + 1 by omega, List.set_cons_succ, List.set_cons_succ, List.map_set]; rfl
  rw [e] at hb
  exact hb
/-- Slot j of thread k is another one. -/
theorem RB.slot {k gL j o : Nat} {sl : List Nat} {cur : List Value} (h : RB w B gO gR A n cap svs A2 n2 cap2 sls ow) (hA : A2 = some ⟨gL, 0, none⟩) (hc : Blk w gL 61 cur) (hx : sls[k]? = some sl) (h8 : sl.length = 8) (hj : j < 8)
    (hb : Blk w' gL 61 (cur.set (k * 8 + j) (.int .i64 (o : Int)))) (hg : w.grownBy w' (some gL)) (hz : w.heap.size ≤ w'.heap.size) : RB w' B gO gR A n cap svs A2 n2 cap2 (sls.set k (sl.set j o)) ow := by
  have hAb : (Value.slice A2 n2 cap2).ownBlock = some gL := by rw [hA]; rfl
  have hne := h.ne2 gL hAb
  refine ⟨h.conf.grown hg (fun e => hne.1 (by cases e; rfl)), h.row.far hg (far_of fun b hb e => (h.ne b hb).2.2 (by rw [e]; exact hAb)), ?_, h.fam.turn hg fun b e => .inr (.inr (.inr (by cases e; exact hAb))), h.ne, h.ne2, h.low.1, by have := h.low.2; omega⟩
  have hr := h.slr
  rw [hA] at hr ⊢
  refine hr.set (x' := sl.set j o) hx hj (fun i hi => ?_) hc rfl hb
  show Value.int .i64 (((sl.set j o).getD i 0 : Nat) : Int) = if i = j then _ else .int .i64 ((sl.getD i 0 : Nat) : Int)
  rw [List.getD_eq_getElem?_getD, List.getElem?_set, List.getD_eq_getElem?_getD]
  by_cases e : j = i
  · subst e
    rw [if_pos rfl, if_pos (by omega), if_pos rfl]; rfl
  · rw [if_neg e, if_neg (fun e2 => e e2.symm)]
end
end Go.Proofs.Ytkblgafackmckaa

/- The document's interpreter, walked: what holds on the way of its appends. -/
namespace Go.Proofs.Ytkblgafackmckaa
open Go.RowKit

theorem rframe_one : (Try.prog.info? 68).map (fun i => (i.zero.map (·.cells.size), i.size)) = some (some 2, 2) := by kernel_rfl

theorem rrow_size : (Try.prog.info? 37).map (·.size) = some 1 := by kernel_rfl

theorem rslr_size : (Try.prog.info? 38).map (·.size) = some 1 := by kernel_rfl

theorem rstack_size : (Try.prog.info? 66).map (·.size) = some 1 := by kernel_rfl

theorem slC {sl : List Nat} (h8 : sl.length = 8) : (List.range 8).map (slV sl) = sl.map natV := by
  match sl, h8 with
  | [a, b, c, d, e, f, g, h], _ => rfl
theorem sl_ones (sl : List Nat) : ∀ u ∈ sl.map natV, u.oneCell' = true := by
  intro u hu
  obtain ⟨y, _, rfl⟩ := List.mem_map.1 hu
  rfl
def Fact.empty (B K : Nat) : Fact :=
  ⟨fun v W => ∃ g, v = .slice (some ⟨g, 0, none⟩) 0 0 ∧ OwnR 2 frV W B 68 (.slice (some ⟨g, 0, none⟩) 0 0) [] ∧ K ≤ g, fun _ _ _ hb ⟨g, h1, h2, h3⟩ => ⟨g, h1, h2.below hb (Nat.le_refl _), h3⟩⟩
def GFact.empty (G : Nat → Prop) (B K : Nat) : GFact G :=
  ⟨fun v W => ∃ g, v = .slice (some ⟨g, 0, none⟩) 0 0 ∧ OwnR 2 frV W B 68 (.slice (some ⟨g, 0, none⟩) 0 0) [] ∧ K ≤ g ∧ ¬ G g, fun _ _ _ ho ⟨g, h1, h2, h3, h4⟩ => ⟨g, h1, h2.only ho (fun b e => by cases e; exact h4), h3, h4⟩⟩
def Fact.stk (B K : Nat) (x : Sv) : Fact :=
  ⟨fun v W => ∃ g c, v = .slice (some ⟨g, 0, none⟩) x.len c ∧ OwnR 2 frV W B 68 (.slice (some ⟨g, 0, none⟩) x.len c) x.stack ∧ K ≤ g, fun _ _ _ hb ⟨g, c, h1, h2, h3⟩ => ⟨g, c, h1, h2.below hb (Nat.le_refl _), h3⟩⟩
def GFact.stk (G : Nat → Prop) (B K : Nat) (x : Sv) : GFact G :=
  ⟨fun v W => ∃ g c, v = .slice (some ⟨g, 0, none⟩) x.len c ∧ OwnR 2 frV W B 68 (.slice (some ⟨g, 0, none⟩) x.len c) x.stack ∧ K ≤ g ∧ ¬ G g, fun _ _ _ ho ⟨g, c, h1, h2, h3, h4⟩ => ⟨g, c, h1, h2.only ho (fun b e => by cases e; exact h4), h3, h4⟩⟩
def Fact.one1 (B K : Nat) (x : Sv) : Fact :=
  ⟨fun v W => ∃ gn g c, v = .slice (some ⟨gn, 0, none⟩) 1 1 ∧ Blk W gn 66 [.slice (some ⟨g, 0, none⟩) x.len c] ∧ OwnR 2 frV W B 68 (.slice (some ⟨g, 0, none⟩) x.len c) x.stack ∧ K ≤ g, fun _ _ _ hb ⟨gn, g, c, h1, h2, h3, h4⟩ => ⟨gn, g, c, h1, h2.below hb h2.lt, h3.below hb (Nat.le_refl _), h4⟩⟩
def GFact.one1 (G : Nat → Prop) (B K : Nat) (x : Sv) : GFact G :=
  ⟨fun v W => ∃ gn g c, v = .slice (some ⟨gn, 0, none⟩) 1 1 ∧ Blk W gn 66 [.slice (some ⟨g, 0, none⟩) x.len c] ∧ ¬ G gn ∧ OwnR 2 frV W B 68 (.slice (some ⟨g, 0, none⟩) x.len c) x.stack ∧ K ≤ g ∧ ¬ G g, fun _ _ _ ho ⟨gn, g, c, h1, h2, h3, h4, h5, h6⟩ => ⟨gn, g, c, h1, ho.blk h2 h3, h3, h4.only ho (fun b e => by cases e; exact h6), h5, h6⟩⟩
def Fact.stks (B K n : Nat) (svs : List Sv) (x : Sv) : Fact :=
  ⟨fun v W => ∃ g c gV cV, v = .slice (some ⟨gV, 0, none⟩) (n + 1) cV ∧ OwnR 1 svR W B 66 (.slice (some ⟨gV, 0, none⟩) (n + 1) cV) (svs ++ [⟨some ⟨g, 0, none⟩, x.len, c, x.stack⟩]) ∧ OwnR 2 frV W B 68 (.slice (some ⟨g, 0, none⟩) x.len c) x.stack ∧ K ≤ g ∧ K ≤ gV ∧ gV ≠ g,
   fun _ _ _ hb ⟨g, c, gV, cV, h1, h2, h3, h4⟩ => ⟨g, c, gV, cV, h1, h2.below hb (Nat.le_refl _), h3.below hb (Nat.le_refl _), h4⟩⟩
/-- The stack is in the row, but the row isn't in the config yet. -/
def StkIn (w W : World) (B gA n cap : Nat) (svs : List Sv) (x : Sv) : Prop :=
  ∃ g c, w.grownBy W (some gA) ∧ OwnR 1 svR W B 66 (.slice (some ⟨gA, 0, none⟩) (n + 1) cap) (svs ++ [⟨some ⟨g, 0, none⟩, x.len, c, x.stack⟩]) ∧ OwnR 2 frV W B 68 (.slice (some ⟨g, 0, none⟩) x.len c) x.stack ∧ w.heap.size ≤ g ∧ gA ≠ g
def StkDone (W : World) (B gO gR n : Nat) (st : List (List (Nat × Nat))) (A2 : Option Addr) (n2 cap2 : Nat) (sls : List (List Nat)) (ow : List Nat) : Prop :=
  ∃ A cap svs, RB W B gO gR A n cap svs A2 n2 cap2 sls ow ∧ svs.map (·.stack) = st
def SlIn (w W : World) (B gL n cap : Nat) (sls : List (List Nat)) : Prop :=
  w.grownBy W (some gL) ∧ OwnR 8 slV W B 61 (.slice (some ⟨gL, 0, none⟩) (n + 1) cap) sls
def SlDone (W : World) (B gO gR : Nat) (A : Option Addr) (n cap : Nat) (svs : List Sv) (sls : List (List Nat)) (ow : List Nat) : Prop :=
  ∃ A2 cap2, RB W B gO gR A n cap svs A2 n cap2 sls ow
end Go.Proofs.Ytkblgafackmckaa

/- The document's interpreter, walked: Lives. -/
namespace Go.Proofs.Ytkblgafackmckaa
open Go.RowKit

set_option maxRecDepth 100000 in
set_option maxHeartbeats 1600000 in
theorem rs_lives (B : Nat) (q : Rc) (w : World) (hq : q.Ok w B) (hB : B ≤ w.heap.size) (_hl : q.len ≤ 1000) (t : Int) (ht : I64 t) (b : Bool) (hb : M.lives q.cf t = b) :
    Calls Try.prog 17 #[rcA q, .int .i64 t] w fun e w' => e = .returned (.bool b) ∧ Below w.heap.size w w' := by
  have hlen := hq.len
  have hcap := hq.lc.1; have hcm := hq.lc.2
  unfold maxLen at hcm
  unfold I64 at ht
  by_cases h0 : 0 ≤ t
  · by_cases h1 : t < (q.len : Int)
    · obtain ⟨k, rfl⟩ : ∃ k : Nat, t = (k : Int) := ⟨t.toNat, by omega⟩
      have hk : k < q.len := by omega
      obtain ⟨ad, x, _, _, hA, hbl, hx, hok, hc0, _, _, _, hth, hsl, _⟩ := hq.thread hk
      rw [lives_in hth] at hb
      have hb2 : decide (0 < x.len) = b := by rw [← hb, ← hsl]
      have hxm := hok.cm; have hxc := hok.lc
      unfold maxLen at hxm
      have HC0 := kp hc0
      obtain ⟨n, hn⟩ : ∃ n, x.len = n := ⟨_, rfl⟩
      rw [hn] at hb2 hxc HC0
      have HE : Kept (rcC q = .slice (some ad) q.len q.cap :: .slice q.A2 q.len q.cap2 :: q.ow.map natV) := kp (by unfold rcC; rw [hA])
      have hbz : ad.block < w.heap.size := by omega
      clear hq hb hx hok hth hsl hc0 hA hn hbl hlen
      unfold rcA
      rw [HE.out]
      cases b
      all_goals
        go_enter Try.func17, Try.ntmps17
        go_wp2_with ((with_reducible refine wpList_box_agg rfl 40 (.tmp 0) rfl (.slice (some ad) q.len q.cap :: .slice q.A2 q.len q.cap2 :: q.ow.map natV) rfl ?_); intro g1 w1 hg1 hk1 hw1; have HW1 := kp hw1; have hf0 := hk1.cell 0; have hf1 := (hw1.cell (p := ad.add k) (by rw [add_block]; exact hbz)).trans HC0.out; simp only [List.getElem?_cons_zero] at hf0; clear hk1 hw1)
        go_ret
        exact ⟨rfl, HW1.out⟩
    · have hb0 : M.lives q.cf t = false := lives_out (by omega)
      rw [hb0] at hb
      subst hb
      clear hq hlen hb0
      go_enter Try.func17, Try.ntmps17
      go_wp2_with ((with_reducible refine wpList_box_agg rfl 40 (.tmp 0) rfl (rcC q) rfl ?_); intro g1 w1 hg1 hk1 hw1; have HW1 := kp hw1; have hf0 := hk1.cell 0; simp only [rcC, List.getElem?_cons_zero] at hf0; clear hk1 hw1)
      go_ret
      exact ⟨rfl, HW1.out⟩
  · have hb0 : M.lives q.cf t = false := lives_out (by omega)
    rw [hb0] at hb
    subst hb
    clear hq hlen hb0
    go_enter Try.func17, Try.ntmps17
    go_wp2_with ((with_reducible refine wpList_box_agg rfl 40 (.tmp 0) rfl (rcC q) rfl ?_); intro g1 w1 hg1 hk1 hw1; have HW1 := kp hw1; have hf0 := hk1.cell 0; simp only [rcC, List.getElem?_cons_zero] at hf0; clear hk1 hw1)
    go_ret
    exact ⟨rfl, HW1.out⟩
end Go.Proofs.Ytkblgafackmckaa
