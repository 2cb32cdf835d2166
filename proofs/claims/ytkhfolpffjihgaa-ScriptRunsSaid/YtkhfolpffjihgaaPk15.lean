/- SemOwn, SetP1, SemP4, in one text. -/
import Derived.Test.YtkhfolpffjihgaaPk14
import Derived.Laws.BitsAllLaws
namespace Go.Proofs.Ytkhfolpffjihgaa
open Go.RowKit
section
variable {α : Type} {sz : Nat} {f : α → Nat → Value} {w w' : World} {B : Nat} {e : TypeId} {l : List α}
theorem OwnR.blk {A : Option Addr} {n cap : Nat} (h : OwnR sz f w B e (.slice A n cap) l) (h0 : 0 < n) :
    ∃ g cur, A = some ⟨g, 0, none⟩ ∧ Blk w g e cur ∧ cur.length = cap * sz ∧ cur.take (n * sz) = cellsR sz f l ∧ B ≤ g ∧ n ≤ cap ∧ cap ≤ maxLen ∧ l.length = n := by
  rcases h.2 with ⟨hv, hz⟩ | ⟨g, cap', cur, hv, hB, hg, hn, hm, hs, ht⟩
  · injection hv with _ e2 _; omega
  · injection hv with e1 e2 e3
    subst e1 e3
    rw [← e2] at hn ht
    exact ⟨g, cur.toList, rfl, by unfold Blk; simpa using hg, by simpa using hs, ht, hB, hn, hm, e2.symm⟩
theorem OwnR.of_blk {g n cap : Nat} {cur : List Value} (hb : Blk w g e cur) (hB : B ≤ g) (hl : l.length = n) (hn : n ≤ cap) (hm : cap ≤ maxLen) (hs : cur.length = cap * sz) (ht : cur.take (n * sz) = cellsR sz f l) : OwnR sz f w B e (.slice (some ⟨g, 0, none⟩) n cap) l := by
  subst hl
  exact ⟨lP sz f l, .inr ⟨g, cap, cur.toArray, rfl, hB, hb, hn, hm, by simpa using hs, by simpa using ht⟩⟩
theorem OwnR.len_is {A : Option Addr} {n cap : Nat} (h : OwnR sz f w B e (.slice A n cap) l) : l.length = n ∧ n ≤ cap ∧ cap ≤ maxLen := by
  obtain ⟨A', c', hv, h1, h2, _⟩ := h.form
  injection hv with _ e2 e3
  omega
theorem OwnR.recs {A : Option Addr} {n cap : Nat} (h : OwnR sz f w B e (.slice A n cap) l) : Recs sz f w w.heap.size A n l := by
  obtain ⟨A', c', hv, h1, h2, h3⟩ := h.form
  injection hv with e1 e2 e3
  rw [e1, e2]; exact h3
theorem OwnR.less {v : Value} {B' : Nat} (h : OwnR sz f w B e v l) (hB : B' ≤ B) : OwnR sz f w B' e v l := by
  rcases h.2 with h1 | ⟨g, cap, cur, hv, hB1, rest⟩
  · exact ⟨h.1, .inl h1⟩
  · exact ⟨h.1, .inr ⟨g, cap, cur, hv, by omega, rest⟩⟩
theorem zO {j : Nat} {x x' : α} {v : Value} : ∀ {l : List α} {k : Nat}, l[k]? = some x → j < sz → (∀ i, i < sz → f x' i = if i = j then v else f x i) → cellsR sz f (l.set k x') = (cellsR sz f l).set (k * sz + j) v := by
  intro l k hx hj hf
  apply List.ext_getElem?
  intro i
  have hk : k < l.length := (List.getElem?_eq_some_iff.1 hx).1
  have hlen : (cellsR sz f (l.set k x')).length = l.length * sz := by rw [lP, List.length_set]
  have hlen2 : (cellsR sz f l).length = l.length * sz := lP sz f l
  have hkb : k * sz + sz ≤ l.length * sz := by
    have := Nat.mul_le_mul_right sz (show k + 1 ≤ l.length from hk)
    rw [Nat.add_mul, Nat.one_mul] at this; exact this
  rw [List.getElem?_set]
  rcases Nat.lt_or_ge i (l.length * sz) with hi | hi
  · have hsz : 0 < sz := by omega
    have hq : i = i / sz * sz + i % sz := by have := Nat.div_add_mod i sz; rw [Nat.mul_comm] at this; omega
    have hr : i % sz < sz := Nat.mod_lt _ hsz
    have hd : i / sz < l.length := by
      rcases Nat.lt_or_ge (i / sz) l.length with h | h
      · exact h
      · have := Nat.mul_le_mul_right sz h; omega
    generalize i / sz = a at hq hd
    generalize i % sz = b at hq hr
    subst hq
    by_cases e : a = k
    · subst e
      rw [lB sz f (l.set a x') a b x' (by rw [List.getElem?_set, if_pos rfl, if_pos hk]) hr, hf b hr]
      by_cases eb : b = j
      · subst eb
        rw [if_pos rfl, if_pos rfl, if_pos (by omega)]
      · rw [if_neg eb, if_neg (by omega), lB sz f l a b x hx hr]
    · have hya : l[a]? = some l[a] := List.getElem?_eq_getElem hd
      rw [lB sz f (l.set k x') a b l[a] (by rw [List.getElem?_set, if_neg (fun h => e h.symm)]; exact hya) hr, lB sz f l a b l[a] hya hr]
      rw [if_neg]
      intro h
      rcases Nat.lt_or_ge a k with h1 | h1
      · have := Nat.mul_le_mul_right sz (show a + 1 ≤ k from h1)
        rw [Nat.add_mul, Nat.one_mul] at this; omega
      · have := Nat.mul_le_mul_right sz (show k + 1 ≤ a by omega)
        rw [Nat.add_mul, Nat.one_mul] at this; omega
  · rw [List.getElem?_eq_none (by omega), if_neg (by omega), List.getElem?_eq_none (by omega)]
theorem OwnR.set {g n cap k j : Nat} {x x' : α} {v : Value} (h : OwnR sz f w B e (.slice (some ⟨g, 0, none⟩) n cap) l) (hx : l[k]? = some x) (hj : j < sz) (hf : ∀ i, i < sz → f x' i = if i = j then v else f x i) {cur cur' : List Value} (hb : Blk w g e cur)
    (hc : cur' = cur.set (k * sz + j) v) (hb' : Blk w' g e cur') : OwnR sz f w' B e (.slice (some ⟨g, 0, none⟩) n cap) (l.set k x') := by
  have hk : k < l.length := (List.getElem?_eq_some_iff.1 hx).1
  have hln := h.len_is.1
  obtain ⟨g', cur2, e1, hb2, hs, ht, hB, hn, hm, hl⟩ := h.blk (by omega)
  injection e1 with e1
  injection e1 with e1
  subst e1
  have ec : cur2 = cur := by
    unfold Blk at hb hb2
    rw [hb] at hb2
    have := Option.some.inj hb2
    injection this with h1 h2 h3
    have := congrArg Array.toList h1
    simpa using this.symm
  subst ec
  refine OwnR.of_blk hb' hB (by rw [List.length_set]; exact hl) hn hm (by rw [hc, List.length_set]; exact hs) ?_
  rw [hc, zO hx hj hf, ← ht, List.take_set]
end
structure Fam (e : TypeId) (w : World) (B : Nat) (S : Nat → Prop) (l : List Sv) : Prop where
  own : ∀ (k : Nat) (x : Sv), l[k]? = some x → OwnR 2 frV w B e (svV x) x.stack
  out : ∀ (k : Nat) (x : Sv) (b : Nat), l[k]? = some x → (svV x).ownBlock = some b → ¬ S b
  apart : ∀ (k j : Nat) (x y : Sv) (b : Nat), l[k]? = some x → l[j]? = some y → (svV x).ownBlock = some b → (svV y).ownBlock = some b → k = j
section
variable {e : TypeId} {w w' : World} {B : Nat} {S S' : Nat → Prop} {l : List Sv}
theorem Fam.nil (e : TypeId) (w : World) (B : Nat) (S : Nat → Prop) : Fam e w B S [] := ⟨fun _ _ h => by simp at h, fun _ _ _ h => by simp at h, fun _ _ _ _ _ h => by simp at h⟩
theorem Fam.block (h : Fam e w B S l) {k : Nat} {x : Sv} {b : Nat} (hx : l[k]? = some x) (hb : (svV x).ownBlock = some b) : B ≤ b ∧ b < w.heap.size := (h.own k x hx).block b hb
theorem Fam.turn (h : Fam e w B S l) {row : Option Nat} (hg : w.grownBy w' row) (hr : ∀ b, row = some b → S b) : Fam e w' B S l :=
  ⟨fun k x hx => (h.own k x hx).far hg (by
    cases hv : (svV x).ownBlock with
    | none => exact .inl rfl
    | some b => exact .inr fun e1 => h.out k x b hx hv (hr b e1.symm)), h.out, h.apart⟩
theorem Fam.below (h : Fam e w B S l) {C : Nat} (hb : Below C w w') (hC : w.heap.size ≤ C) : Fam e w' B S l := ⟨fun k x hx => (h.own k x hx).below hb hC, h.out, h.apart⟩
theorem Fam.less (h : Fam e w B S l) (hS : ∀ b, S' b → S b ∨ w.heap.size ≤ b) : Fam e w B S' l :=
  ⟨h.own, fun k x b hx hb hs => by
    rcases hS b hs with h1 | h1
    · exact h.out k x b hx hb h1
    · have := (h.block hx hb).2; omega, h.apart⟩
theorem Fam.set (h : Fam e w B S l) {k : Nat} {x x' : Sv} (hx : l[k]? = some x) (hg : w.grownBy w' (svV x).ownBlock) (ho : OwnR 2 frV w' B e (svV x') x'.stack)
    (hb : (svV x').ownBlock = (svV x).ownBlock ∨ ∀ b, (svV x').ownBlock = some b → w.heap.size ≤ b) (hS : ∀ b, S b → b < w.heap.size) : Fam e w' B S (l.set k x') := by
  have hk : k < l.length := (List.getElem?_eq_some_iff.1 hx).1
  have key : ∀ j y, (l.set k x')[j]? = some y → (j = k ∧ y = x') ∨ (j ≠ k ∧ l[j]? = some y) := fun j y hy => by
    rw [List.getElem?_set] at hy
    by_cases e1 : k = j
    · subst e1
      rw [if_pos rfl, if_pos hk] at hy
      exact .inl ⟨rfl, (Option.some.inj hy).symm⟩
    · rw [if_neg e1] at hy
      exact .inr ⟨fun e2 => e1 e2.symm, hy⟩
  have far : ∀ j y b, j ≠ k → l[j]? = some y → (svV y).ownBlock = some b → (svV x').ownBlock ≠ some b := fun j y b hne hy hb1 hb2 => by
    rcases hb with hb | hb
    · exact hne (h.apart j k y x b hy hx hb1 (by rw [← hb]; exact hb2))
    · have := hb b hb2
      have := (h.block hy hb1).2
      omega
  refine ⟨fun j y hy => ?_, fun j y b hy hb1 hs => ?_, fun i j y z b hy hz hb1 hb2 => ?_⟩
  · rcases key j y hy with ⟨_, rfl⟩ | ⟨hne, hy⟩
    · exact ho
    · refine (h.own j y hy).far hg ?_
      cases hv : (svV y).ownBlock with
      | none => exact .inl rfl
      | some b => exact .inr fun e1 => hne (h.apart j k y x b hy hx hv e1.symm)
  · rcases key j y hy with ⟨_, rfl⟩ | ⟨hne, hy⟩
    · rcases hb with hb | hb
      · exact h.out k x b hx (by rw [← hb]; exact hb1) hs
      · have := hb b hb1
        have := hS b hs
        omega
    · exact h.out j y b hy hb1 hs
  · rcases key i y hy with ⟨e1, e2⟩ | ⟨hne, hy'⟩
    · rcases key j z hz with ⟨e3, _⟩ | ⟨hne2, hz'⟩
      · rw [e1, e3]
      · rw [e2] at hb1; exact absurd hb1 (far j z b hne2 hz' hb2)
    · rcases key j z hz with ⟨_, e4⟩ | ⟨hne2, hz'⟩
      · rw [e4] at hb2; exact absurd hb2 (far i y b hne hy' hb1)
      · exact h.apart i j y z b hy' hz' hb1 hb2
theorem Fam.push (h : Fam e w B S l) {x : Sv} (hg : w.grownBy w' none) (ho : OwnR 2 frV w' B e (svV x) x.stack) (hb : ∀ b, (svV x).ownBlock = some b → w.heap.size ≤ b) (hS : ∀ b, S b → b < w.heap.size) : Fam e w' B S (l ++ [x]) := by
  have key : ∀ j y, (l ++ [x])[j]? = some y → (j = l.length ∧ y = x) ∨ (j < l.length ∧ l[j]? = some y) := fun j y hy => by
    rcases Nat.lt_or_ge j l.length with h1 | h1
    · rw [List.getElem?_append_left h1] at hy
      exact .inr ⟨h1, hy⟩
    · have h2 := (List.getElem?_eq_some_iff.1 hy).1
      simp only [List.length_append, List.length_singleton] at h2
      have e1 : j = l.length := by omega
      subst e1
      rw [List.getElem?_append_right (Nat.le_refl _), Nat.sub_self] at hy
      exact .inl ⟨rfl, by simpa using hy.symm⟩
  refine ⟨fun j y hy => ?_, fun j y b hy hb1 hs => ?_, fun i j y z b hy hz hb1 hb2 => ?_⟩
  · rcases key j y hy with ⟨_, rfl⟩ | ⟨_, hy⟩
    · exact ho
    · exact (h.own j y hy).far hg (by cases (svV y).ownBlock <;> simp)
  · rcases key j y hy with ⟨_, rfl⟩ | ⟨_, hy⟩
    · have := hb b hb1; have := hS b hs; omega
    · exact h.out j y b hy hb1 hs
  · rcases key i y hy with ⟨e1, e2⟩ | ⟨h1, hy'⟩
    · rcases key j z hz with ⟨e3, _⟩ | ⟨h2, hz'⟩
      · rw [e1, e3]
      · rw [e2] at hb1
        have := hb b hb1; have := (h.block hz' hb2).2; omega
    · rcases key j z hz with ⟨_, e4⟩ | ⟨h2, hz'⟩
      · rw [e4] at hb2
        have := hb b hb2; have := (h.block hy' hb1).2; omega
      · exact h.apart i j y z b hy' hz' hb1 hb2
end
structure St (w : World) (B gN gU : Nat) (q : Pc) : Prop where
  conf : Blk w gN 43 (pcC q)
  row : OwnR 9 tvV w B 89 (.slice q.A q.len q.cap) q.tvs
  fam : Fam 90 w B (fun b => b = gN ∨ b = gU ∨ (Value.slice q.A q.len q.cap).ownBlock = some b) (q.tvs.map (·.sv))
  ne : ∀ b, (Value.slice q.A q.len q.cap).ownBlock = some b → b ≠ gN ∧ b ≠ gU
  low : B ≤ gN ∧ gU < w.heap.size
theorem St.below {w w' : World} {B gN gU C : Nat} {q : Pc} (h : St w B gN gU q) (hb : Below C w w') (hC : w.heap.size ≤ C) : St w' B gN gU q :=
  ⟨h.conf.below hb (Nat.lt_of_lt_of_le h.conf.lt hC), h.row.below hb hC, h.fam.below hb hC, h.ne, h.low.1, Nat.lt_of_lt_of_le h.low.2 hb.size⟩
theorem St.drewN {w : World} {B gN gU : Nat} {q : Pc} (h : St w B gN gU q) (k : Nat) : St (w.drewN k) B gN gU q := h.below (jE (Below.refl w.heap.size w) k) (Nat.le_refl _)
theorem St.ok {w : World} {B gN gU : Nat} {q : Pc} (h : St w B gN gU q) : q.Ok w w.heap.size :=
  ⟨h.row.recs, h.row.len_is.2.1, h.row.len_is.2.2, fun x hx => by
    obtain ⟨k, hk⟩ := List.mem_iff_getElem?.1 hx
    have ho := h.fam.own k x.sv (by rw [List.getElem?_map, hk]; rfl)
    exact ⟨ho.recs, ho.len_is.2.1, ho.len_is.2.2⟩⟩
theorem St.thread {w : World} {B gN gU k : Nat} {q : Pc} (h : St w B gN gU q) (hk : k < q.len) :
    ∃ gT cur x, q.A = some ⟨gT, 0, none⟩ ∧ Blk w gT 89 cur ∧ q.tvs[k]? = some x ∧ cur[k * 9]? = some (.slice x.sv.A x.sv.len x.sv.cap) ∧ (∀ j, j < 8 → cur[k * 9 + (j + 1)]? = some (.int .i64 (x.slots.getD j 0 : Int))) ∧ gT ≠ gN ∧ gT ≠ gU ∧ B ≤ gT ∧
      x.sv.stack.length = x.sv.len ∧ M.th q.cf k = tvT x ∧ k * 9 + 9 ≤ cur.length := by
  obtain ⟨gT, cur, hA, hb, hs, ht, hB, hn, hm, hl⟩ := h.row.blk (by omega)
  have hkl : k < q.tvs.length := by omega
  have hx := List.getElem?_eq_getElem hkl
  have hne := h.ne gT (by rw [hA]; rfl)
  have ho := h.fam.own k _ (by rw [List.getElem?_map, hx]; rfl)
  have hc : ∀ j, j < 9 → cur[k * 9 + j]? = some (tvV q.tvs[k] j) := fun j hj => by
    have h1 := lB 9 tvV q.tvs k j _ hx hj
    rw [← ht, List.getElem?_take] at h1
    split at h1
    · exact h1
    · cases h1
  have hlen : k * 9 + 9 ≤ cur.length := by rw [hs]; omega
  exact ⟨gT, cur, _, hA, hb, hx, hc 0 (by omega), fun j hj => hc (j + 1) (by omega), hne.1, hne.2, hB, ho.len_is.1, Pc.th_of hx, hlen⟩
theorem lR : (Try.prog.info? 41).map (·.size) = some 16 := by kernel_rfl
theorem j6 : (Try.prog.info? 43).map (·.size) = some 17 := by kernel_rfl
theorem owner_at {o : List Nat} (h16 : o.length = 16) {k : Nat} (hk : k < 16) : (o.map natV)[k]? = some (.int .i64 (o.getD k 0 : Int)) := by
  rw [List.getElem?_map, List.getElem?_eq_getElem (by omega), List.getD_eq_getElem?_getD, List.getElem?_eq_getElem (by omega)]; rfl
end Go.Proofs.Ytkhfolpffjihgaa
