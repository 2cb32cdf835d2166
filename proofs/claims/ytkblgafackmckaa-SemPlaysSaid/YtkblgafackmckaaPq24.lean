/- SemLaw2, SemRIn, SemROwn, in one text. -/
import Derived.Test.YtkblgafackmckaaPq23
import Derived.Test.YtkblgafackmckaaSemSame2
import Derived.Test.YtkblgafackmckaaPq12
import Derived.Test.YtkblgafackmckaaPq17
import Derived.Test.YtkblgafackmckaaPq14
import Derived.Test.YtkblgafackmckaaPq19
/- What the statements of sem use of their loops. -/
namespace Go.Proofs.Ytkblgafackmckaa
open Go.RowKit

/-- A config behind a step, its memory made by the call. -/
def Fact.stepped (K : Nat) (c : M.Cf) : Fact :=
  ⟨fun v W => ∃ q', v = pcA q' ∧ Mine W K q' ∧ q'.cf = c, fun _ _ _ hb ⟨q', h1, h2, h3⟩ => ⟨q', h1, h2.below hb (Nat.le_refl _), h3⟩⟩
theorem good_8s {p : Pg} {q : Pc} (h : M.Good p q.cf) : ∀ x ∈ q.tvs, x.slots.length = 8 := fun x hx => h.eight (tvT x) (List.mem_map_of_mem hx)
theorem good_17 {p : Pg} {q : Pc} (h : M.Good p q.cf) : (pcC q).length = 17 := conf_len h.owns
theorem conf_cell {w : World} {g : Nat} {q : Pc} (h : Blk w g 31 (pcC q)) : w.cell? ⟨g, 0, none⟩ = some (.slice q.A q.len q.cap) := h.cell 0
theorem held_in {q : Pc} {w : World} {B t : Nat} (h : q.Ok w B) (ht : t < q.len) : M.held q.cf (t : Int) = M.heldTo q.ow t 16 := by
  unfold M.held
  rw [if_pos ⟨by omega, by rw [h.len]; omega⟩, Int.toNat_natCast]; rfl
theorem most_8 {p : Pg} {q : Pc} {w : World} {B : Nat} (hg : M.Good p q.cf) (h : q.Ok w B) : q.len ≤ 8 := by rw [← h.len]; exact hg.most
theorem own_8 {p : Pg} {q : Pc} (hg : M.Good p q.cf) : ∀ o ∈ q.ow, o ≤ 8 := fun o ho => by have := hg.own o ho; have := hg.most; omega
/-- A block of another type is none of its. -/
theorem OwnR.typed {α : Type} {sz : Nat} {f : α → Nat → Value} {w : World} {B b : Nat} {e t : TypeId} {v : Value} {l : List α} {cs : List Value} (h : OwnR sz f w B e v l) (hb : Blk w b t cs) (hne : e ≠ t) : v.ownBlock ≠ some b := by
  intro hv
  rcases h.2 with ⟨rfl, _⟩ | ⟨g, cap, cur, rfl, _, hg, _⟩
  · cases hv
  · injection hv with hv
    have hv : g = b := hv
    subst hv
    unfold Blk at hb
    rw [hg] at hb
    injection hb with hb
    injection hb with _ h2
    exact hne h2
theorem Mine.typed {w w' : World} {B g : Nat} {q : Pc} {cs : List Value} (h : Mine w B q) (hb : Blk w g 31 cs) (hg : w.grownBy w' (some g)) : Mine w' B q :=
  h.far hg (fun b hv e => h.row.typed hb (by decide) (by rw [hv, e])) (fun k y b hy hv e => (h.fam.own k y hy).typed hb (by decide) (by rw [hv, e]))
/-- A new config variable. -/
def Fact.confNew (K : Nat) : Fact :=
  ⟨fun v W => ∃ g, v = .pointer (some ⟨g, 0, none⟩) ∧ Blk W g 31 (Value.slice none 0 0 :: zeros 16) ∧ K ≤ g, fun _ _ _ hb ⟨g, h1, h2, h3⟩ => ⟨g, h1, h2.below hb h2.lt, h3⟩⟩
/-- A pick's cells. -/
theorem Picks.pick {w : World} {B : Nat} {A : Option Addr} {n : Nat} {l : List (Int × Bool)} (h : Picks w B A n l) {i : Nat} (hi : i < n) :
    ∃ ad x, A = some ad ∧ ad.block < B ∧ l[i]? = some x ∧ I64 x.1 ∧ w.cell? (ad.add (i * 2)) = some (.int .i64 x.1) ∧ w.cell? ⟨(ad.add (i * 2)).block, (ad.add (i * 2)).off + 1, none⟩ = some (.bool x.2) := by
  obtain ⟨ad, x, hA, hb, hx, hc0, hc1⟩ := h.1.field hi
  exact ⟨ad, x, hA, hb, hx, h.2 x (List.mem_of_getElem? hx), hc0 (by omega), hc1 1 (by omega) (by omega)⟩
theorem node_zero9 : (Try.prog.info? 47).map (·.zero) = some (some (.agg #[.int .i64 0, .int .i64 0, .int .i64 0, .int .i64 0])) := by kernel_rfl
theorem nd_ones9 (x : Nd) : ∀ u ∈ ndC x, u.oneCell' = true := by
  intro u hu
  simp only [ndC, List.mem_cons, List.not_mem_nil, or_false] at hu
  rcases hu with rfl | rfl | rfl | rfl <;> rfl
end Go.Proofs.Ytkblgafackmckaa

/- Configs of the document's in memory: what they read as. -/
namespace Go.Proofs.Ytkblgafackmckaa
open Go.RowKit

/-- Slots, as cells hold them. -/
def slV (l : List Nat) (j : Nat) : Value := .int .i64 ((l.getD j 0 : Nat) : Int)
theorem slV_one (l : List Nat) (j : Nat) : (slV l j).oneCell' = true := rfl
/-- A config of the document's. -/
structure Rc where
  A : Option Addr
  cap : Nat
  svs : List Sv
  A2 : Option Addr
  cap2 : Nat
  sls : List (List Nat)
  len : Nat
  ow : List Nat
def rcC (q : Rc) : List Value := .slice q.A q.len q.cap :: .slice q.A2 q.len q.cap2 :: q.ow.map natV
def rcA (q : Rc) : Value := .agg (rcC q).toArray
theorem rcA_is (q : Rc) : rcA q = .agg (rcC q).toArray := rfl
def Rc.cf (q : Rc) : M.Cf := ⟨List.zipWith (fun (s : Sv) l => ⟨s.stack, l⟩) q.svs q.sls, q.ow⟩
structure Rc.Ok (q : Rc) (w : World) (B : Nat) : Prop where
  row : Row svV w B q.A q.len q.svs
  slr : Recs 8 slV w B q.A2 q.len q.sls
  lc : q.len ≤ q.cap ∧ q.cap ≤ maxLen
  lc2 : q.len ≤ q.cap2 ∧ q.cap2 ≤ maxLen
  svs : ∀ x ∈ q.svs, x.Ok w B
theorem Rc.Ok.keep {q : Rc} {w w' : World} {B : Nat} (h : q.Ok w B) (hk : ∀ p : Addr, p.block < B → w'.cell? p = w.cell? p) : q.Ok w' B := ⟨h.row.keep hk, h.slr.keep hk, h.lc, h.lc2, fun x hx => (h.svs x hx).keep hk⟩
theorem Rc.Ok.below {q : Rc} {w w' : World} {B : Nat} (h : q.Ok w B) (hb : Below B w w') : q.Ok w' B := h.keep fun _ hp => hb.cell hp
theorem Rc.Ok.more {q : Rc} {w : World} {B B' : Nat} (h : q.Ok w B) (hB : B ≤ B') : q.Ok w B' := ⟨h.row.more hB, h.slr.more hB, h.lc, h.lc2, fun x hx => (h.svs x hx).more hB⟩
theorem Rc.Ok.len {q : Rc} {w : World} {B : Nat} (h : q.Ok w B) : q.cf.ths.length = q.len := by
  unfold Rc.cf
  rw [List.length_zipWith, h.row.len, h.slr.len, Nat.min_self]
/-- Thread k's cells. -/
theorem Rc.Ok.thread {q : Rc} {w : World} {B : Nat} (h : q.Ok w B) {k : Nat} (hk : k < q.len) :
    ∃ ad x ad2 sl, q.A = some ad ∧ ad.block < B ∧ q.svs[k]? = some x ∧ x.Ok w B ∧ w.cell? (ad.add k) = some (.slice x.A x.len x.cap) ∧ q.A2 = some ad2 ∧ ad2.block < B ∧ q.sls[k]? = some sl ∧ M.th q.cf k = ⟨x.stack, sl⟩ ∧ x.stack.length = x.len ∧
      ∀ j, j < 8 → w.cell? (ad2.add (k * 8 + j)) = some (.int .i64 ((sl.getD j 0 : Nat) : Int)) := by
  obtain ⟨ad, x, e, hb, hx, hc⟩ := h.row.get hk
  obtain ⟨ad2, sl, e2, hb2, hsl, hc2⟩ := h.slr.get hk
  have hok := h.svs x (List.mem_of_getElem? hx)
  refine ⟨ad, x, ad2, sl, e, hb, hx, hok, hc, e2, hb2, hsl, M.th_is ?_, hok.row.len, fun j hj => hc2 j hj⟩
  unfold Rc.cf
  rw [List.getElem?_zipWith, hx, hsl]
theorem rc_len {q : Rc} (h : q.ow.length = 16) : (rcC q).length = 18 := by simp [rcC, h]
theorem rc_ones (q : Rc) : ∀ u ∈ rcC q, u.oneCell' = true := by
  intro u hu
  unfold rcC at hu
  rcases List.mem_cons.1 hu with rfl | hu
  · rfl
  rcases List.mem_cons.1 hu with rfl | hu
  · rfl
  · obtain ⟨x, _, rfl⟩ := List.mem_map.1 hu
    rfl
end Go.Proofs.Ytkblgafackmckaa

/- Configs of the document's that the call made. -/
namespace Go.Proofs.Ytkblgafackmckaa
open Go.RowKit

/-- append of another slice to an empty one that was just built: nothing that stood has turned. -/
theorem wpList_append_new {P : Program} {ops : Array Oper} {rest : List Oper} {o : Oper} {a : Act} {w : World} {Q : Exit → Act → World → Prop} (hgd : o.guard = none) (s x : Operand) (t : TypeId)
    (ho : o.op = .call { callee := .builtin .append, args := #[s, x], argTypes := #[t, t] })
    (B : Nat) (e : TypeId) (sz : Nat) (z : Value) (bytes : Nat) (ht : P.underlying t = some (.slice e)) (hi : (P.info? e).map (fun i => (i.zero, i.size, i.bytes)) = some (some z, sz, bytes)) (hzs : z.cells.size = sz) (hsz : 0 < sz)
    {α : Type} (f : α → Nat → Value) (hone : ∀ x j, (f x j).oneCell' = true) (g : Nat) (hs : a.eval s = .slice (some ⟨g, 0, none⟩) 0 0) (hown : OwnR sz f w B e (.slice (some ⟨g, 0, none⟩) 0 0) ([] : List α)) (A : Option Addr) (m c C : Nat) (news : List α) (hx : a.eval x = .slice A m c) (hr : Recs sz f w C A m news)
    (h63 : m ≤ maxLen) (hbytes : m * bytes ≤ 140737488355328) (hB : B ≤ w.heap.size)
    (h : ∀ g' c' w', OwnR sz f w' B e (.slice (some ⟨g', 0, none⟩) m c') news → Below w.heap.size w w' → (g' = g ∨ w.heap.size ≤ g') → wpList P ops Q rest (a.put o.dst (.slice (some ⟨g', 0, none⟩) m c')) w') : wpList P ops Q (o :: rest) a w := by
  refine wpList_plain hgd fun K hK => ?_
  have key : ∃ g' c' w', (Builtin.append_ #[t, t] o.type #[.slice (some ⟨g, 0, none⟩) 0 0, .slice A m c]).run P w = .ok (.slice (some ⟨g', 0, none⟩) m c') w' ∧ OwnR sz f w' B e (.slice (some ⟨g', 0, none⟩) m c') news ∧ Below w.heap.size w w' ∧ (g' = g ∨ w.heap.size ≤ g') := by
    rcases Nat.eq_zero_or_pos m with h0 | h0
    · subst h0
      have hn : news = [] := List.eq_nil_of_length_eq_zero hr.len
      subst hn
      obtain ⟨i, hi0, hzz⟩ := Option.map_eq_some_iff.1 hi
      refine ⟨g, 0, w, ?_, hown, Below.refl _ _, .inl rfl⟩
      cases A with
      | none => simp [Builtin.append_, run_underlying ht, sizeOf, typeInfo, hi0, Builtin.lenOf, Builtin.firstCells, storeCells]
      | some ad =>
        have hl : (loadCells ad 0).run P w = .ok #[] w := run_loadCells_list (P := P) w ad [] (fun j v h => by simp at h)
        simp [Builtin.append_, run_underlying ht, sizeOf, typeInfo, hi0, Builtin.lenOf, Builtin.firstCells, storeCells, hl]
    · obtain ⟨v', w', hrun, h2, h3⟩ := append_rows (P := P) t o.type B e sz z bytes ht hi hzs hsz f hone w _ [] hown A m c C news hr (by simpa using h63) (by simpa using hbytes) hB
      obtain ⟨i, hi0, hzz⟩ := Option.map_eq_some_iff.1 hi
      simp only [Prod.mk.injEq] at hzz
      obtain ⟨hz, hsize, hby⟩ := hzz
      obtain ⟨ad, rfl, _, hc⟩ := hr.cells h0
      have hcl : (cellsR sz f news).length = m * sz := by rw [cellsR_len, hr.len]
      have hcells : ∀ j u, (cellsR sz f news)[j]? = some u → w.cell? (ad.add j) = some u := by
        intro j u hu
        have hj : j < m * sz := by
          have := (List.getElem?_eq_some_iff.1 hu).1
          rw [hcl] at this; exact this
        have hd : j / sz < m := by
          rcases Nat.lt_or_ge (j / sz) m with h | h
          · exact h
          · have h1 := Nat.mul_le_mul_right sz h
            have h2 := Nat.div_mul_le_self j sz
            omega
        have hr2 : j % sz < sz := Nat.mod_lt _ hsz
        have hq : j = j / sz * sz + j % sz := by have := Nat.div_add_mod j sz; rw [Nat.mul_comm] at this; omega
        have hx : news[j / sz]? = some (news[j / sz]'(by rw [hr.len]; exact hd)) := List.getElem?_eq_getElem _
        have h1 := hc _ _ hx _ hr2
        have h2 := cellsR_at sz f news _ _ _ hx hr2
        rw [← hq] at h1 h2
        rw [h2] at hu
        rw [h1, Option.some.inj hu]
      have hsm : m ≤ 9223372036854775807 := by unfold maxLen at h63; omega
      have hr2 := run_append_grow (P := P) w t o.type e i z ht hi0 hz ⟨g, 0, none⟩ 0 0 [] (by simp) (fun j v h => by simp at h) ad m c (cellsR sz f news) (by rw [hsize]; exact hcl) hcells (by omega) (by omega) (growslice_fits (by omega) (by rw [hby]; simpa using hbytes))
      rw [hrun] at hr2
      injection hr2 with e1 e2
      subst e1
      rw [Nat.zero_add] at hrun h2
      refine ⟨w.heap.size, _, w', hrun, by simpa using h2, ?_, .inr (Nat.le_refl _)⟩
      rw [e2]
      exact ⟨rfl, rfl, rfl, by simp, fun k hk => Below.heap_alloc w.drew _ k hk⟩
  obtain ⟨g', c', w', hrun, h1, h2, h3⟩ := key
  unfold Oper.wp execOp
  simp only [ho, resolve, invoke, builtin, Sem.run_bind, Sem.run_pure, Result.andThen_ok, List.map_toArray, List.map_cons, List.map_nil, hs, hx, hrun]
  exact hK _ _ (h g' c' w' h1 h2 h3)

/-- A slice of slices, element by element as one cell each. -/
def svR (x : Sv) (_ : Nat) : Value := svV x
theorem svR_one (x : Sv) (j : Nat) : (svR x j).oneCell' = true := rfl
theorem recs_row {w : World} {B n : Nat} {A : Option Addr} {l : List Sv} (h : Recs 1 svR w B A n l) : Row svV w B A n l :=
  ⟨h.len, fun h0 => by
    obtain ⟨ad, e, hb, hc⟩ := h.cells h0
    refine ⟨ad, e, hb, fun k hk => ?_⟩
    have hx : l[k]? = some (l[k]'(by rw [h.len]; exact hk)) := List.getElem?_eq_getElem _
    have := hc k _ hx 0 (by omega)
    rw [hx]
    rw [Nat.mul_one, Nat.add_zero] at this
    exact this⟩
/-- A config of the document's whose memory the call made. -/
structure RMine (w : World) (B : Nat) (q : Rc) : Prop where
  row : OwnR 1 svR w B 66 (.slice q.A q.len q.cap) q.svs
  slr : OwnR 8 slV w B 61 (.slice q.A2 q.len q.cap2) q.sls
  fam : Fam 68 w B (fun b => (Value.slice q.A q.len q.cap).ownBlock = some b ∨ (Value.slice q.A2 q.len q.cap2).ownBlock = some b) q.svs
  ne : ∀ b, (Value.slice q.A q.len q.cap).ownBlock = some b → (Value.slice q.A2 q.len q.cap2).ownBlock ≠ some b
theorem RMine.ok {w : World} {B : Nat} {q : Rc} (h : RMine w B q) : q.Ok w w.heap.size :=
  ⟨recs_row h.row.recs, h.slr.recs, h.row.len_is.2, h.slr.len_is.2, fun x hx => by
    obtain ⟨k, hk⟩ := List.mem_iff_getElem?.1 hx
    have ho := h.fam.own k x hk
    exact ⟨ho.recs, ho.len_is.2.1, ho.len_is.2.2⟩⟩
theorem RMine.below {w w' : World} {B C : Nat} {q : Rc} (h : RMine w B q) (hb : Below C w w') (hC : w.heap.size ≤ C) : RMine w' B q := ⟨h.row.below hb hC, h.slr.below hb hC, h.fam.below hb hC, h.ne⟩
/-- Blocks of others turn. -/
theorem RMine.far {w w' : World} {B g : Nat} {q : Rc} (h : RMine w B q) (hg : w.grownBy w' (some g)) (hB : g < B ∨ w.heap.size ≤ g) : RMine w' B q := by
  have key : ∀ b, B ≤ b ∧ b < w.heap.size → b ≠ g := fun b hb e => by subst e; omega
  have k1 : ∀ v : Value, (∀ b, v.ownBlock = some b → B ≤ b ∧ b < w.heap.size) → v.ownBlock = none ∨ v.ownBlock ≠ some g := fun v hv => by
    cases h1 : v.ownBlock with
    | none => exact .inl rfl
    | some b => exact .inr fun e => key b (hv b h1) (by cases e; rfl)
  exact ⟨h.row.far hg (k1 _ h.row.block), h.slr.far hg (k1 _ h.slr.block), ⟨fun k x hx => (h.fam.own k x hx).far hg (k1 _ fun b hb => h.fam.block hx hb), h.fam.out, h.fam.apart⟩, h.ne⟩
end Go.Proofs.Ytkblgafackmckaa
