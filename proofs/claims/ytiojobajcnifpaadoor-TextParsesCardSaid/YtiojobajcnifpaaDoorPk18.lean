/- TextFns, TextStep, TextPush, in one text. -/
import Derived.Test.YtiojobajcnifpaaDoorPk16
import Derived.Test.YtiojobajcnifpaaDoorPk17
import Derived.Test.YtiojobajcnifpaaDoorPk5
import Derived.Test.YtiojobajcnifpaaDoorPk8
import Derived.Maps.AppendAt
import Derived.Test.YtiojobajcnifpaaDoorProgRef1
import Derived.Test.YtiojobajcnifpaaDoorPk15
import Derived.Test.YtiojobajcnifpaaDoorPk7
/- Functions that a reader gathers: a slice of slices of nodes, the last of which still grows. -/
namespace Go.Proofs.YtiojobajcnifpaaDoor
open Go.ChangeShapes Go.WideShapes Go.RowKit Go.Deep

theorem ownR_held {α : Type} {sz : Nat} {f : α → Nat → Value} {S : Nat → Prop} {w w' : World} {B : Nat} {e : TypeId} {v : Value} {l : List α} (h : OwnR sz f w B e v l) (hb : Held S w w') (hS : ∀ k, v.ownBlock = some k → S k) : OwnR sz f w' B e v l := by
  rcases h.2 with ⟨h1, h0⟩ | ⟨g, cap, cur, hv, hB1, hg, hn, hm, hs, ht⟩
  · exact ⟨h.1, .inl ⟨h1, h0⟩⟩
  · exact ⟨h.1, .inr ⟨g, cap, cur, hv, hB1, by rw [hb.block g (hS g (by rw [hv]; rfl))]; exact hg, hn, hm, hs, ht⟩⟩
theorem Only.held {G S : Nat → Prop} {w w' : World} (h : Only G w w') (hS : ∀ k, S k → k < w.heap.size ∧ ¬ G k) : Held S w w' := ⟨h.os, h.tape, h.output, h.size, fun k hk => h.block k (hS k hk).1 (hS k hk).2⟩
theorem Only.less {G G' : Nat → Prop} {w w' : World} (h : Only G w w') (hG : ∀ k, k < w.heap.size → G k → G' k) : Only G' w w' := ⟨h.os, h.tape, h.output, h.size, fun k hk hn => h.block k hk fun hg => hn (hG k hk hg)⟩
theorem Only.of_grow {G : Nat → Prop} {w w' : World} {row : Option Nat} (h : w.grownBy w' row) (hg : ∀ k, row = some k → G k) : Only G w w' := ⟨h.os, h.tape, h.output, h.size, fun k hk hn => h.block k hk (fun e => hn (hg k e.symm))⟩

/-- The slice v of the slices us, which the call made since block C, reads as L; no block of theirs is in S. -/
structure Fns (W : World) (C : Nat) (S : Nat → Prop) (v : Value) (us : List Value) (L : List (List Nd)) : Prop where
  own : Own W C 47 v us
  len : us.length = L.length
  each : ∀ (i : Nat) (u : Value) (l : List Nd), us[i]? = some u → L[i]? = some l → OwnR 4 ndV W C 49 u l ∧ ∀ x ∈ l, x.Ok
  ne : ∀ (i : Nat) (u : Value) (k : Nat), us[i]? = some u → u.ownBlock = some k → v.ownBlock ≠ some k ∧ ¬ S k
  nv : ∀ k, v.ownBlock = some k → ¬ S k
  two : ∀ (i j : Nat) (u u' : Value) (k : Nat), us[i]? = some u → us[j]? = some u' → u.ownBlock = some k → u'.ownBlock = some k → i = j
  lt : ∀ k, S k → k < W.heap.size

section
variable {W W' : World} {C : Nat} {S S' : Nat → Prop} {v v' : Value} {us : List Value} {L : List (List Nd)}
theorem Fns.get (h : Fns W C S v us L) {i : Nat} {u : Value} (hu : us[i]? = some u) : ∃ l, L[i]? = some l ∧ OwnR 4 ndV W C 49 u l ∧ ∀ x ∈ l, x.Ok := by
  have hi : i < L.length := by rw [← h.len]; exact (List.getElem?_eq_some_iff.1 hu).1
  exact ⟨L[i], List.getElem?_eq_getElem hi, h.each i u _ hu (List.getElem?_eq_getElem hi)⟩
theorem Fns.blk (h : Fns W C S v us L) {i : Nat} {u : Value} (hu : us[i]? = some u) {k : Nat} (hk : u.ownBlock = some k) : C ≤ k ∧ k < W.heap.size := by
  obtain ⟨l, _, ho, _⟩ := h.get hu
  exact ho.block k hk
/-- None of theirs turns. -/
theorem Fns.keep (h : Fns W C S v us L) (ho : Only S W W') (hS : ∀ k, S' k → k < W'.heap.size ∧ (S k ∨ W.heap.size ≤ k)) : Fns W' C S' v us L := by
  have hh : Held (fun k => k < W.heap.size ∧ ¬ S k) W W' := ho.held fun k hk => hk
  refine ⟨h.own.heldAt hh fun k hk => ⟨(h.own.block k hk).2, h.nv k hk⟩, h.len, fun i u l hu hl => ?_, fun i u k hu hk => ?_, fun k hk hs => ?_, h.two, fun k hk => (hS k hk).1⟩
  · obtain ⟨h1, h2⟩ := h.each i u l hu hl
    exact ⟨ownR_held h1 hh fun k hk => ⟨(h1.block k hk).2, (h.ne i u k hu hk).2⟩, h2⟩
  · refine ⟨(h.ne i u k hu hk).1, fun hs => ?_⟩
    have := (h.blk hu hk).2
    rcases (hS k hs).2 with h1 | h1
    · exact (h.ne i u k hu hk).2 h1
    · omega
  · have := (h.own.block k hk).2
    rcases (hS k hs).2 with h1 | h1
    · exact h.nv k hk h1
    · omega
theorem Fns.on (h : Fns W C S v us L) (hb : Below W.heap.size W W') : Fns W' C S v us L := h.keep (Only.of_below hb) fun k hk => ⟨Nat.lt_of_lt_of_le (h.lt k hk) hb.size, .inl hk⟩
theorem Fns.floor (h : Fns W C S v us L) (hC : C ≤ W.heap.size) : Fns W C (fun k => k < C) v us L :=
  ⟨h.own, h.len, h.each, fun i u k hu hk => ⟨(h.ne i u k hu hk).1, fun hs => by have := (h.blk hu hk).1; omega⟩, fun k hk hs => by have := (h.own.block k hk).1; omega, h.two, fun k hk => by omega⟩
/-- A function more. -/
theorem Fns.func (h : Fns W C S v us L) (hown : Own W' C 47 v' (us ++ [.slice none 0 0])) (hg : Grew W W' v v') : Fns W' C S v' (us ++ [.slice none 0 0]) (L ++ [[]]) := by
  have hold : ∀ (i : Nat) (u : Value), (us ++ [.slice none 0 0])[i]? = some u → us[i]? = some u ∨ (i = us.length ∧ u = .slice none 0 0) := fun i u hu => by
    rcases Nat.lt_or_ge i us.length with hi | hi
    · rw [List.getElem?_append_left hi] at hu; exact .inl hu
    · rw [List.getElem?_append_right hi] at hu
      have h0 : i - us.length = 0 := by
        have := (List.getElem?_eq_some_iff.1 hu).1
        simp at this; exact this
      rw [h0] at hu
      exact .inr ⟨by omega, by simpa using hu.symm⟩
  refine ⟨hown, by simp [h.len], fun i u l hu hl => ?_, fun i u k hu hk => ?_, fun k hk hs => ?_, fun i j u u' k hu hu' hk hk' => ?_, fun k hk => Nat.lt_of_lt_of_le (h.lt k hk) hg.size⟩
  · rcases hold i u hu with h1 | ⟨rfl, rfl⟩
    · have hi : i < L.length := by rw [← h.len]; exact (List.getElem?_eq_some_iff.1 h1).1
      rw [List.getElem?_append_left hi] at hl
      obtain ⟨h2, h3⟩ := h.each i u l h1 hl
      refine ⟨h2.far hg.1 ?_, h3⟩
      cases hb : u.ownBlock with
      | none => exact .inl rfl
      | some k => exact .inr fun e => (h.ne i u k h1 hb).1 e.symm
    · rw [h.len, List.getElem?_append_right (Nat.le_refl _), Nat.sub_self] at hl
      have e : [] = l := by simpa using hl
      subst e
      exact ⟨OwnR.nil _ _ _ _ _, by simp⟩
  · rcases hold i u hu with h1 | ⟨_, rfl⟩
    · refine ⟨fun e => ?_, (h.ne i u k h1 hk).2⟩
      rcases hg.2 with h2 | h2
      · rw [h2] at e; exact (h.ne i u k h1 hk).1 e
      · have := h2 k e
        have := (h.blk h1 hk).2
        omega
    · cases hk
  · rcases hg.2 with h2 | h2
    · rw [h2] at hk; exact h.nv k hk hs
    · have := h2 k hk
      have := h.lt k hs
      omega
  · rcases hold i u hu with h1 | ⟨_, rfl⟩
    · rcases hold j u' hu' with h2 | ⟨_, rfl⟩
      · exact h.two i j u u' k h1 h2 hk hk'
      · cases hk'
    · cases hk
/-- The last function's place. -/
theorem Fns.last {us0 : List Value} {u : Value} (h : Fns W C S v (us0 ++ [u]) L) :
    ∃ r c, v = .slice (some ⟨r, 0, none⟩) (us0.length + 1) c ∧ W.cell? ⟨r, us0.length, none⟩ = some u ∧ W.frozen? ⟨r, us0.length, none⟩ = false ∧ C ≤ r ∧ r < W.heap.size ∧ u.ownBlock ≠ some r ∧ ¬ S r ∧ us0.length + 1 ≤ maxLen := by
  obtain ⟨r, c, cur, hv, hb, hc, hl, hm, ht, hr⟩ := h.own.blk (by simp)
  rw [List.length_append, List.length_singleton] at hv hl ht
  refine ⟨r, c, hv, ?_, hb.frozen _, hr, hb.lt, ?_, h.nv r (by rw [hv]; rfl), by omega⟩
  · rw [hb.cell]
    have e : (cur.take (us0.length + 1))[us0.length]? = some u := by rw [ht, List.getElem?_append_right (Nat.le_refl _), Nat.sub_self]; rfl
    rwa [List.getElem?_take, if_pos (by omega)] at e
  · intro e
    exact (h.ne us0.length u r (by rw [List.getElem?_append_right (Nat.le_refl _), Nat.sub_self]; rfl) e).1 (by rw [hv]; rfl)
theorem own_set {e : TypeId} {xs : List Value} {r n c i : Nat} {x : Value} (h : Own W C e (.slice (some ⟨r, 0, none⟩) n c) xs) (hi : i < xs.length) : Own (W.setCell ⟨r, i, none⟩ x) C e (.slice (some ⟨r, 0, none⟩) n c) (xs.set i x) := by
  have hn : xs.length = n := by
    rcases h.2 with ⟨hv, hz⟩ | ⟨g, cap, cur, hv, _⟩
    · cases hv
    · injection hv with _ e2 _; exact e2.symm
  obtain ⟨r', c', cur, hv, hb, hc, hl, hm, ht, hr⟩ := h.blk (by omega)
  injection hv with e1 e2 e3
  cases e1
  subst e3
  refine ⟨by simp, .inr ⟨r, c, (cur.set i x).toArray, by rw [List.length_set, hn], hr, ?_, by rw [List.length_set]; exact hl, hm, by simp [hc], ?_⟩⟩
  · exact hb.set i x
  · rw [List.length_set, Nat.mul_one]
    show (cur.set i x).take xs.length = _
    rw [List.take_set, ht]
/-- A node more in the last function. -/
theorem Fns.push {us0 : List Value} {L0 : List (List Nd)} {l : List Nd} {x : Nd} {u u' : Value} {W1 : World} {r c : Nat} (h : Fns W C S (.slice (some ⟨r, 0, none⟩) (us0.length + 1) c) (us0 ++ [u]) (L0 ++ [l]))
    (hown : OwnR 4 ndV W1 C 49 u' (l ++ [x])) (hg : W.grownBy W1 u.ownBlock) (hb : ∀ k, u'.ownBlock = some k → u.ownBlock = some k ∨ ((∀ (i : Nat) (y : Value), (us0 ++ [u])[i]? = some y → y.ownBlock ≠ some k) ∧ k ≠ r ∧ ¬ S k)) (hx : x.Ok) :
    Fns (W1.setCell ⟨r, us0.length, none⟩ u') C S (.slice (some ⟨r, 0, none⟩) (us0.length + 1) c) (us0 ++ [u']) (L0 ++ [l ++ [x]]) ∧ Only (fun k => C ≤ k ∧ ¬ S k) W (W1.setCell ⟨r, us0.length, none⟩ u') := by
  have hlen : us0.length = L0.length := by have := h.len; simp at this; exact this
  have hu : (us0 ++ [u])[us0.length]? = some u := by rw [List.getElem?_append_right (Nat.le_refl _), Nat.sub_self]; rfl
  have hl : (L0 ++ [l])[us0.length]? = some l := by rw [hlen, List.getElem?_append_right (Nat.le_refl _), Nat.sub_self]; rfl
  obtain ⟨ho0, hok0⟩ := h.each _ u l hu hl
  have hrl := h.own.block r rfl
  have hur : u.ownBlock ≠ some r := fun e => (h.ne _ u r hu e).1 rfl
  have hur' : u'.ownBlock ≠ some r := fun e => by
    rcases hb r e with h2 | h2
    · exact hur h2
    · exact h2.2.1 rfl
  have hold : ∀ (i : Nat) (y : Value), (us0 ++ [u'])[i]? = some y → (i < us0.length ∧ (us0 ++ [u])[i]? = some y) ∨ (i = us0.length ∧ y = u') := fun i y hy => by
    rcases Nat.lt_or_ge i us0.length with hi | hi
    · rw [List.getElem?_append_left hi] at hy
      exact .inl ⟨hi, by rw [List.getElem?_append_left hi]; exact hy⟩
    · rw [List.getElem?_append_right hi] at hy
      have h0 : i - us0.length = 0 := by
        have := (List.getElem?_eq_some_iff.1 hy).1
        simp at this; exact this
      rw [h0] at hy
      exact .inr ⟨by omega, by simpa using hy.symm⟩
  have hown1 : Own W1 C 47 (.slice (some ⟨r, 0, none⟩) (us0.length + 1) c) (us0 ++ [u]) := h.own.far hg (.inr fun e => hur e.symm)
  have e1 : (us0 ++ [u]).set us0.length u' = us0 ++ [u'] := by rw [List.set_append, if_neg (Nat.lt_irrefl _), Nat.sub_self]; rfl
  refine ⟨⟨?_, by simp [hlen], fun i y m hy hm => ?_, fun i y k hy hk => ?_, fun k hk => h.nv k hk, fun i j y y' k hy hy' hk hk' => ?_, fun k hk => ?_⟩, ?_⟩
  · rw [← e1]
    exact own_set hown1 (by simp)
  · rcases hold i y hy with ⟨hi, h1⟩ | ⟨rfl, rfl⟩
    · have hm2 : (L0 ++ [l])[i]? = some m := by rw [List.getElem?_append_left (by omega)] at hm ⊢; exact hm
      obtain ⟨h2, h3⟩ := h.each i y m h1 hm2
      refine ⟨OwnR.far (OwnR.far h2 hg ?_) (grown_set (g := r) (grown_refl _ _)) ?_, h3⟩
      · cases hb : y.ownBlock with
        | none => exact .inl rfl
        | some k =>
          refine .inr fun e => ?_
          have := h.two i us0.length y u k h1 hu hb e.symm
          omega
      · cases hb : y.ownBlock with
        | none => exact .inl rfl
        | some k => exact .inr fun e => by cases e; exact (h.ne i y r h1 hb).1 rfl
    · rw [hlen, List.getElem?_append_right (Nat.le_refl _), Nat.sub_self] at hm
      have e : l ++ [x] = m := by simpa using hm
      subst e
      refine ⟨hown.far (grown_set (g := r) (grown_refl _ _)) ?_, fun z hz => ?_⟩
      · cases hb : y.ownBlock with
        | none => exact .inl rfl
        | some k => exact .inr fun e => by cases e; exact hur' hb
      · rcases List.mem_append.1 hz with h1 | h1
        · exact hok0 z h1
        · have e : z = x := by simpa using h1
          rw [e]; exact hx
  · rcases hold i y hy with ⟨_, h1⟩ | ⟨rfl, rfl⟩
    · exact h.ne i y k h1 hk
    · rcases hb k hk with h1 | h1
      · exact h.ne _ u k hu h1
      · refine ⟨fun e => ?_, h1.2.2⟩
        have e2 : r = k := by simpa [Value.ownBlock] using e
        exact h1.2.1 e2.symm
  · rcases hold i y hy with ⟨hi, h1⟩ | ⟨rfl, rfl⟩
    · rcases hold j y' hy' with ⟨hj, h2⟩ | ⟨rfl, rfl⟩
      · exact h.two i j y y' k h1 h2 hk hk'
      · rcases hb k hk' with h3 | h3
        · exact h.two i _ y u k h1 hu hk h3
        · exact absurd hk (h3.1 i y h1)
    · rcases hold j y' hy' with ⟨hj, h2⟩ | ⟨rfl, rfl⟩
      · rcases hb k hk with h3 | h3
        · exact h.two _ j u y' k hu h2 h3 hk'
        · exact absurd hk' (h3.1 j y' h2)
      · rfl
  · have := h.lt k hk
    have := hg.size
    simp; omega
  · refine (Only.of_grow hg fun k hk => ⟨(h.blk hu hk).1, (h.ne _ u k hu hk).2⟩).trans (Only.set ⟨hrl.1, h.nv r rfl⟩)
/-- What they are as a program. -/
theorem Fns.pg (h : Fns W C S v us L) {g l s : Int} (hg : I64 g) (hl : I64 l) (hs : I64 s) : ∃ p : Pg, pgA p = .agg #[.int .i64 g, .int .i64 l, .int .i64 s, v] ∧ p.Ok W W.heap.size ∧ p.g = g ∧ p.l = l ∧ p.s = s ∧ p.fns.map (·.nodes) = L := by
  have each : ∀ i, i < us.length → ∃ f : Fn, us[i]? = some (fnV f) ∧ f.Ok W W.heap.size ∧ L[i]? = some f.nodes := by
    intro i hi
    obtain ⟨l, hL, ho, hok⟩ := h.get (List.getElem?_eq_getElem hi)
    obtain ⟨A, cap, e, h1, h2, h3⟩ := ho.form
    refine ⟨⟨A, l.length, cap, l⟩, by rw [List.getElem?_eq_getElem hi, e]; rfl, ⟨⟨h3, hok⟩, h1, h2, fun hn => ?_⟩, hL⟩
    rcases ho.2 with ⟨hv, h0⟩ | ⟨g, c, cur, hv, _⟩
    · rw [e] at hv; injection hv with _ _ e3
    · rw [e] at hv
      injection hv with e1 _ _
      have hn' : A = none := hn
      rw [hn'] at e1; cases e1
  obtain ⟨X, hX⟩ := choose_lt each
  have hus : us = ((List.range us.length).map X).map fnV := by
    apply List.ext_getElem?
    intro i
    rcases Nat.lt_or_ge i us.length with hi | hi
    · rw [(hX i hi).1, List.getElem?_map, List.getElem?_map, List.getElem?_range hi]; rfl
    · rw [List.getElem?_eq_none hi, List.getElem?_eq_none (by simpa using hi)]
  have hown := h.own
  rw [hus] at hown
  obtain ⟨A, cap, rfl, h1, h2, h3⟩ := hown.readsN (n := us.length) (by simp)
  refine ⟨⟨g, l, s, A, us.length, cap, (List.range us.length).map X⟩, rfl, ⟨hg, hl, hs, h3, fun f hf => ?_, h1, h2, fun hn => ?_⟩, rfl, rfl, rfl, ?_⟩
  · obtain ⟨i, hi, rfl⟩ := List.mem_map.1 hf
    exact (hX i (List.mem_range.1 hi)).2.1
  · have hn' : A = none := hn
    subst hn'
    rcases h.own.2 with ⟨hv, h0⟩ | ⟨g, c, cur, hv, _⟩
    · injection hv with _ _ e3
    · cases hv
  · apply List.ext_getElem?
    intro i
    rcases Nat.lt_or_ge i us.length with hi | hi
    · rw [(hX i hi).2.2, List.getElem?_map, List.getElem?_map, List.getElem?_range hi]; rfl
    · rw [List.getElem?_eq_none (by simpa using hi), List.getElem?_eq_none (by rw [← h.len]; exact hi)]
theorem Fns.nil (W : World) (C : Nat) (S : Nat → Prop) (hS : ∀ k, S k → k < W.heap.size) : Fns W C S (.slice none 0 0) [] [] :=
  ⟨Own.nil _ _ _, rfl, by simp, by simp, (fun k hk => by cases hk), by simp, hS⟩
end
end Go.Proofs.YtiojobajcnifpaaDoor

/- append of a struct to a slice that the call made: where there is room, and where there is none. -/
namespace Go.Proofs.YtiojobajcnifpaaDoor
open Go.RowKit

section
variable {P : Program} {ops : Array Oper} {rest : List Oper} {o : Oper} {a : Act} {w : World} {Q : Exit → Act → World → Prop} {α : Type}

theorem blk_news {e : TypeId} {gn : Nat} {vs : List Value} (h : Blk w gn e vs) : ∀ j y, vs[j]? = some y → w.cell? ((⟨gn, 0, none⟩ : Addr).add j) = some y := fun j y hy => by
  have hadd : (⟨gn, 0, none⟩ : Addr).add j = ⟨gn, j, none⟩ := by unfold Addr.add; split <;> simp_all
  rw [hadd, h.cell j]; exact hy
/-- There is room: the same block. -/
theorem wpList_append_room (hgd : o.guard = none) (s x : Operand) (t : TypeId)
    (ho : o.op = .call { callee := .builtin .append, args := #[s, x], argTypes := #[t, t] })
    (B : Nat) (e : TypeId) (sz : Nat) (z : Value) (bytes : Nat) (ht : P.underlying t = some (.slice e)) (hi : (P.info? e).map (fun i => (i.zero, i.size, i.bytes)) = some (some z, sz, bytes)) (hzs : z.cells.size = sz) (hsz : 0 < sz)
    (f : α → Nat → Value) (hone : ∀ x j, (f x j).oneCell' = true)
    (q cap : Nat) (l : List α) (u : α) (hs : a.eval s = .slice (some ⟨q, 0, none⟩) l.length cap) (hown : OwnR sz f w B e (.slice (some ⟨q, 0, none⟩) l.length cap) l) (hroom : l.length + 1 ≤ cap)
    (gn c : Nat) (hx : a.eval x = .slice (some ⟨gn, 0, none⟩) 1 c) (hbk : Blk w gn e ((List.range sz).map (f u))) (hbytes : (l.length + 1) * bytes ≤ 140737488355328)
    (h : ∀ w', OwnR sz f w' B e (.slice (some ⟨q, 0, none⟩) (l.length + 1) cap) (l ++ [u]) → w.grownBy w' (some q) → wpList P ops Q rest (a.put o.dst (.slice (some ⟨q, 0, none⟩) (l.length + 1) cap)) w') : wpList P ops Q (o :: rest) a w := by
  obtain ⟨i, hi0, hzz⟩ := Option.map_eq_some_iff.1 hi
  simp only [Prod.mk.injEq] at hzz
  obtain ⟨hz, hsize, hby⟩ := hzz
  have hone' : ∀ y ∈ (List.range sz).map (f u), y.oneCell' = true := fun y hy => by
    obtain ⟨j, _, rfl⟩ := List.mem_map.1 hy
    exact hone u j
  rcases hown.2 with ⟨hv, _⟩ | ⟨q', cap', cur, hv, hBq, hg, hn, hm, hcs, ht2⟩
  · cases hv
  injection hv with e1 _ e3
  cases e1
  subst e3
  have hlt : q < w.heap.size := (Array.getElem?_eq_some_iff.1 hg).1
  obtain ⟨v', w', hr, h2, h3, _⟩ := run_append_own_at (P := P) w B t o.type e i z sz bytes ht hi0 hz hsize hby hzs hsz _ l.length (cellsR sz f l) hown ⟨gn, 0, none⟩ 1 c ((List.range sz).map (f u)) (by simp) (blk_news hbk) hone'
    (by omega) hbytes (by omega)
  have hr2 := run_append_room (P := P) w t o.type e i ht hi0 q l.length cap cur hg ⟨gn, 0, none⟩ 1 c ((List.range sz).map (f u)) (by rw [hsize]; simp) (blk_news hbk) hone' hroom (by
    rw [hsize, hcs]
    have h9 := Nat.mul_le_mul_right sz hroom
    simp [Nat.add_mul] at h9 ⊢; omega)
  rw [hr] at hr2
  injection hr2 with e1 e2
  subst e1
  refine wpList_plain hgd fun K hK => ?_
  unfold Oper.wp execOp
  simp only [ho, resolve, invoke, builtin, Sem.run_bind, Sem.run_pure, Result.andThen_ok, List.map_toArray, List.map_cons, List.map_nil, hs, hx, hr]
  refine hK _ _ (h w' ?_ h3)
  unfold OwnR
  rw [List.length_append, List.length_singleton, cellsR_app]
  have e1 : cellsR sz f [u] = (List.range sz).map (f u) := by simp [cellsR]
  rw [e1]
  exact h2
/-- There is none: a new block; nothing that stood has turned. -/
theorem wpList_append_full (hgd : o.guard = none) (s x : Operand) (t : TypeId)
    (ho : o.op = .call { callee := .builtin .append, args := #[s, x], argTypes := #[t, t] })
    (B : Nat) (e : TypeId) (sz : Nat) (z : Value) (bytes : Nat) (ht : P.underlying t = some (.slice e)) (hi : (P.info? e).map (fun i => (i.zero, i.size, i.bytes)) = some (some z, sz, bytes)) (hzs : z.cells.size = sz) (hsz : 0 < sz)
    (f : α → Nat → Value) (hone : ∀ x j, (f x j).oneCell' = true)
    (v : Value) (l : List α) (u : α) (hs : a.eval s = v) (hown : OwnR sz f w B e v l) (hfull : v = .slice none 0 0 ∨ ∃ q, v = .slice (some ⟨q, 0, none⟩) l.length l.length)
    (gn c : Nat) (hx : a.eval x = .slice (some ⟨gn, 0, none⟩) 1 c) (hbk : Blk w gn e ((List.range sz).map (f u))) (h63 : l.length + 1 ≤ maxLen) (hbytes : (l.length + 1) * bytes ≤ 140737488355328) (hB : B ≤ w.heap.size)
    (h : ∀ v' w', OwnR sz f w' B e v' (l ++ [u]) → Below w.heap.size w w' → v'.ownBlock = some w.heap.size → wpList P ops Q rest (a.put o.dst v') w') : wpList P ops Q (o :: rest) a w := by
  obtain ⟨i, hi0, hzz⟩ := Option.map_eq_some_iff.1 hi
  simp only [Prod.mk.injEq] at hzz
  obtain ⟨hz, hsize, hby⟩ := hzz
  have hone' : ∀ y ∈ (List.range sz).map (f u), y.oneCell' = true := fun y hy => by
    obtain ⟨j, _, rfl⟩ := List.mem_map.1 hy
    exact hone u j
  obtain ⟨v', w', hr, h2, h3, _, h5⟩ := run_append_own_at (P := P) w B t o.type e i z sz bytes ht hi0 hz hsize hby hzs hsz v l.length (cellsR sz f l) hown ⟨gn, 0, none⟩ 1 c ((List.range sz).map (f u)) (by simp) (blk_news hbk) hone'
    h63 hbytes hB
  have hsm : l.length + 1 ≤ 9223372036854775807 := by unfold maxLen at h63; omega
  have hnew : ∃ cs k, w' = w.drew.alloc (.cells cs e) ∧ v' = .slice (some ⟨w.heap.size, 0, none⟩) (l.length + 1) k := by
    rcases hfull with rfl | ⟨q, rfl⟩
    · have hl0 : l.length = 0 := by
        rcases hown.2 with ⟨_, h0⟩ | ⟨q', cap', cur, hv, _⟩
        · exact h0
        · cases hv
      have hr2 := run_append_nil (P := P) w t o.type e i z ht hi0 hz ⟨gn, 0, none⟩ 1 c ((List.range sz).map (f u)) (by rw [hsize]; simp) (blk_news hbk) (by omega) (by omega) (by rw [hby]; have := hbytes; rw [hl0] at this; omega)
      rw [hr] at hr2
      injection hr2 with e1 e2
      exact ⟨_, _, e2, by rw [e1, hl0]⟩
    · have holds : ∀ j y, (cellsR sz f l)[j]? = some y → w.cell? ((⟨q, 0, none⟩ : Addr).add j) = some y := World.ownsRow.cells hown (g := q) rfl
      have hr2 := run_append_grow (P := P) w t o.type e i z ht hi0 hz ⟨q, 0, none⟩ l.length l.length (cellsR sz f l) (by rw [hsize, cellsR_len]) holds ⟨gn, 0, none⟩ 1 c ((List.range sz).map (f u)) (by rw [hsize]; simp) (blk_news hbk) (by omega) (by omega) (by rw [hby]; exact growslice_fits (by omega) (by omega))
      rw [hr] at hr2
      injection hr2 with e1 e2
      exact ⟨_, _, e2, e1⟩
  obtain ⟨cs, k, rfl, rfl⟩ := hnew
  refine wpList_plain hgd fun K hK => ?_
  unfold Oper.wp execOp
  simp only [ho, resolve, invoke, builtin, Sem.run_bind, Sem.run_pure, Result.andThen_ok, List.map_toArray, List.map_cons, List.map_nil, hs, hx, hr]
  refine hK _ _ (h _ _ ?_ ?_ rfl)
  · unfold OwnR
    rw [List.length_append, List.length_singleton, cellsR_app]
    have e1 : cellsR sz f [u] = (List.range sz).map (f u) := by simp [cellsR]
    rw [e1]
    exact h2
  · exact ⟨rfl, rfl, rfl, by simp, fun k hk => Below.heap_alloc w.drew _ k hk⟩
end
end Go.Proofs.YtiojobajcnifpaaDoor

/- A node more in the last function: what holds on the way of the statement that appends it. -/
namespace Go.Proofs.YtiojobajcnifpaaDoor
open Go.RowKit

theorem tx_node_zero : (Tryd.prog.info? 49).map (·.zero) = some (some (.agg (ndC ⟨0, 0, 0, 0⟩).toArray)) := by kernel_rfl
theorem tx_node_size : (Tryd.prog.info? 49).map (·.size) = some 4 := by kernel_rfl
theorem tx_node_info : (Tryd.prog.info? 49).map (fun i => (i.zero, i.size, i.bytes)) = some (some (.agg (ndC ⟨0, 0, 0, 0⟩).toArray), 4, 32) := by kernel_rfl
theorem tx_node_ones (x : Nd) : ∀ u ∈ ndC x, u.oneCell' = true := by
  intro u hu
  simp only [ndC, List.mem_cons, List.not_mem_nil, or_false] at hu
  rcases hu with rfl | rfl | rfl | rfl <;> rfl
theorem ndV_one (x : Nd) (j : Nat) : (ndV x j).oneCell' = true := by
  unfold ndV; split <;> rfl
theorem ndC_is (x : Nd) : ndC x = (List.range 4).map (ndV x) := rfl

/-- A slice of one node that was just made, in no block of G. -/
def GFact.one (G : Nat → Prop) (x : Nd) : GFact G :=
  ⟨fun v W => ∃ gn, v = .slice (some ⟨gn, 0, none⟩) 1 1 ∧ Blk W gn 49 (ndC x) ∧ ¬ G gn, fun _ _ _ ho ⟨gn, h1, h2, h3⟩ => ⟨gn, h1, ho.blk h2 h3, h3⟩⟩
def Fact.one (x : Nd) : Fact :=
  ⟨fun v W => ∃ gn, v = .slice (some ⟨gn, 0, none⟩) 1 1 ∧ Blk W gn 49 (ndC x), fun _ _ _ hb ⟨gn, h1, h2⟩ => ⟨gn, h1, h2.below hb h2.lt⟩⟩
/-- A slice of nodes that the call made, its block at K or behind it. -/
def Fact.nodes (C K : Nat) (l : List Nd) : Fact :=
  ⟨fun v W => OwnR 4 ndV W C 49 v l ∧ ∀ k, v.ownBlock = some k → K ≤ k, fun _ _ _ hb ⟨h1, h2⟩ => ⟨h1.below hb (Nat.le_refl _), h2⟩⟩

structure PushA (C : Nat) (S : Nat → Prop) (r c : Nat) (us0 : List Value) (u : Value) (L0 : List (List Nd)) (l : List Nd) (w W : World) : Prop where
  fns : Fns W C S (.slice (some ⟨r, 0, none⟩) (us0.length + 1) c) (us0 ++ [u]) (L0 ++ [l])
  only : Only (fun k => C ≤ k ∧ ¬ S k) w W
structure PushB (C : Nat) (S : Nat → Prop) (r c : Nat) (us0 : List Value) (u u' : Value) (L0 : List (List Nd)) (l : List Nd) (x : Nd) (w W : World) : Prop where
  at_ : ∃ W0, PushA C S r c us0 u L0 l w W0 ∧ W0.grownBy W u.ownBlock
  own : OwnR 4 ndV W C 49 u' (l ++ [x])

section
variable {C : Nat} {S : Nat → Prop} {r c : Nat} {us0 : List Value} {u u' : Value} {L0 : List (List Nd)} {l : List Nd} {x : Nd} {w W W' : World}
theorem last_at (us0 : List Value) (u : Value) : (us0 ++ [u])[us0.length]? = some u := by rw [List.getElem?_append_right (Nat.le_refl _), Nat.sub_self]; rfl
theorem PushA.on (h : PushA C S r c us0 u L0 l w W) (hb : Below W.heap.size W W') : PushA C S r c us0 u L0 l w W' := ⟨h.fns.on hb, h.only.trans (Only.of_below hb)⟩
theorem PushA.own (h : PushA C S r c us0 u L0 l w W) : OwnR 4 ndV W C 49 u l := by
  have e : us0.length = L0.length := by have := h.fns.len; simp at this; exact this
  exact (h.fns.each us0.length u l (last_at us0 u) (by rw [e, List.getElem?_append_right (Nat.le_refl _), Nat.sub_self]; rfl)).1
theorem PushA.at_ (h : PushA C S r c us0 u L0 l w W) : W.cell? ⟨r, us0.length, none⟩ = some u ∧ W.frozen? ⟨r, us0.length, none⟩ = false ∧ r < W.heap.size ∧ u.ownBlock ≠ some r := by
  obtain ⟨r', c', hv, h1, h2, _, h3, h4, _⟩ := h.fns.last
  injection hv with e1 _ _
  cases e1
  exact ⟨h1, h2, h3, h4⟩
theorem PushB.place (h : PushB C S r c us0 u u' L0 l x w W) : W.cell? ⟨r, us0.length, none⟩ = some u ∧ W.frozen? ⟨r, us0.length, none⟩ = false := by
  obtain ⟨⟨W0, h1, h2⟩, _⟩ := h
  obtain ⟨a1, a2, a3, a4⟩ := h1.at_
  have hb := h2.block r a3 (Ne.symm a4)
  exact ⟨(World.cell?_of_block (w := W0) hb).trans a1, (World.frozen?_of_block (w := W0) hb).trans a2⟩
theorem PushB.store (h : PushB C S r c us0 u u' L0 l x w W) (hx : x.Ok) (hu : ∀ k, u'.ownBlock = some k → u.ownBlock = some k) :
    PushA C S r c us0 u' L0 (l ++ [x]) w (W.setCell ⟨r, us0.length, none⟩ u') := by
  obtain ⟨⟨W0, h1, h2⟩, h3⟩ := h
  obtain ⟨a1, a2⟩ := h1.fns.push h3 h2 (fun k hk => .inl (hu k hk)) hx
  exact ⟨a1, h1.only.trans a2⟩
theorem PushA.store {W0 : World} (h : PushA C S r c us0 u L0 l w W) (h0 : PushA C S r c us0 u L0 l w W0) (hown : OwnR 4 ndV W C 49 u' (l ++ [x])) (hk : ∀ k, u'.ownBlock = some k → W0.heap.size ≤ k) (hx : x.Ok) :
    PushA C S r c us0 u' L0 (l ++ [x]) w (W.setCell ⟨r, us0.length, none⟩ u') := by
  obtain ⟨a1, a2⟩ := h.fns.push hown (grown_refl _ _) (fun k hk' => .inr ⟨fun i y hy e => by
    have := (h0.fns.blk hy e).2
    have := hk k hk'
    omega, by
    have := h0.at_.2.2.1
    have := hk k hk'
    omega, fun hs => by
    have := h0.fns.lt k hs
    have := hk k hk'
    omega⟩) hx
  exact ⟨a1, h.only.trans a2⟩
/-- Is there room for one more? -/
theorem PushA.room (h : PushA C S r c us0 u L0 l w W) : (∃ q cap, u = .slice (some ⟨q, 0, none⟩) l.length cap ∧ l.length + 1 ≤ cap ∧ cap ≤ maxLen) ∨ (u = .slice none 0 0 ∨ ∃ q, u = .slice (some ⟨q, 0, none⟩) l.length l.length) := by
  rcases h.own.2 with ⟨hv, _⟩ | ⟨q, cap, cur, hv, _, _, hn, hm, _⟩
  · exact .inr (.inl hv)
  · by_cases hr : l.length + 1 ≤ cap
    · exact .inl ⟨q, cap, hv, hr, hm⟩
    · have : cap = l.length := by omega
      rw [this] at hv
      exact .inr (.inr ⟨q, hv⟩)
end
end Go.Proofs.YtiojobajcnifpaaDoor
