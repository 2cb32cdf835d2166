/- Owns, PcodeRef1, Full, in one text. -/
import Derived.Test.YtdnhfpphjpnklaaDoorPk1
import Derived.Test.YtdnhfpphjpnklaaDoorPk8
import Derived.Test.YtdnhfpphjpnklaaDoorProgRef5
import Derived.Test.YtdnhfpphjpnklaaDoorBase
import Derived.Maps.AppendAt
/- Slices of structs of one-cell fields that the call made, grown by append. -/
namespace Go.Proofs.YtdnhfpphjpnklaaDoor
open Go.RowKit

/-- The cells of such elements, one behind the other. -/
def cellsR {α : Type} (sz : Nat) (f : α → Nat → Value) (l : List α) : List Value := l.flatMap fun x => (List.range sz).map (f x)
theorem cellsR_len {α : Type} (sz : Nat) (f : α → Nat → Value) : ∀ l : List α, (cellsR sz f l).length = l.length * sz
  | [] => by simp [cellsR]
  | x :: l => by
    have ih := cellsR_len sz f l
    unfold cellsR at ih ⊢
    rw [List.flatMap_cons, List.length_append, ih, List.length_map, List.length_range, List.length_cons, Nat.add_mul]; omega
theorem cellsR_app {α : Type} (sz : Nat) (f : α → Nat → Value) (l l' : List α) : cellsR sz f (l ++ l') = cellsR sz f l ++ cellsR sz f l' := by unfold cellsR; rw [List.flatMap_append]
theorem cellsR_at {α : Type} (sz : Nat) (f : α → Nat → Value) : ∀ (l : List α) (k j : Nat) (x : α), l[k]? = some x → j < sz → (cellsR sz f l)[k * sz + j]? = some (f x j)
  | [], k, j, x, h, _ => by simp at h
  | y :: l, 0, j, x, h, hj => by
    have e : y = x := by simpa using h
    subst e
    unfold cellsR
    rw [List.flatMap_cons, Nat.zero_mul, Nat.zero_add, List.getElem?_append_left (by simpa using hj), List.getElem?_map, List.getElem?_range hj]; rfl
  | y :: l, k + 1, j, x, h, hj => by
    have ih := cellsR_at sz f l k j x (by simpa using h) hj
    unfold cellsR at ih ⊢
    rw [List.flatMap_cons, List.getElem?_append_right (by simp [Nat.add_mul]; omega), List.length_map, List.length_range, show (k + 1) * sz + j - sz = k * sz + j by rw [Nat.add_mul]; omega]
    exact ih
/-- The value v is a slice that was made since block B, its elements (of type e, sz cells each) are l. -/
def OwnR {α : Type} (sz : Nat) (f : α → Nat → Value) (w : World) (B : Nat) (e : TypeId) (v : Value) (l : List α) : Prop := w.ownsRow B e sz v l.length (cellsR sz f l)

section
variable {α : Type} {sz : Nat} {f : α → Nat → Value} {w w' : World} {B : Nat} {e : TypeId} {v : Value} {l : List α}
theorem OwnR.nil (sz : Nat) (f : α → Nat → Value) (w : World) (B : Nat) (e : TypeId) : OwnR sz f w B e (.slice none 0 0) [] := World.ownsRow_nil w B e sz
theorem OwnR.block (h : OwnR sz f w B e v l) : ∀ k, v.ownBlock = some k → B ≤ k ∧ k < w.heap.size := World.ownsRow.lt h
theorem OwnR.far {row : Option Nat} (h : OwnR sz f w B e v l) (hg : w.grownBy w' row) (hne : v.ownBlock = none ∨ v.ownBlock ≠ row) : OwnR sz f w' B e v l := World.ownsRow.kept h hg hne
theorem OwnR.below {C : Nat} (h : OwnR sz f w B e v l) (hb : Below C w w') (hC : w.heap.size ≤ C) : OwnR sz f w' B e v l := by
  refine h.far (row := none) ⟨hb.os, hb.tape, hb.output, hb.size, fun i hi _ => hb.block i (by omega)⟩ ?_
  cases hv : v.ownBlock with
  | none => exact .inl rfl
  | some k => exact .inr (by simp)
theorem OwnR.form (h : OwnR sz f w B e v l) : ∃ A cap, v = .slice A l.length cap ∧ l.length ≤ cap ∧ cap ≤ maxLen ∧ Recs sz f w w.heap.size A l.length l := by
  rcases h.2 with ⟨hv, h0⟩ | ⟨g, cap, cur, hv, hB, hg, hn, hm, hs, ht⟩
  · refine ⟨none, 0, by rw [h0]; exact hv, by omega, by simp [maxLen], ⟨rfl, fun hn => by omega⟩⟩
  · refine ⟨_, cap, hv, hn, hm, ⟨rfl, fun _ => ⟨_, rfl, ?_, fun k x hx j hj => ?_⟩⟩⟩
    · exact (World.ownsRow.lt h g (by rw [hv]; rfl)).2
    · exact World.ownsRow.cells h (g := g) (by rw [hv]; rfl) _ _ (cellsR_at sz f l k j x hx hj)
end

/-- append of one element, which was laid in a block of its own just before. -/
theorem wpList_append_rec {P : Program} {ops : Array Oper} {rest : List Oper} {o : Oper} {a : Act} {Q : Exit → Act → World → Prop} (hgd : o.guard = none) (s x : Operand) (t : TypeId)
    (ho : o.op = .call { callee := .builtin .append, args := #[s, x], argTypes := #[t, t] })
    (B : Nat) (e : TypeId) (sz : Nat) (z : Value) (bytes : Nat) (ht : P.underlying t = some (.slice e)) (hi : (P.info? e).map (fun i => (i.zero, i.size, i.bytes)) = some (some z, sz, bytes)) (hzs : z.cells.size = sz) (hsz : 0 < sz)
    {α : Type} (f : α → Nat → Value) (hone : ∀ x j, (f x j).oneCell' = true)
    (w : World) (v : Value) (l : List α) (u : α) (hs : a.eval s = v) (hown : OwnR sz f w B e v l) (ad : Addr) (c : Nat) (hx : a.eval x = .slice (some ad) 1 c) (had : ad = ⟨w.heap.size, 0, none⟩)
    (cs : Array Value) (hcs : cs = ((List.range sz).map (f u)).toArray) (h63 : l.length + 1 ≤ maxLen) (hbytes : (l.length + 1) * bytes ≤ 140737488355328) (hB : B ≤ w.heap.size)
    (h : ∀ v' w', OwnR sz f w' B e v' (l ++ [u]) → Grew w w' v v' → wpList P ops Q rest (a.put o.dst v') w') : wpList P ops Q (o :: rest) a (w.alloc (.cells cs e)) := by
  subst had
  subst hcs
  obtain ⟨i, hi0, hzz⟩ := Option.map_eq_some_iff.1 hi
  simp only [Prod.mk.injEq] at hzz
  obtain ⟨hz, hsize, hby⟩ := hzz
  have hnb := Blk.new w e ((List.range sz).map (f u))
  refine wpList_append_lies _ hgd s x t ho B e i z sz bytes ht hi0 hz hsize hby hzs hsz v l.length (cellsR sz f l) hs (World.ownsRow.alloc hown _) _ 1 c ((List.range sz).map (f u)) hx (by simp)
    (fun j y hy => by
      have hadd : (⟨w.heap.size, 0, none⟩ : Addr).add j = ⟨w.heap.size, j, none⟩ := by unfold Addr.add; split <;> simp_all
      rw [hadd, hnb.cell j]; exact hy)
    (fun y hy => by
      obtain ⟨j, _, rfl⟩ := List.mem_map.1 hy
      exact hone u j)
    (by omega) h63 hbytes (by simp; omega) _ rfl ?_
  intro g cap w' h2 h3 h4 h5
  refine h _ w' ?_ ⟨grown_alloc _ _ _ h3, ?_⟩
  rotate_left
  · rcases h4 with h4 | h4
    · exact .inl h4.symm
    · refine .inr fun k hk => ?_
      have : g = k := by simpa [Value.ownBlock] using hk
      subst this
      rw [h4]; simp
  unfold OwnR
  rw [List.length_append, List.length_singleton, cellsR_app]
  have e1 : cellsR sz f [u] = (List.range sz).map (f u) := by simp [cellsR]
  rw [e1]
  exact h2
end Go.Proofs.YtdnhfpphjpnklaaDoor

/- What is told of a kind, as the document has it, walked: told. -/
namespace Go.Proofs.YtdnhfpphjpnklaaDoor
open Go.RowKit

/-- The letters of what is told of a kind. -/
def tlS (k : Int) : ByteArray := if k = 0 then ⟨#[110]⟩ else if k = 5 then ⟨#[97, 110, 120]⟩ else if k = 8 then ⟨#[110, 120]⟩ else if k = 9 then ⟨#[]⟩ else ⟨#[97, 110]⟩
def letterOf (j : Nat) : Nat := if j = 0 then 97 else if j = 1 then 110 else 120
theorem tl_cases (k : Int) : (k = 0) ∨ (k = 5) ∨ (k = 8) ∨ (k = 9) ∨ (k ≠ 0 ∧ k ≠ 5 ∧ k ≠ 8 ∧ k ≠ 9) := by omega
theorem tlS_is (k : Int) : (tlS k, C.tl k) = ((⟨#[110]⟩ : ByteArray), [1]) ∨ (tlS k, C.tl k) = ((⟨#[97, 110, 120]⟩ : ByteArray), [0, 1, 2]) ∨ (tlS k, C.tl k) = ((⟨#[110, 120]⟩ : ByteArray), [1, 2]) ∨ (tlS k, C.tl k) = ((⟨#[]⟩ : ByteArray), []) ∨ (tlS k, C.tl k) = ((⟨#[97, 110]⟩ : ByteArray), [0, 1]) := by
  unfold tlS C.tl
  rcases tl_cases k with h | h | h | h | ⟨h0, h5, h8, h9⟩
  · subst h; exact .inl rfl
  · subst h; exact .inr (.inl rfl)
  · subst h; exact .inr (.inr (.inl rfl))
  · subst h; exact .inr (.inr (.inr (.inl rfl)))
  · rw [if_neg h0, if_neg h5, if_neg h8, if_neg h9, if_neg h0, if_neg h5, if_neg h8, if_neg h9]
    exact .inr (.inr (.inr (.inr rfl)))
theorem tlS_size (k : Int) : (tlS k).size = (C.tl k).length := by
  rcases tlS_is k with h | h | h | h | h <;> (obtain ⟨h1, h2⟩ := Prod.mk.inj h; rw [h1, h2]; rfl)
theorem tlS_at (k : Int) {i j : Nat} (hj : (C.tl k)[i]? = some j) (hs : i < (tlS k).size) : (tlS k)[i].toNat = letterOf j := by
  have key : ∀ (s : ByteArray) (l : List Nat), (s, l) = ((⟨#[110]⟩ : ByteArray), [1]) ∨ (s, l) = ((⟨#[97, 110, 120]⟩ : ByteArray), [0, 1, 2]) ∨ (s, l) = ((⟨#[110, 120]⟩ : ByteArray), [1, 2]) ∨ (s, l) = ((⟨#[]⟩ : ByteArray), []) ∨ (s, l) = ((⟨#[97, 110]⟩ : ByteArray), [0, 1]) →
      l[i]? = some j → ∀ (hs : i < s.size), s[i].toNat = letterOf j := by
    intro s l h hj hs
    have h3 : ∀ a b : Nat, l.length = a → i < a := fun a _ ha => by rw [← ha]; exact (List.getElem?_eq_some_iff.1 hj).1
    rcases h with h | h | h | h | h <;> (obtain ⟨rfl, rfl⟩ := Prod.mk.inj h)
    · have : i = 0 := by have := h3 1 0 rfl; omega
      subst this; simp at hj; subst hj; rfl
    · have : i = 0 ∨ i = 1 ∨ i = 2 := by have := h3 3 0 rfl; omega
      rcases this with rfl | rfl | rfl <;> (simp at hj; subst hj; rfl)
    · have : i = 0 ∨ i = 1 := by have := h3 2 0 rfl; omega
      rcases this with rfl | rfl <;> (simp at hj; subst hj; rfl)
    · simp at hj
    · have : i = 0 ∨ i = 1 := by have := h3 2 0 rfl; omega
      rcases this with rfl | rfl <;> (simp at hj; subst hj; rfl)
  exact key _ _ (tlS_is k) hj hs

set_option maxRecDepth 100000 in
set_option maxHeartbeats 800000 in
theorem ref_told (k : Int) (s : ByteArray) (hs : tlS k = s) (w : World) : Calls Tryd.prog 21 #[.int .i64 k] w fun e w' => e = .returned (.string s) ∧ w = w' := by
  have HS := kp hs
  clear hs
  rcases tl_cases k with h | h | h | h | ⟨h0, h5, h8, h9⟩
  · subst h
    go_enter Tryd.func21, Tryd.ntmps21
    go_wp2
    go_ret
    exact ⟨congrArg (fun u => Ending.returned (Value.string u)) HS.out, rfl⟩
  · subst h
    go_enter Tryd.func21, Tryd.ntmps21
    go_wp2
    go_ret
    exact ⟨congrArg (fun u => Ending.returned (Value.string u)) HS.out, rfl⟩
  · subst h
    go_enter Tryd.func21, Tryd.ntmps21
    go_wp2
    go_ret
    exact ⟨congrArg (fun u => Ending.returned (Value.string u)) HS.out, rfl⟩
  · subst h
    go_enter Tryd.func21, Tryd.ntmps21
    go_wp2
    go_ret
    exact ⟨congrArg (fun u => Ending.returned (Value.string u)) HS.out, rfl⟩
  · have hz0 : (k == 0) = false := by rw [beq_eq_false_iff_ne]; exact h0
    have hz5 : (k == 5) = false := by rw [beq_eq_false_iff_ne]; exact h5
    have hz8 : (k == 8) = false := by rw [beq_eq_false_iff_ne]; exact h8
    have hz9 : (k == 9) = false := by rw [beq_eq_false_iff_ne]; exact h9
    have HE : Kept (⟨#[97, 110]⟩ = s) := kp (by rw [← HS.out]; unfold tlS; rw [if_neg h0, if_neg h5, if_neg h8, if_neg h9])
    clear h0 h5 h8 h9
    go_enter Tryd.func21, Tryd.ntmps21
    go_wp2
    go_ret
    exact ⟨congrArg (fun u => Ending.returned (Value.string u)) HE.out, rfl⟩
end Go.Proofs.YtdnhfpphjpnklaaDoor

/- append to a slice that has no room, whoever laid it: a new row. -/
namespace Go.Proofs.YtdnhfpphjpnklaaDoor
open Go.RowKit

theorem wpList_append_full {P : Program} {ops : Array Oper} {rest : List Oper} {o : Oper} {a : Act} {Q : Exit → Act → World → Prop} (hgd : o.guard = none) (s x : Operand) (t : TypeId)
    (ho : o.op = .call { callee := .builtin .append, args := #[s, x], argTypes := #[t, t] })
    (B : Nat) (e : TypeId) (z : Value) (bytes : Nat) (ht : P.underlying t = some (.slice e)) (hi : (P.info? e).map (fun i => (i.zero, i.size, i.bytes)) = some (some z, 1, bytes)) (hzs : z.cells.size = 1)
    (w : World) (ad0 : Addr) (n C : Nat) (olds : List Value) (hs : a.eval s = .slice (some ad0) n n) (hold : Row (fun u => u) w C (some ad0) n olds)
    (A : Option Addr) (m c C' : Nat) (news : List Value) (hx : a.eval x = .slice A m c) (hr : Row (fun u => u) w C' A m news) (hm : 0 < m)
    (h63 : n + m ≤ maxLen) (hbytes : (n + m) * bytes ≤ 140737488355328) (hB : B ≤ w.heap.size)
    (h : ∀ v' w', Own w' B e v' (olds ++ news) → Below w.heap.size w w' → wpList P ops Q rest (a.put o.dst v') w') : wpList P ops Q (o :: rest) a w := by
  obtain ⟨i, hi0, hz, hsize, hby⟩ := info_parts hi
  obtain ⟨ad, rfl, _, hc⟩ := hr.cells hm
  have hnews : ∀ j u, news[j]? = some u → w.cell? (ad.add j) = some u := fun j u hu => by
    have hj : j < m := by have := (List.getElem?_eq_some_iff.1 hu).1; rw [hr.len] at this; exact this
    rw [hc j hj, hu]; rfl
  have holds : ∀ j u, olds[j]? = some u → w.cell? (ad0.add j) = some u := fun j u hu => by
    have hj : j < n := by have := (List.getElem?_eq_some_iff.1 hu).1; rw [hold.len] at this; exact this
    obtain ⟨ad1, e1, _, hc1⟩ := hold.cells (by omega)
    cases e1
    rw [hc1 j hj, hu]; rfl
  have hl : news.length = m * i.size := by rw [hr.len, hsize, Nat.mul_one]
  have ho2 : olds.length = n * i.size := by rw [hold.len, hsize, Nat.mul_one]
  have hlen : (olds ++ news).length = (n + m) * i.size := by rw [List.length_append, ho2, hl, Nat.add_mul]
  have hsmall : n + m ≤ 9223372036854775807 := by simp only [maxLen] at h63; omega
  have hrun := run_append_grow (P := P) w t o.type e i z ht hi0 hz ad0 n n olds ho2 holds ad m c news hl hnews (by omega) (by omega) (growslice_fits (by omega) (by rw [hby]; exact hbytes))
  have hge := grownCap_ge w (n + m) n e
  have hcm : grownCap w (n + m) n e ≤ maxLen := grownCap_le_maxLen w (n + m) n e h63
  refine wpList_plain hgd fun K hK => ?_
  unfold Oper.wp execOp
  simp only [ho, resolve, invoke, builtin, Sem.run_bind, Sem.run_pure, Result.andThen_ok, List.map_toArray, List.map_cons, List.map_nil, hs, hx, hrun]
  have hlen' : (olds ++ news).length = n + m := by rw [hlen, hsize, Nat.mul_one]
  refine hK _ _ (h _ _ ?_ ⟨rfl, rfl, rfl, by simp, fun k hk => Below.heap_alloc w.drew _ k hk⟩)
  unfold Own
  rw [hlen']
  refine ⟨by rw [hlen', Nat.mul_one], .inr ⟨w.heap.size, grownCap w (n + m) n e, _, rfl, hB, heap_alloc_new w.drew _, hge, hcm, ?_, ?_⟩⟩
  · simp only [Array.size_append, List.size_toArray, size_zeroCells, hzs, ho2, hl, hsize, Nat.mul_one]
    omega
  · rw [Nat.mul_one]
    simp only [Array.toList_append, List.append_assoc]
    rw [← List.append_assoc, ← hlen']
    exact List.take_left
end Go.Proofs.YtdnhfpphjpnklaaDoor
