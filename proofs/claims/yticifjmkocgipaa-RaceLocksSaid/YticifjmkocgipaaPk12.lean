/- SemMath2, Owns, Slice, in one text. -/
import Derived.Test.YticifjmkocgipaaPk11
import Derived.Test.YticifjmkocgipaaPk2
import Derived.Test.YticifjmkocgipaaPk1
import Derived.Test.YticifjmkocgipaaPk5
import Derived.Laws.Slices
/- Steps of the interpreter: what they leave as it is, on plain data. Nothing here speaks of the program. -/
namespace Go.Proofs.Yticifjmkocgipaa.M

theorem act_th {c : Cf} {t : Nat} {n : Nd} {way : Bool} {u : Nat} (hu : u < c.ths.length) (hne : u ≠ t) : (act c t n way).ths[u]? = c.ths[u]? := by
  have h1 : ∀ x : Th, (c.ths.set t x)[u]? = c.ths[u]? := fun x => List.getElem?_set_ne (fun e => hne e.symm)
  unfold act
  repeat' split
  all_goals first
    | exact h1 _
    | (rw [List.getElem?_append_left (by rw [List.length_set]; exact hu)]; exact h1 _)
theorem act_len {c : Cf} {t : Nat} {n : Nd} {way : Bool} : (act c t n way).ths.length = if n.kind = 5 then c.ths.length + 1 else c.ths.length := by
  unfold act
  by_cases k9 : n.kind = 9
  · rw [if_pos k9, if_neg (show ¬ n.kind = 5 by omega)]; simp
  rw [if_neg k9]
  by_cases k3 : n.kind = 3
  · rw [if_pos k3, if_neg (show ¬ n.kind = 5 by omega)]; simp
  rw [if_neg k3]
  by_cases k4 : n.kind = 4
  · rw [if_pos k4, if_neg (show ¬ n.kind = 5 by omega)]; simp
  rw [if_neg k4]
  by_cases k5 : n.kind = 5
  · rw [if_pos k5, if_pos k5]; simp
  rw [if_neg k5, if_neg k5]
  split
  · simp
  · split <;> simp
theorem step_len (p : Pg) (c : Cf) (t : Int) (way : Bool) : c.ths.length ≤ (step p c t way).ths.length := by
  unfold step
  split
  · rw [act_len]; split <;> omega
  · exact Nat.le_refl _
theorem enabled_split {p : Pg} {c : Cf} {t : Int} (h : enabled p c t = true) : 0 ≤ t ∧ enabledN p c t.toNat = true := by
  unfold enabled at h
  rw [Bool.and_eq_true, decide_eq_true_eq] at h
  exact h
theorem step_th {p : Pg} {c : Cf} {t : Int} {way : Bool} {u : Nat} (hu : u < c.ths.length) (hne : (u : Int) ≠ t) : (step p c t way).ths[u]? = c.ths[u]? := by
  unfold step
  split
  · rename_i h
    have := (enabled_split h).1
    exact act_th hu (by omega)
  · rfl
theorem step_same {p : Pg} {c : Cf} {t : Int} {way : Bool} (h : enabled p c t = false) : step p c t way = c := by
  unfold step; rw [h]; rfl
theorem lives_nat (c : Cf) (u : Nat) : lives c (u : Int) = livesN c u := by simp [lives]
/-- Who ended stays so. -/
theorem step_ended {p : Pg} {c : Cf} {t : Int} {way : Bool} {u : Nat} (hu : u < c.ths.length) (h : lives c u = false) : lives (step p c t way) u = false := by
  by_cases hne : (u : Int) = t
  · subst hne
    rw [step_same]
    · exact h
    · cases he : enabled p c (u : Int) with
      | false => rfl
      | true =>
        have h2 := enabled_lives (enabled_split he).2
        rw [Int.toNat_natCast] at h2
        rw [lives_nat, h2] at h
        cases h
  · rw [lives_nat] at h ⊢
    unfold livesN th at h ⊢
    rw [List.getD_eq_getElem?_getD, step_th hu hne, ← List.getD_eq_getElem?_getD]; exact h
theorem act_owner {p : Pg} {c : Cf} {t : Nat} {way : Bool} (he : enabledN p c t = true) (k v : Nat) (hv : v ≠ 0) :
    ((act c t (node p c t) way).owners.getD k 0 = v ↔ c.owners.getD k 0 = v) ∨ (v = t + 1 ∧ (((node p c t).kind = 3 ∧ c.owners.getD k 0 ≠ v) ∨ ((node p c t).kind = 4 ∧ c.owners.getD k 0 = v))) := by
  obtain ⟨n, hn⟩ : ∃ n, node p c t = n := ⟨_, rfl⟩
  have key : ∀ (a v2 : Nat), (c.owners.set a v2).getD k 0 = if a = k ∧ k < c.owners.length then v2 else c.owners.getD k 0 := fun a v2 => by
    rw [List.getD_eq_getElem?_getD, List.getElem?_set, List.getD_eq_getElem?_getD]
    by_cases e : a = k
    · subst e
      by_cases hl : a < c.owners.length
      · rw [if_pos rfl, if_pos hl, if_pos ⟨rfl, hl⟩]; rfl
      · rw [if_pos rfl, if_neg hl, if_neg (fun h => hl h.2), List.getElem?_eq_none (by omega)]
    · rw [if_neg e, if_neg (fun h => e h.1)]
  rw [hn]
  unfold act
  by_cases k9 : n.kind = 9
  · rw [if_pos k9]; exact .inl Iff.rfl
  rw [if_neg k9]
  by_cases k3 : n.kind = 3
  · rw [if_pos k3]
    show ((c.owners.set n.arg.toNat (t + 1)).getD k 0 = v ↔ _) ∨ _
    rw [key]
    have h0 : c.owners.getD n.arg.toNat 0 = 0 := by
      unfold enabledN at he
      rw [hn, if_pos k3] at he
      rw [Bool.and_eq_true, decide_eq_true_eq] at he
      exact he.2
    by_cases e : n.arg.toNat = k ∧ k < c.owners.length
    · rw [if_pos e]
      by_cases hv2 : v = t + 1
      · right
        refine ⟨hv2, .inl ⟨k3, ?_⟩⟩
        rw [← e.1, h0]; omega
      · left
        rw [← e.1, h0]
        exact ⟨fun h => absurd h.symm hv2, fun h => absurd h.symm hv⟩
    · rw [if_neg e]; exact .inl Iff.rfl
  rw [if_neg k3]
  by_cases k4 : n.kind = 4
  · rw [if_pos k4]
    show ((if c.owners.getD n.arg.toNat 0 = t + 1 then c.owners.set n.arg.toNat 0 else c.owners).getD k 0 = v ↔ _) ∨ _
    by_cases h1 : c.owners.getD n.arg.toNat 0 = t + 1
    · rw [if_pos h1, key]
      by_cases e : n.arg.toNat = k ∧ k < c.owners.length
      · rw [if_pos e]
        by_cases hv2 : v = t + 1
        · right
          exact ⟨hv2, .inr ⟨k4, by rw [← e.1, h1, hv2]⟩⟩
        · left
          rw [← e.1, h1]
          exact ⟨fun h => absurd h.symm hv, fun h => absurd h.symm hv2⟩
      · rw [if_neg e]; exact .inl Iff.rfl
    · rw [if_neg h1]; exact .inl Iff.rfl
  rw [if_neg k4]
  left
  by_cases k5 : n.kind = 5
  · rw [if_pos k5]
  rw [if_neg k5]
  by_cases k7 : n.kind = 7
  · rw [if_pos k7]
  rw [if_neg k7]
  by_cases k8 : n.kind = 8 ∧ way = true
  · rw [if_pos k8]
  · rw [if_neg k8]
theorem held_congr {o o2 : List Nat} {t : Nat} (h : ∀ k, o.getD k 0 = t + 1 ↔ o2.getD k 0 = t + 1) : ∀ n, heldTo o t n = heldTo o2 t n
  | 0 => rfl
  | n + 1 => by
    unfold heldTo
    rw [held_congr h n]
    by_cases e : o.getD n 0 = t + 1
    · rw [if_pos e, if_pos ((h n).1 e)]
    · rw [if_neg e, if_neg (fun x => e ((h n).2 x))]
/-- What another thread has. -/
theorem step_held {p : Pg} {c : Cf} {t : Int} {way : Bool} {u : Nat} (hne : (u : Int) ≠ t) : heldTo (step p c t way).owners u 16 = heldTo c.owners u 16 := by
  unfold step
  split
  · rename_i h
    obtain ⟨h0, h1⟩ := enabled_split h
    refine held_congr (fun k => ?_) 16
    rcases act_owner (way := way) h1 k (u + 1) (by omega) with h2 | ⟨h2, _⟩
    · exact h2
    · omega
  · rfl
/-- What a thread has grows by its own Lock alone. -/
theorem step_more {p : Pg} {c : Cf} {t : Int} {way : Bool} {u k : Nat} (h : (heldTo (step p c t way).owners u 16).testBit k = true) (hn : (heldTo c.owners u 16).testBit k = false) :
    (u : Int) = t ∧ livesN c u = true ∧ (node p c u).kind = 3 := by
  rw [held_bit, decide_eq_true_eq] at h
  rw [held_bit, decide_eq_false_iff_not] at hn
  unfold step at h
  split at h
  · rename_i he
    obtain ⟨h0, h1⟩ := enabled_split he
    rcases act_owner (way := way) h1 k (u + 1) (by omega) with h2 | ⟨h2, h3⟩
    · exact absurd ⟨h.1, h2.1 h.2⟩ hn
    · have e : t.toNat = u := by omega
      rw [e] at h1 h3
      rcases h3 with ⟨h3, _⟩ | ⟨_, h3⟩
      · exact ⟨by omega, enabled_lives h1, h3⟩
      · exact absurd ⟨h.1, h3⟩ hn
  · exact absurd h hn
/-- .. and shrinks by its own Unlock alone. -/
theorem step_less {p : Pg} {c : Cf} {t : Int} {way : Bool} {u k : Nat} (h : (heldTo c.owners u 16).testBit k = true) (hn : (heldTo (step p c t way).owners u 16).testBit k = false) :
    (u : Int) = t ∧ livesN c u = true ∧ (node p c u).kind = 4 := by
  rw [held_bit, decide_eq_true_eq] at h
  rw [held_bit, decide_eq_false_iff_not] at hn
  unfold step at hn
  split at hn
  · rename_i he
    obtain ⟨h0, h1⟩ := enabled_split he
    rcases act_owner (way := way) h1 k (u + 1) (by omega) with h2 | ⟨h2, h3⟩
    · exact absurd ⟨h.1, h2.2 h.2⟩ hn
    · have e : t.toNat = u := by omega
      rw [e] at h1 h3
      rcases h3 with ⟨_, h3⟩ | ⟨h3, _⟩
      · exact absurd h.2 h3
      · exact ⟨by omega, enabled_lives h1, h3⟩
  · exact absurd h hn
/-- There is a thread more by a Spawn alone. -/
theorem step_spawn {p : Pg} {c : Cf} {t : Int} {way : Bool} (h : (step p c t way).ths.length ≠ c.ths.length) : 0 ≤ t ∧ livesN c t.toNat = true ∧ (node p c t.toNat).kind = 5 ∧ (step p c t way).ths.length = c.ths.length + 1 := by
  unfold step at h ⊢
  split at h
  · rename_i he
    obtain ⟨h0, h1⟩ := enabled_split he
    rw [if_pos he, act_len]
    rw [act_len] at h
    by_cases k5 : (node p c t.toNat).kind = 5
    · rw [if_pos k5]; exact ⟨h0, enabled_lives h1, k5, rfl⟩
    · rw [if_neg k5] at h; exact absurd rfl h
  · exact absurd rfl h
/-- Which way a pick goes counts at a Branch alone. -/
theorem step_way {p : Pg} {c : Cf} {t : Nat} (h : ¬ (livesN c t = true ∧ (node p c t).kind = 8 ∧ (node p c t).next ≠ (node p c t).alt)) : step p c t false = step p c t true := by
  unfold step
  split
  · rename_i he
    obtain ⟨h0, h1⟩ := enabled_split he
    rw [Int.toNat_natCast] at h1 ⊢
    have hl := enabled_lives h1
    obtain ⟨n, hn⟩ : ∃ n, node p c t = n := ⟨_, rfl⟩
    rw [hn] at h ⊢
    unfold act
    by_cases k8 : n.kind = 8
    · have e : n.next = n.alt := by
        by_cases e : n.next = n.alt
        · exact e
        · exact absurd ⟨hl, k8, e⟩ h
      have n9 : ¬ n.kind = 9 := by omega
      have n3 : ¬ n.kind = 3 := by omega
      have n4 : ¬ n.kind = 4 := by omega
      have n5 : ¬ n.kind = 5 := by omega
      have n7 : ¬ n.kind = 7 := by omega
      have key : ∀ b : Bool, (if n.kind = 8 ∧ b = true then (⟨c.ths.set t ⟨goOn (th c t).stack n.alt.toNat, (th c t).slots⟩, c.owners⟩ : Cf) else ⟨c.ths.set t ⟨goOn (th c t).stack n.next.toNat, (th c t).slots⟩, c.owners⟩) = ⟨c.ths.set t ⟨goOn (th c t).stack n.alt.toNat, (th c t).slots⟩, c.owners⟩ := fun b => by
        rw [e]; exact ite_self _
      rw [if_neg n9, if_neg n3, if_neg n4, if_neg n5, if_neg n7, if_neg n9, if_neg n3, if_neg n4, if_neg n5, if_neg n7, key false, key true]
    · have key : ∀ b : Bool, (if n.kind = 8 ∧ b = true then (⟨c.ths.set t ⟨goOn (th c t).stack n.alt.toNat, (th c t).slots⟩, c.owners⟩ : Cf) else ⟨c.ths.set t ⟨goOn (th c t).stack n.next.toNat, (th c t).slots⟩, c.owners⟩) = ⟨c.ths.set t ⟨goOn (th c t).stack n.next.toNat, (th c t).slots⟩, c.owners⟩ := fun b => if_neg fun h => k8 h.1
      rw [key false, key true]
  · rfl
/-- The masks of the first threads are apart from the next one's. -/
theorem held_apart {o : List Nat} {t m : Nat} (h : ∀ k, m.testBit k = true → o.getD k 0 ≤ t) : m &&& heldTo o t 16 = 0 := by
  apply Nat.eq_of_testBit_eq
  intro k
  rw [Nat.testBit_and, held_bit, Nat.zero_testBit]
  cases hm : m.testBit k with
  | false => rfl
  | true =>
    have := h k hm
    rw [decide_eq_false (by omega)]; rfl
theorem held_join {o : List Nat} {t m : Nat} (h : ∀ k, m.testBit k = true → o.getD k 0 ≤ t) : ∀ k, (m ||| heldTo o t 16).testBit k = true → o.getD k 0 ≤ t + 1 := by
  intro k hk
  rw [Nat.testBit_or, Bool.or_eq_true, held_bit, decide_eq_true_eq] at hk
  rcases hk with hk | hk
  · have := h k hk; omega
  · omega
end Go.Proofs.Yticifjmkocgipaa.M

/- Slices of structs of one-cell fields that the call made, grown by append. -/
namespace Go.Proofs.Yticifjmkocgipaa
open Go.RowKit

/-- The cells of such elements, one behind the other. -/
def cellsR {α : Type} (sz : Nat) (f : α → Nat → Value) (l : List α) : List Value := l.flatMap fun x => (List.range sz).map (f x)
theorem cellsR_len {α : Type} (sz : Nat) (f : α → Nat → Value) : ∀ l : List α, (cellsR sz f l).length = l.length * sz
  | [] => by simp [cellsR]
  | x :: l => by
    have ih := cellsR_len sz f l
    unfold cellsR at ih ⊢
    rw [List.flatMap_cons, List.length_append, ih, List.length_map, List.length_range, List.length_cons, Nat.add_mul]; omega
theorem cellsR_app {α : Type} (sz : Nat) (f : α → Nat → Value) (l l' : List α) : cellsR sz f (l ++ l') = cellsR sz f l ++ cellsR sz f l' := by unfold cellsR; rw [List.flatMap_append]
theorem cellsR_at {α : Type} (sz : Nat) (f : α → Nat → Value) : ∀ (l : List α) (k j : Nat) (x : α), l[k]? = some x → j < sz → (cellsR sz f l)[k * sz + j]? = some (f x j)
  | [], k, j, x, h, _ => by simp at h
  | y :: l, 0, j, x, h, hj => by
    have e : y = x := by simpa using h
    subst e
    unfold cellsR
    rw [List.flatMap_cons, Nat.zero_mul, Nat.zero_add, List.getElem?_append_left (by simpa using hj), List.getElem?_map, List.getElem?_range hj]; rfl
  | y :: l, k + 1, j, x, h, hj => by
    have ih := cellsR_at sz f l k j x (by simpa using h) hj
    unfold cellsR at ih ⊢
    rw [List.flatMap_cons, List.getElem?_append_right (by simp [Nat.add_mul]; omega), List.length_map, List.length_range, show (k + 1) * sz + j - sz = k * sz + j by rw [Nat.add_mul]; omega]
    exact ih
/-- The value v is a slice that was made since block B, its elements (of type e, sz cells each) are l. -/
def OwnR {α : Type} (sz : Nat) (f : α → Nat → Value) (w : World) (B : Nat) (e : TypeId) (v : Value) (l : List α) : Prop := w.ownsRow B e sz v l.length (cellsR sz f l)

section
variable {α : Type} {sz : Nat} {f : α → Nat → Value} {w w' : World} {B : Nat} {e : TypeId} {v : Value} {l : List α}
theorem OwnR.nil (sz : Nat) (f : α → Nat → Value) (w : World) (B : Nat) (e : TypeId) : OwnR sz f w B e (.slice none 0 0) [] := World.ownsRow_nil w B e sz
theorem OwnR.block (h : OwnR sz f w B e v l) : ∀ k, v.ownBlock = some k → B ≤ k ∧ k < w.heap.size := World.ownsRow.lt h
theorem OwnR.far {row : Option Nat} (h : OwnR sz f w B e v l) (hg : w.grownBy w' row) (hne : v.ownBlock = none ∨ v.ownBlock ≠ row) : OwnR sz f w' B e v l := World.ownsRow.kept h hg hne
theorem OwnR.below {C : Nat} (h : OwnR sz f w B e v l) (hb : Below C w w') (hC : w.heap.size ≤ C) : OwnR sz f w' B e v l := by
  refine h.far (row := none) ⟨hb.os, hb.tape, hb.output, hb.size, fun i hi _ => hb.block i (by omega)⟩ ?_
  cases hv : v.ownBlock with
  | none => exact .inl rfl
  | some k => exact .inr (by simp)
theorem OwnR.form (h : OwnR sz f w B e v l) : ∃ A cap, v = .slice A l.length cap ∧ l.length ≤ cap ∧ cap ≤ maxLen ∧ Recs sz f w w.heap.size A l.length l := by
  rcases h.2 with ⟨hv, h0⟩ | ⟨g, cap, cur, hv, hB, hg, hn, hm, hs, ht⟩
  · refine ⟨none, 0, by rw [h0]; exact hv, by omega, by simp [maxLen], ⟨rfl, fun hn => by omega⟩⟩
  · refine ⟨_, cap, hv, hn, hm, ⟨rfl, fun _ => ⟨_, rfl, ?_, fun k x hx j hj => ?_⟩⟩⟩
    · exact (World.ownsRow.lt h g (by rw [hv]; rfl)).2
    · exact World.ownsRow.cells h (g := g) (by rw [hv]; rfl) _ _ (cellsR_at sz f l k j x hx hj)
end

/-- append of one element, which was laid in a block of its own just before. -/
theorem wpList_append_rec {P : Program} {ops : Array Oper} {rest : List Oper} {o : Oper} {a : Act} {Q : Exit → Act → World → Prop} (hgd : o.guard = none) (s x : Operand) (t : TypeId)
    (ho : o.op = .call { callee := .builtin .append, args := #[s, x], argTypes := #[t, t] })
    (B : Nat) (e : TypeId) (sz : Nat) (z : Value) (bytes : Nat) (ht : P.underlying t = some (.slice e)) (hi : (P.info? e).map (fun i => (i.zero, i.size, i.bytes)) = some (some z, sz, bytes)) (hzs : z.cells.size = sz) (hsz : 0 < sz)
    {α : Type} (f : α → Nat → Value) (hone : ∀ x j, (f x j).oneCell' = true)
    (w : World) (v : Value) (l : List α) (u : α) (hs : a.eval s = v) (hown : OwnR sz f w B e v l) (ad : Addr) (c : Nat) (hx : a.eval x = .slice (some ad) 1 c) (had : ad = ⟨w.heap.size, 0, none⟩)
    (cs : Array Value) (hcs : cs = ((List.range sz).map (f u)).toArray) (h63 : l.length + 1 ≤ maxLen) (hbytes : (l.length + 1) * bytes ≤ 140737488355328) (hB : B ≤ w.heap.size)
    (h : ∀ v' w', OwnR sz f w' B e v' (l ++ [u]) → Grew w w' v v' → wpList P ops Q rest (a.put o.dst v') w') : wpList P ops Q (o :: rest) a (w.alloc (.cells cs e)) := by
  subst had
  subst hcs
  obtain ⟨i, hi0, hzz⟩ := Option.map_eq_some_iff.1 hi
  simp only [Prod.mk.injEq] at hzz
  obtain ⟨hz, hsize, hby⟩ := hzz
  have hnb := Blk.new w e ((List.range sz).map (f u))
  refine wpList_append_lies _ hgd s x t ho B e i z sz bytes ht hi0 hz hsize hby hzs hsz v l.length (cellsR sz f l) hs (World.ownsRow.alloc hown _) _ 1 c ((List.range sz).map (f u)) hx (by simp)
    (fun j y hy => by
      have hadd : (⟨w.heap.size, 0, none⟩ : Addr).add j = ⟨w.heap.size, j, none⟩ := by unfold Addr.add; split <;> simp_all
      rw [hadd, hnb.cell j]; exact hy)
    (fun y hy => by
      obtain ⟨j, _, rfl⟩ := List.mem_map.1 hy
      exact hone u j)
    (by omega) h63 hbytes (by simp; omega) _ rfl ?_
  intro g cap w' h2 h3 h4 h5
  refine h _ w' ?_ ⟨grown_alloc _ _ _ h3, ?_⟩
  rotate_left
  · rcases h4 with h4 | h4
    · exact .inl h4.symm
    · refine .inr fun k hk => ?_
      have : g = k := by simpa [Value.ownBlock] using hk
      subst this
      rw [h4]; simp
  unfold OwnR
  rw [List.length_append, List.length_singleton, cellsR_app]
  have e1 : cellsR sz f [u] = (List.range sz).map (f u) := by simp [cellsR]
  rw [e1]
  exact h2
end Go.Proofs.Yticifjmkocgipaa

/- Slice expressions, whatever the bounds: what the part reads as. -/
namespace Go.Proofs.Yticifjmkocgipaa
open Go.RowKit

/-- The address A2 stands in A's block, if anywhere. -/
def InBlock (A A2 : Option Addr) : Prop := ∀ ad, A2 = some ad → ∃ a0, A = some a0 ∧ ad.block = a0.block

/-- x[l:] of a slice of one-cell elements. -/
theorem wpList_slice_from {P : Program} {ops : Array Oper} {rest : List Oper} {o : Oper} {a : Act} {w : World} {Q : Exit → Act → World → Prop} (hgd : o.guard = none) (ty : TypeId) (x lo : Operand) (ho : o.op = .slice ty x (some lo) none none)
    (e : TypeId) (hu : P.underlying ty = some (.slice e)) (hsz : (P.info? e).map (·.size) = some 1) (A : Option Addr) (n c : Nat) (hx : a.eval x = .slice A n c) (k : IntKind) (l : Nat) (hl : a.eval lo = .int k (l : Int)) (hln : l ≤ n) (hnc : n ≤ c)
    (h : ∀ A2, InBlock A A2 → (∀ {α : Type} (f : α → Value) (w2 : World) (B : Nat) (xs : List α), Row f w2 B A n xs → Row f w2 B A2 (n - l) (xs.drop l)) → wpList P ops Q rest (a.put o.dst (.slice A2 (n - l) (c - l))) w) : wpList P ops Q (o :: rest) a w := by
  refine wpList_plain hgd fun K hK => ?_
  have hel : P.elem ty = e := by simp [Program.elem, hu]
  have h1 := run_slice_l (P := P) w ty A n c (by rw [hel]; exact hu) k (l : Int) (by omega) (by omega)
  have h2 := run_sliceAt_slice (P := P) w ty (.slice A n c) (some (.int k (l : Int))) none none (by rw [hel]; exact hu)
  rw [h1] at h2
  cases hq : P.info? e with
  | none => simp [hq] at hsz
  | some ie =>
    have hs : ie.size = 1 := by simpa [hq] using hsz
    have hso : (sizeOf e).run P w = .ok 1 w := by simp [sizeOf, typeInfo, hq, hs]
    have hk := hK _ _ (h (if c = l then A else A.map (·.add l)) (by
      intro ad had
      split at had
      · exact ⟨ad, had, rfl⟩
      · cases A with
        | none => cases had
        | some a0 => cases had; exact ⟨a0, rfl, add_block a0 l⟩) (by
      intro α f w2 B xs hr
      split
      · rename_i hcl
        exact Row.none_ (List.drop_of_length_le (by rw [hr.len]; omega)) (by omega)
      · cases A with
        | none =>
          have hn0 : n = 0 := by
            rcases Nat.eq_zero_or_pos n with h0 | h0
            · exact h0
            · obtain ⟨_, h, _⟩ := hr.cells h0; cases h
          exact Row.none_ (List.drop_of_length_le (by rw [hr.len]; omega)) (by omega)
        | some a0 => exact hr.cutAt hln))
    unfold Oper.wp execOp
    simp only [ho, hx, hl, Option.map_some, Option.map_none, h2, Sem.run_bind, Sem.run_pure, hel, hso, sliced, Result.andThen_ok, Int.toNat_natCast, Nat.mul_one]
    exact hk

/-- x[:h] of a slice of one-cell elements. -/
theorem wpList_slice_to {P : Program} {ops : Array Oper} {rest : List Oper} {o : Oper} {a : Act} {w : World} {Q : Exit → Act → World → Prop} (hgd : o.guard = none) (ty : TypeId) (x hi : Operand) (ho : o.op = .slice ty x none (some hi) none)
    (e : TypeId) (hu : P.underlying ty = some (.slice e)) (hsz : (P.info? e).map (·.size) = some 1) (A : Option Addr) (n c : Nat) (hx : a.eval x = .slice A n c) (k : IntKind) (m : Nat) (hl : a.eval hi = .int k (m : Int)) (hmc : m ≤ c)
    (h : ∀ A2, InBlock A A2 → (∀ {α : Type} (f : α → Value) (w2 : World) (B : Nat) (xs : List α), m ≤ n → Row f w2 B A n xs → Row f w2 B A2 m (xs.take m)) → wpList P ops Q rest (a.put o.dst (.slice A2 m c)) w) : wpList P ops Q (o :: rest) a w := by
  refine wpList_plain hgd fun K hK => ?_
  have hel : P.elem ty = e := by simp [Program.elem, hu]
  have h1 := run_slice_h (P := P) w ty A n c (by rw [hel]; exact hu) k (m : Int) (by omega) (by omega)
  have h2 := run_sliceAt_slice (P := P) w ty (.slice A n c) none (some (.int k (m : Int))) none (by rw [hel]; exact hu)
  rw [h1] at h2
  cases hq : P.info? e with
  | none => simp [hq] at hsz
  | some ie =>
    have hs : ie.size = 1 := by simpa [hq] using hsz
    have hso : (sizeOf e).run P w = .ok 1 w := by simp [sizeOf, typeInfo, hq, hs]
    have hk := hK _ _ (h (if c = 0 then A else A.map (·.add 0)) (by
      intro ad had
      split at had
      · exact ⟨ad, had, rfl⟩
      · cases A with
        | none => cases had
        | some a0 => cases had; exact ⟨a0, rfl, add_block a0 0⟩) (by
      intro α f w2 B xs hmn hr
      have e0 : (if c = 0 then A else A.map (·.add 0)) = A := by
        split
        · rfl
        · cases A <;> simp [Addr.add]
      rw [e0]
      exact hr.take hmn))
    unfold Oper.wp execOp
    simp only [ho, hx, hl, Option.map_some, Option.map_none, h2, Sem.run_bind, Sem.run_pure, hel, hso, sliced, Result.andThen_ok, Int.toNat_natCast, Nat.zero_mul, Nat.sub_zero]
    exact hk

/-- x[l:h] of a slice of one-cell elements. -/
theorem wpList_slice_both {P : Program} {ops : Array Oper} {rest : List Oper} {o : Oper} {a : Act} {w : World} {Q : Exit → Act → World → Prop} (hgd : o.guard = none) (ty : TypeId) (x lo hi : Operand) (ho : o.op = .slice ty x (some lo) (some hi) none)
    (e : TypeId) (hu : P.underlying ty = some (.slice e)) (hsz : (P.info? e).map (·.size) = some 1) (A : Option Addr) (n c : Nat) (hx : a.eval x = .slice A n c) (k k2 : IntKind) (l m : Nat) (hl : a.eval lo = .int k (l : Int)) (hh : a.eval hi = .int k2 (m : Int)) (hlm : l ≤ m) (hmn : m ≤ n) (hnc : n ≤ c)
    (h : ∀ A2, InBlock A A2 → (∀ {α : Type} (f : α → Value) (w2 : World) (B : Nat) (xs : List α), Row f w2 B A n xs → Row f w2 B A2 (m - l) ((xs.take m).drop l)) → wpList P ops Q rest (a.put o.dst (.slice A2 (m - l) (c - l))) w) : wpList P ops Q (o :: rest) a w := by
  refine wpList_plain hgd fun K hK => ?_
  have hel : P.elem ty = e := by simp [Program.elem, hu]
  have h1 := run_slice_lh (P := P) w ty A n c (by rw [hel]; exact hu) k k2 (l : Int) (m : Int) (by omega) (by omega) (by omega)
  have h2 := run_sliceAt_slice (P := P) w ty (.slice A n c) (some (.int k (l : Int))) (some (.int k2 (m : Int))) none (by rw [hel]; exact hu)
  rw [h1] at h2
  cases hq : P.info? e with
  | none => simp [hq] at hsz
  | some ie =>
    have hs : ie.size = 1 := by simpa [hq] using hsz
    have hso : (sizeOf e).run P w = .ok 1 w := by simp [sizeOf, typeInfo, hq, hs]
    have hk := hK _ _ (h (if c = l then A else A.map (·.add l)) (by
      intro ad had
      split at had
      · exact ⟨ad, had, rfl⟩
      · cases A with
        | none => cases had
        | some a0 => cases had; exact ⟨a0, rfl, add_block a0 l⟩) (by
      intro α f w2 B xs hr
      have hr2 := hr.take hmn
      split
      · rename_i hcl
        exact Row.none_ (List.drop_of_length_le (by rw [hr2.len]; omega)) (by omega)
      · cases A with
        | none =>
          have hn0 : n = 0 := by
            rcases Nat.eq_zero_or_pos n with h0 | h0
            · exact h0
            · obtain ⟨_, h, _⟩ := hr.cells h0; cases h
          exact Row.none_ (List.drop_of_length_le (by rw [hr2.len]; omega)) (by omega)
        | some a0 => exact hr2.cutAt hlm))
    unfold Oper.wp execOp
    simp only [ho, hx, hl, hh, Option.map_some, Option.map_none, h2, Sem.run_bind, Sem.run_pure, hel, hso, sliced, Result.andThen_ok, Int.toNat_natCast, Nat.mul_one]
    exact hk

/-- x[l:] of an array of one-cell elements in the midst of a block. -/
theorem wpList_slice_arr {P : Program} {ops : Array Oper} {rest : List Oper} {o : Oper} {a : Act} {w : World} {Q : Exit → Act → World → Prop} (hgd : o.guard = none) (ty : TypeId) (x lo : Operand) (ho : o.op = .slice ty x (some lo) none none)
    (n : Nat) (e : TypeId) (hu : P.underlying ty = some (.array n e)) (hsz : (P.info? e).map (·.size) = some 1) (g off : Nat) (hx : a.eval x = .pointer (some ⟨g, off, none⟩)) (k : IntKind) (l : Nat) (hl : a.eval lo = .int k (l : Int)) (hln : l < n)
    (h : wpList P ops Q rest (a.put o.dst (.slice (some ⟨g, off + l, none⟩) (n - l) (n - l))) w) : wpList P ops Q (o :: rest) a w := by
  refine wpList_plain hgd fun K hK => ?_
  have hel : P.elem ty = e := by simp [Program.elem, hu]
  have hal : P.arrayLen ty = n := by simp [Program.arrayLen, hu]
  have h2 := run_sliceAt_array_l (P := P) w ty ⟨g, off, none⟩ (by rw [hel, hal]; exact hu) k (l : Int) (by omega) (by rw [hal]; omega)
  cases hq : P.info? e with
  | none => simp [hq] at hsz
  | some ie =>
    have hs : ie.size = 1 := by simpa [hq] using hsz
    have hso : (sizeOf e).run P w = .ok 1 w := by simp [sizeOf, typeInfo, hq, hs]
    have hk := hK _ _ h
    unfold Oper.wp execOp
    simp only [ho, hx, hl, Option.map_some, Option.map_none, h2, Sem.run_bind, Sem.run_pure, hel, hal, hso, slicedAt, Result.andThen_ok, Int.toNat_natCast, Nat.mul_one]
    rw [if_neg (by omega), Addr.add_mid]
    exact hk
end Go.Proofs.Yticifjmkocgipaa
