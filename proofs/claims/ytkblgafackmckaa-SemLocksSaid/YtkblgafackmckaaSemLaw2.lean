/- What the statements of sem use of their loops. -/
import Derived.Test.YtkblgafackmckaaPk22
import Derived.Test.YtkblgafackmckaaSemSame2
namespace Go.Proofs.Ytkblgafackmckaa
open Go.RowKit

/-- A config behind a step, its memory made by the call. -/
def Fact.stepped (K : Nat) (c : M.Cf) : Fact :=
  ⟨fun v W => ∃ q', v = pcA q' ∧ Mine W K q' ∧ q'.cf = c, fun _ _ _ hb ⟨q', h1, h2, h3⟩ => ⟨q', h1, h2.below hb (Nat.le_refl _), h3⟩⟩
theorem good_8s {p : Pg} {q : Pc} (h : M.Good p q.cf) : ∀ x ∈ q.tvs, x.slots.length = 8 := fun x hx => h.eight (tvT x) (List.mem_map_of_mem hx)
theorem good_17 {p : Pg} {q : Pc} (h : M.Good p q.cf) : (pcC q).length = 17 := conf_len h.owns
theorem conf_cell {w : World} {g : Nat} {q : Pc} (h : Blk w g 31 (pcC q)) : w.cell? ⟨g, 0, none⟩ = some (.slice q.A q.len q.cap) := h.cell 0
theorem held_in {q : Pc} {w : World} {B t : Nat} (h : q.Ok w B) (ht : t < q.len) : M.held q.cf (t : Int) = M.heldTo q.ow t 16 := by
  unfold M.held
  rw [if_pos ⟨by omega, by rw [h.len]; omega⟩, Int.toNat_natCast]; rfl
theorem most_8 {p : Pg} {q : Pc} {w : World} {B : Nat} (hg : M.Good p q.cf) (h : q.Ok w B) : q.len ≤ 8 := by rw [← h.len]; exact hg.most
theorem own_8 {p : Pg} {q : Pc} (hg : M.Good p q.cf) : ∀ o ∈ q.ow, o ≤ 8 := fun o ho => by have := hg.own o ho; have := hg.most; omega
/-- A block of another type is none of its. -/
theorem OwnR.typed {α : Type} {sz : Nat} {f : α → Nat → Value} {w : World} {B b : Nat} {e t : TypeId} {v : Value} {l : List α} {cs : List Value} (h : OwnR sz f w B e v l) (hb : Blk w b t cs) (hne : e ≠ t) : v.ownBlock ≠ some b := by
  intro hv
  rcases h.2 with ⟨rfl, _⟩ | ⟨g, cap, cur, rfl, _, hg, _⟩
  · cases hv
  · injection hv with hv
    have hv : g = b := hv
    subst hv
    unfold Blk at hb
    rw [hg] at hb
    injection hb with hb
    injection hb with _ h2
    exact hne h2
theorem Mine.typed {w w' : World} {B g : Nat} {q : Pc} {cs : List Value} (h : Mine w B q) (hb : Blk w g 31 cs) (hg : w.grownBy w' (some g)) : Mine w' B q :=
  h.far hg (fun b hv e => h.row.typed hb (by decide) (by rw [hv, e])) (fun k y b hy hv e => (h.fam.own k y hy).typed hb (by decide) (by rw [hv, e]))
/-- A new config variable. -/
def Fact.confNew (K : Nat) : Fact :=
  ⟨fun v W => ∃ g, v = .pointer (some ⟨g, 0, none⟩) ∧ Blk W g 31 (Value.slice none 0 0 :: zeros 16) ∧ K ≤ g, fun _ _ _ hb ⟨g, h1, h2, h3⟩ => ⟨g, h1, h2.below hb h2.lt, h3⟩⟩
/-- A pick's cells. -/
theorem Picks.pick {w : World} {B : Nat} {A : Option Addr} {n : Nat} {l : List (Int × Bool)} (h : Picks w B A n l) {i : Nat} (hi : i < n) :
    ∃ ad x, A = some ad ∧ ad.block < B ∧ l[i]? = some x ∧ I64 x.1 ∧ w.cell? (ad.add (i * 2)) = some (.int .i64 x.1) ∧ w.cell? ⟨(ad.add (i * 2)).block, (ad.add (i * 2)).off + 1, none⟩ = some (.bool x.2) := by
  obtain ⟨ad, x, hA, hb, hx, hc0, hc1⟩ := h.1.field hi
  exact ⟨ad, x, hA, hb, hx, h.2 x (List.mem_of_getElem? hx), hc0 (by omega), hc1 1 (by omega) (by omega)⟩
theorem node_zero9 : (Try.prog.info? 47).map (·.zero) = some (some (.agg #[.int .i64 0, .int .i64 0, .int .i64 0, .int .i64 0])) := by kernel_rfl
theorem nd_ones9 (x : Nd) : ∀ u ∈ ndC x, u.oneCell' = true := by
  intro u hu
  simp only [ndC, List.mem_cons, List.not_mem_nil, or_false] at hu
  rcases hu with rfl | rfl | rfl | rfl <;> rfl
end Go.Proofs.Ytkblgafackmckaa
