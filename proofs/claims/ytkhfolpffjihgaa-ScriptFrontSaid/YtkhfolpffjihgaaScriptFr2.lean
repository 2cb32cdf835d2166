/- Between two rounds of ScriptFront, and what follows. -/
import Derived.Test.YtkhfolpffjihgaaPk42
namespace Go.Proofs.Ytkhfolpffjihgaa
open Go.RowKit
theorem Mine.turnB {w w' : World} {B g : Nat} {q : Pc} {cs : List Value} (h : Mine w B q) (hb : Blk w g 4 cs) (hg : w.grownBy w' (some g)) : Mine w' B q :=
  h.far hg (fun b hv e => h.row.typed hb (by decide) (by rw [hv, e])) (fun k y b hy hv e => (h.fam.own k y hy).typed hb (by decide) (by rw [hv, e]))
theorem OwnR.turnB11 {w w' : World} {B g : Nat} {v : Value} {l : List (Int × Bool)} {cs : List Value} (h : OwnR 2 pkV w B 29 v l) (hb : Blk w g 4 cs) (hg : w.grownBy w' (some g)) : OwnR 2 pkV w' B 29 v l :=
  h.far hg (by
    cases hv : v.ownBlock with
    | none => exact .inl rfl
    | some b => exact .inr (fun e => h.typed hb (by decide) (by rw [hv]; exact e)))
structure FrontJ (w : World) (S L gP gL g1 g10 gl gC : Nat) (pg pg0 : Pg) (A A1 : Option Addr) (n c len1 cap1 : Nat) (z : List (Int × Bool)) (va : Value) (q : Pc) (b : Bool) (W : World) : Prop where
  src : SrcMine W L gP gL pg A n c z
  pb : Blk W g1 38 (pgC pg0)
  bb : Blk W g10 4 [.bool b]
  bl : Blk W gl 22 [.slice A1 len1 cap1]
  bc : Blk W gC 43 (pcC q)
  qm : Mine W w.heap.size q
  al : OwnR 2 pkV W w.heap.size 29 va z
  size : S ≤ W.heap.size
  below : Below w.heap.size w W
section
variable {w : World} {S L gP gL g1 g10 gl gC : Nat} {pg pg0 : Pg} {A A1 : Option Addr} {n c len1 cap1 : Nat} {z : List (Int × Bool)} {va : Value} {q : Pc} {b : Bool} {W W' : World}
theorem FrontJ.more (h : FrontJ w S L gP gL g1 g10 gl gC pg pg0 A A1 n c len1 cap1 z va q b W) (hb : Below W.heap.size W W') : FrontJ w S L gP gL g1 g10 gl gC pg pg0 A A1 n c len1 cap1 z va q b W' :=
  ⟨h.src.below hb, h.pb.below hb h.pb.lt, h.bb.below hb h.bb.lt, h.bl.below hb h.bl.lt, h.bc.below hb h.bc.lt, h.qm.below hb (Nat.le_refl _), h.al.below hb (Nat.le_refl _), Nat.le_trans h.size hb.size, h.below.trans (hb.mono h.below.size)⟩
theorem FrontJ.conf {g : Nat} {cs : List Value} (h : FrontJ w S L gP gL g1 g10 gl gC pg pg0 A A1 n c len1 cap1 z va q b W) (hS : S ≤ g) (hk : Blk W g 43 cs) (hg : W.grownBy W' (some g)) (hC : gC < S) (hw : w.heap.size ≤ S) : FrontJ w S L gP gL g1 g10 gl gC pg pg0 A A1 n c len1 cap1 z va q b W' :=
  ⟨h.src.conf hk hg, h.pb.grown hg (fun e => h.pb.twoNe hk (by decide) (by cases e; rfl)), h.bb.grown hg (fun e => h.bb.twoNe hk (by decide) (by cases e; rfl)), h.bl.grown hg (fun e => h.bl.twoNe hk (by decide) (by cases e; rfl)), h.bc.grown hg (fun e => by cases e; omega), h.qm.typed hk hg, h.al.conf11 hk (by decide) hg, Nat.le_trans h.size hg.size, h.below.grown hg h.below.size (fun k e => by cases e; omega)⟩
theorem FrontJ.turn {b' : Bool} (h : FrontJ w S L gP gL g1 g10 gl gC pg pg0 A A1 n c len1 cap1 z va q b W) (hk : Blk W' g10 4 [.bool b']) (hg : W.grownBy W' (some g10)) (hL : g10 < L) (hw : w.heap.size ≤ g10) : FrontJ w S L gP gL g1 g10 gl gC pg pg0 A A1 n c len1 cap1 z va q b' W' :=
  ⟨h.src.turn hg hL, h.pb.grown hg (fun e => h.pb.twoNe h.bb (by decide) (by cases e; rfl)), hk, h.bl.grown hg (fun e => h.bl.twoNe h.bb (by decide) (by cases e; rfl)), h.bc.grown hg (fun e => h.bc.twoNe h.bb (by decide) (by cases e; rfl)), h.qm.turnB h.bb hg, h.al.turnB11 h.bb hg, Nat.le_trans h.size hg.size, h.below.grown hg h.below.size (fun k e => by cases e; exact hw)⟩
end
theorem meet_front {p : Pg} {n m : Nat} {z z2 : List (Int × Bool)} {k k' : Nat} {b b' : Bool} (hz : z.length = n) (h : MeetIs p n z k b) (h' : MeetIs p m (z ++ z2) k' b') (hm : n ≤ m) :
    (b = true → b' = true ∧ k = k') ∧ (b = false → b' = false ∨ (b' = true ∧ n < k')) := by
  have hr : ∀ j, j ≤ n → runTo p (z ++ z2) j = runTo p z j := fun j hj => runTo_app p z z2 (by omega)
  rcases h with ⟨rfl, h1, h2, h3⟩ | ⟨rfl, rfl, h1⟩ <;> rcases h' with ⟨rfl, g1, g2, g3⟩ | ⟨rfl, rfl, g1⟩
  · refine ⟨fun _ => ⟨rfl, ?_⟩, fun h => (by cases h)⟩
    rcases Nat.lt_trichotomy k k' with h | h | h
    · exact absurd (by rw [hr k h1]; exact h2) (g3 k h)
    · exact h
    · exact absurd (by rw [← hr k' (by omega)]; exact g2) (h3 k' h)
  · exact absurd (by rw [hr k h1]; exact h2) (g1 k (by omega))
  · refine ⟨fun h => (by cases h), fun _ => .inr ⟨rfl, ?_⟩⟩
    by_cases h : k' ≤ n
    · exact absurd (by rw [← hr k' h]; exact g2) (h1 k' h)
    · omega
  · exact ⟨fun h => (by cases h), fun _ => .inl rfl⟩
end Go.Proofs.Ytkhfolpffjihgaa
