/- The table of what must stay, as memory: a variable that is none of a config's blocks. -/
import Derived.Test.YtfiafbflhglpeaaDoorPk11
import Derived.Test.YtfiafbflhglpeaaDoorPk16
import Derived.Test.YtfiafbflhglpeaaDoorPk9
namespace Go.Proofs.YtfiafbflhglpeaaDoor
open Go.RowKit
theorem XS : (Tryd.prog.info? 51).map (·.zero) = some (some (.agg ((List.replicate 160 0).map wordV).toArray)):=by kernel_rfl
theorem Mine.typedK {w w' : World} {B g : Nat} {q : Pc} {cs : List Value} (h : Mine w B q) (hb : Blk w g 51 cs) (hg : w.grownBy w' (some g)) : Mine w' B q :=
  h.far hg (fun b hv e => h.row.typed hb (by decide) (by rw [hv,e])) (fun k y b hy hv e => (h.fam.own k y hy).typed hb (by decide) (by rw [hv,e]))
theorem uZ : (Tryd.prog.info? 31).map (·.size) = some 1:=by kernel_rfl
theorem Y9 (l : List Nat) : (l.map wordV).length = l.length:=List.length_map _
theorem Q2 {p : Pg} {us kc : List Nat} {c : M.Cf} {t : Nat} (h : kc.length = 160) : (keepTo p us kc c t).length = 160:=by
  unfold keepTo
  split
  · rw [List.length_set];exact h
  · exact h
theorem XU {p : Pg} {us kc : List Nat} {c : M.Cf} {t : Nat} (h : ∀ x ∈ kc,x < 4294967296) : ∀ x ∈ keepTo p us kc c t,x < 4294967296:=by
  unfold keepTo
  split
  · intro x hx
    rcases List.mem_or_eq_of_mem_set hx with h1 | rfl
    · exact h x h1
    · have h2:=M.held_lt c.owners t 16
      exact Nat.lt_of_le_of_lt Nat.and_le_left (Nat.lt_of_lt_of_le h2 (by decide))
  · exact h
theorem XT {p : Pg} {us kc : List Nat} {c : M.Cf} {t : Nat} (h : (M.node p c t).kind ≠ 7) : keepTo p us kc c t = kc:=by
  unfold keepTo
  rw [if_neg (fun hh => h hh.1)]
end Go.Proofs.YtfiafbflhglpeaaDoor
