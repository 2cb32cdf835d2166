/- The document's own comparing of programs, walked: Same. -/
import Derived.Test.YtdnhfpphjpnklaaDoorPk20
import Derived.Laws.StructEq
namespace Go.Proofs.YtdnhfpphjpnklaaDoor
open Go.RowKit

theorem Nd.ext_iff' (x y : Nd) : x = y ↔ x.kind = y.kind ∧ x.arg = y.arg ∧ x.next = y.next ∧ x.alt = y.alt := by
  constructor
  · rintro rfl; exact ⟨rfl, rfl, rfl, rfl⟩
  · obtain ⟨a, b, c, d⟩ := x
    obtain ⟨a', b', c', d'⟩ := y
    rintro ⟨h1, h2, h3, h4⟩
    simp only at h1 h2 h3 h4
    subst h1; subst h2; subst h3; subst h4; rfl
end Go.Proofs.YtdnhfpphjpnklaaDoor
