/-
  DERIVED. GIVEN WITH THE SEED: THE CARDS: each row of YtdnhfpphjpnklaaDoorRows.lean that lists a variable, with what it lists TIED to the program's text (the seventh form; the later family's looks); each row that meets fmt, with fmt's text TOLD by the authors' own Lean function (tested against real Go, not proved from fmt's source: count such statements apart). THE CARD IS WHAT COUNTS. Prove the row's statement (the work); the ties are given (YtdnhfpphjpnklaaDoorTie.lean); close each card by the builder's one call (the guide's Derived/Test/ToyasCard.lean, 'card_holds'). Laid BY PROGRAM, IN A SANDBOX (cutbox-door.mjs). By AI agents, Wed Nov 11 2026. No macro, syntax, notation, axiom, sorry.
-/
import Derived.Test.YtdnhfpphjpnklaaDoorRows
import GoSem.ClaimSeven
namespace Go.Proofs.YtdnhfpphjpnklaaDoor
namespace Rows

/-- THE TIED CARD OF 'alibilaw07.PcodeWrites'. -/
def pcodeWritesCard : Claim7 := { stood := { row := pcodeWritesRow, standIns := [], harness := (true, "d093444a50a86ff2380be0516d5e4d3c03187992145849658aa38aa1a862dfe1"), looks := false }, kinds := [], alts := [], laidByText := true, laidKinds := [.data], laidTests := true, laidLooks := .later }
def PcodeWritesCardSaid : Prop := Claim7.holds Tryd.pinned (.plain (OpenSpec.ofChange pcodeWritesSpec)) pcodeWritesCard

/-- THE SECOND FORM's CARD OF 'alibilaw07.PcodeWrites'. -/
def pcodeWritesUptoCard : Claim7 := { stood := { row := pcodeWritesUptoRow, standIns := [], harness := (true, "d093444a50a86ff2380be0516d5e4d3c03187992145849658aa38aa1a862dfe1"), looks := false }, kinds := [], alts := [], laidByText := true, laidKinds := [.data], laidTests := true, laidLooks := .later }
def PcodeWritesUptoCardSaid : Prop := Claim7.holds Tryd.pinned (.plain (OpenSpec.upto pcodeWritesSpec)) pcodeWritesUptoCard
end Rows
end Go.Proofs.YtdnhfpphjpnklaaDoor
