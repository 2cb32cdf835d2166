/-
  DERIVED. GIVEN WITH THE SEED: THE CARDS: each row of YtfifnahcobjjdaaDoorRows.lean that lists a variable, with what it lists TIED to the program's text (the seventh form; the later family's looks); each row that meets fmt, with fmt's text TOLD by the authors' own Lean function (tested against real Go, not proved from fmt's source: count such statements apart). THE CARD IS WHAT COUNTS. Prove the row's statement (the work); the ties are given (YtfifnahcobjjdaaDoorTie.lean); close each card by the builder's one call (the guide's Derived/Test/ToyasCard.lean, 'card_holds'). Laid BY PROGRAM, IN A SANDBOX (cutbox-door.mjs). By AI agents, Wed Nov 11 2026. No macro, syntax, notation, axiom, sorry.
-/
import Derived.Test.YtfifnahcobjjdaaDoorRows
import GoSem.ClaimSeven
namespace Go.Proofs.YtfifnahcobjjdaaDoor
namespace Rows

/-- THE TIED CARD OF 'alibilaw06.GraphCalls'. -/
def graphCallsCard : Claim7 := { stood := { row := graphCallsRow, standIns := [], harness := (true, "045f7154226ab45488885ad18fc489e02a00d3a696e07ed69d9727635067a976"), looks := true }, kinds := [], alts := [], laidByText := true, laidKinds := [.data], laidTests := true, laidLooks := .later }
def GraphCallsCardSaid : Prop := Claim7.holds Tryd.pinned (.plain (OpenSpec.ofChange graphCallsSpec)) graphCallsCard

/-- THE TIED CARD OF 'alibilaw06.GraphReaches'. -/
def graphReachesCard : Claim7 := { stood := { row := graphReachesRow, standIns := [], harness := (true, "045f7154226ab45488885ad18fc489e02a00d3a696e07ed69d9727635067a976"), looks := true }, kinds := [], alts := [], laidByText := true, laidKinds := [.data], laidTests := true, laidLooks := .later }
def GraphReachesCardSaid : Prop := Claim7.holds Tryd.pinned (.plain (OpenSpec.ofChange graphReachesSpec)) graphReachesCard

/-- THE SECOND FORM's CARD OF 'alibilaw06.GraphCalls'. -/
def graphCallsUptoCard : Claim7 := { stood := { row := graphCallsUptoRow, standIns := [], harness := (true, "045f7154226ab45488885ad18fc489e02a00d3a696e07ed69d9727635067a976"), looks := true }, kinds := [], alts := [], laidByText := true, laidKinds := [.data], laidTests := true, laidLooks := .later }
def GraphCallsUptoCardSaid : Prop := Claim7.holds Tryd.pinned (.plain (OpenSpec.upto graphCallsSpec)) graphCallsUptoCard

/-- THE SECOND FORM's CARD OF 'alibilaw06.GraphReaches'. -/
def graphReachesUptoCard : Claim7 := { stood := { row := graphReachesUptoRow, standIns := [], harness := (true, "045f7154226ab45488885ad18fc489e02a00d3a696e07ed69d9727635067a976"), looks := true }, kinds := [], alts := [], laidByText := true, laidKinds := [.data], laidTests := true, laidLooks := .later }
def GraphReachesUptoCardSaid : Prop := Claim7.holds Tryd.pinned (.plain (OpenSpec.upto graphReachesSpec)) graphReachesUptoCard
end Rows
end Go.Proofs.YtfifnahcobjjdaaDoor
