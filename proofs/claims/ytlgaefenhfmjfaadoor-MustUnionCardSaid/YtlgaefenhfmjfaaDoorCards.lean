/-
  DERIVED. GIVEN WITH THE SEED: THE CARDS: each row of YtlgaefenhfmjfaaDoorRows.lean that lists a variable, with what it lists TIED to the program's text (the seventh form; the later family's looks); each row that meets fmt, with fmt's text TOLD by the authors' own Lean function (tested against real Go, not proved from fmt's source: count such statements apart). THE CARD IS WHAT COUNTS. Prove the row's statement (the work); the ties are given (YtlgaefenhfmjfaaDoorTie.lean); close each card by the builder's one call (the guide's Derived/Test/ToyasCard.lean, 'card_holds'). Laid BY PROGRAM, IN A SANDBOX (cutbox-door.mjs). By AI agents, Wed Nov 11 2026. No macro, syntax, notation, axiom, sorry.
-/
import Derived.Test.YtlgaefenhfmjfaaDoorRows
import GoSem.ClaimSeven
namespace Go.Proofs.YtlgaefenhfmjfaaDoor
namespace Rows

/-- THE TIED CARD OF 'alibilaw15.MustChecks'. -/
def mustChecksCard : Claim7 := { stood := { row := mustChecksRow, standIns := [], harness := (true, "8dff7672e757c3a05c674926f83ccfe6400ee330f740e32ba934f7a696621f1a"), looks := true }, kinds := [], alts := [], laidByText := true, laidKinds := [.data], laidTests := true, laidLooks := .later }
def MustChecksCardSaid : Prop := Claim7.holds Tryd.pinned (.plain (OpenSpec.ofChange mustChecksSpec)) mustChecksCard

/-- THE TIED CARD OF 'alibilaw15.MustHolds'. -/
def mustHoldsCard : Claim7 := { stood := { row := mustHoldsRow, standIns := [], harness := (true, "8dff7672e757c3a05c674926f83ccfe6400ee330f740e32ba934f7a696621f1a"), looks := true }, kinds := [], alts := [], laidByText := true, laidKinds := [.data], laidTests := true, laidLooks := .later }
def MustHoldsCardSaid : Prop := Claim7.holds Tryd.pinned (.plain (OpenSpec.ofChange mustHoldsSpec)) mustHoldsCard

/-- THE TIED CARD OF 'alibilaw15.MustLess'. -/
def mustLessCard : Claim7 := { stood := { row := mustLessRow, standIns := [], harness := (true, "8dff7672e757c3a05c674926f83ccfe6400ee330f740e32ba934f7a696621f1a"), looks := true }, kinds := [], alts := [], laidByText := true, laidKinds := [.data], laidTests := true, laidLooks := .later }
def MustLessCardSaid : Prop := Claim7.holds Tryd.pinned (.plain (OpenSpec.ofChange mustLessSpec)) mustLessCard

/-- THE TIED CARD OF 'alibilaw15.MustUnion'. -/
def mustUnionCard : Claim7 := { stood := { row := mustUnionRow, standIns := [], harness := (true, "8dff7672e757c3a05c674926f83ccfe6400ee330f740e32ba934f7a696621f1a"), looks := true }, kinds := [], alts := [], laidByText := true, laidKinds := [.data], laidTests := true, laidLooks := .later }
def MustUnionCardSaid : Prop := Claim7.holds Tryd.pinned (.plain (OpenSpec.ofChange mustUnionSpec)) mustUnionCard

/-- THE SECOND FORM's CARD OF 'alibilaw15.MustChecks'. -/
def mustChecksUptoCard : Claim7 := { stood := { row := mustChecksUptoRow, standIns := [], harness := (true, "8dff7672e757c3a05c674926f83ccfe6400ee330f740e32ba934f7a696621f1a"), looks := true }, kinds := [], alts := [], laidByText := true, laidKinds := [.data], laidTests := true, laidLooks := .later }
def MustChecksUptoCardSaid : Prop := Claim7.holds Tryd.pinned (.plain (OpenSpec.upto mustChecksSpec)) mustChecksUptoCard

/-- THE SECOND FORM's CARD OF 'alibilaw15.MustHolds'. -/
def mustHoldsUptoCard : Claim7 := { stood := { row := mustHoldsUptoRow, standIns := [], harness := (true, "8dff7672e757c3a05c674926f83ccfe6400ee330f740e32ba934f7a696621f1a"), looks := true }, kinds := [], alts := [], laidByText := true, laidKinds := [.data], laidTests := true, laidLooks := .later }
def MustHoldsUptoCardSaid : Prop := Claim7.holds Tryd.pinned (.plain (OpenSpec.upto mustHoldsSpec)) mustHoldsUptoCard

/-- THE SECOND FORM's CARD OF 'alibilaw15.MustLess'. -/
def mustLessUptoCard : Claim7 := { stood := { row := mustLessUptoRow, standIns := [], harness := (true, "8dff7672e757c3a05c674926f83ccfe6400ee330f740e32ba934f7a696621f1a"), looks := true }, kinds := [], alts := [], laidByText := true, laidKinds := [.data], laidTests := true, laidLooks := .later }
def MustLessUptoCardSaid : Prop := Claim7.holds Tryd.pinned (.plain (OpenSpec.upto mustLessSpec)) mustLessUptoCard

/-- THE SECOND FORM's CARD OF 'alibilaw15.MustUnion'. -/
def mustUnionUptoCard : Claim7 := { stood := { row := mustUnionUptoRow, standIns := [], harness := (true, "8dff7672e757c3a05c674926f83ccfe6400ee330f740e32ba934f7a696621f1a"), looks := true }, kinds := [], alts := [], laidByText := true, laidKinds := [.data], laidTests := true, laidLooks := .later }
def MustUnionUptoCardSaid : Prop := Claim7.holds Tryd.pinned (.plain (OpenSpec.upto mustUnionSpec)) mustUnionUptoCard
end Rows
end Go.Proofs.YtlgaefenhfmjfaaDoor
