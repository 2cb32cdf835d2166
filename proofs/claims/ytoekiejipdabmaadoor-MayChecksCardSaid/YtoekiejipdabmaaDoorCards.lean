/-
  DERIVED. GIVEN WITH THE SEED: THE CARDS: each row of YtoekiejipdabmaaDoorRows.lean that lists a variable, with what it lists TIED to the program's text (the seventh form; the later family's looks); each row that meets fmt, with fmt's text TOLD by the authors' own Lean function (tested against real Go, not proved from fmt's source: count such statements apart). THE CARD IS WHAT COUNTS. Prove the row's statement (the work); the ties are given (YtoekiejipdabmaaDoorTie.lean); close each card by the builder's one call (the guide's Derived/Test/ToyasCard.lean, 'card_holds'). Laid BY PROGRAM, IN A SANDBOX (cutbox-door.mjs). By AI agents, Wed Nov 11 2026. No macro, syntax, notation, axiom, sorry.
-/
import Derived.Test.YtoekiejipdabmaaDoorRows
import GoSem.ClaimSeven
namespace Go.Proofs.YtoekiejipdabmaaDoor
namespace Rows

/-- THE TIED CARD OF 'alibilaw16.MayChecks'. -/
def mayChecksCard : Claim7 := { stood := { row := mayChecksRow, standIns := [], harness := (true, "b834cfcf1abae1de9f6a4b2fbf6e6520083de35172cef24f10451a1e3d4b8ef5"), looks := true }, kinds := [], alts := [], laidByText := true, laidKinds := [.data], laidTests := true, laidLooks := .later }
def MayChecksCardSaid : Prop := Claim7.holds Tryd.pinned (.plain (OpenSpec.ofChange mayChecksSpec)) mayChecksCard

/-- THE TIED CARD OF 'alibilaw16.MayLives'. -/
def mayLivesCard : Claim7 := { stood := { row := mayLivesRow, standIns := [], harness := (true, "b834cfcf1abae1de9f6a4b2fbf6e6520083de35172cef24f10451a1e3d4b8ef5"), looks := true }, kinds := [], alts := [], laidByText := true, laidKinds := [.data], laidTests := true, laidLooks := .later }
def MayLivesCardSaid : Prop := Claim7.holds Tryd.pinned (.plain (OpenSpec.ofChange mayLivesSpec)) mayLivesCard

/-- THE TIED CARD OF 'alibilaw16.MayMore'. -/
def mayMoreCard : Claim7 := { stood := { row := mayMoreRow, standIns := [], harness := (true, "b834cfcf1abae1de9f6a4b2fbf6e6520083de35172cef24f10451a1e3d4b8ef5"), looks := true }, kinds := [], alts := [], laidByText := true, laidKinds := [.data], laidTests := true, laidLooks := .later }
def MayMoreCardSaid : Prop := Claim7.holds Tryd.pinned (.plain (OpenSpec.ofChange mayMoreSpec)) mayMoreCard

/-- THE TIED CARD OF 'alibilaw16.MayMeet'. -/
def mayMeetCard : Claim7 := { stood := { row := mayMeetRow, standIns := [], harness := (true, "b834cfcf1abae1de9f6a4b2fbf6e6520083de35172cef24f10451a1e3d4b8ef5"), looks := true }, kinds := [], alts := [], laidByText := true, laidKinds := [.data], laidTests := true, laidLooks := .later }
def MayMeetCardSaid : Prop := Claim7.holds Tryd.pinned (.plain (OpenSpec.ofChange mayMeetSpec)) mayMeetCard

/-- THE SECOND FORM's CARD OF 'alibilaw16.MayChecks'. -/
def mayChecksUptoCard : Claim7 := { stood := { row := mayChecksUptoRow, standIns := [], harness := (true, "b834cfcf1abae1de9f6a4b2fbf6e6520083de35172cef24f10451a1e3d4b8ef5"), looks := true }, kinds := [], alts := [], laidByText := true, laidKinds := [.data], laidTests := true, laidLooks := .later }
def MayChecksUptoCardSaid : Prop := Claim7.holds Tryd.pinned (.plain (OpenSpec.upto mayChecksSpec)) mayChecksUptoCard

/-- THE SECOND FORM's CARD OF 'alibilaw16.MayLives'. -/
def mayLivesUptoCard : Claim7 := { stood := { row := mayLivesUptoRow, standIns := [], harness := (true, "b834cfcf1abae1de9f6a4b2fbf6e6520083de35172cef24f10451a1e3d4b8ef5"), looks := true }, kinds := [], alts := [], laidByText := true, laidKinds := [.data], laidTests := true, laidLooks := .later }
def MayLivesUptoCardSaid : Prop := Claim7.holds Tryd.pinned (.plain (OpenSpec.upto mayLivesSpec)) mayLivesUptoCard

/-- THE SECOND FORM's CARD OF 'alibilaw16.MayMore'. -/
def mayMoreUptoCard : Claim7 := { stood := { row := mayMoreUptoRow, standIns := [], harness := (true, "b834cfcf1abae1de9f6a4b2fbf6e6520083de35172cef24f10451a1e3d4b8ef5"), looks := true }, kinds := [], alts := [], laidByText := true, laidKinds := [.data], laidTests := true, laidLooks := .later }
def MayMoreUptoCardSaid : Prop := Claim7.holds Tryd.pinned (.plain (OpenSpec.upto mayMoreSpec)) mayMoreUptoCard

/-- THE SECOND FORM's CARD OF 'alibilaw16.MayMeet'. -/
def mayMeetUptoCard : Claim7 := { stood := { row := mayMeetUptoRow, standIns := [], harness := (true, "b834cfcf1abae1de9f6a4b2fbf6e6520083de35172cef24f10451a1e3d4b8ef5"), looks := true }, kinds := [], alts := [], laidByText := true, laidKinds := [.data], laidTests := true, laidLooks := .later }
def MayMeetUptoCardSaid : Prop := Claim7.holds Tryd.pinned (.plain (OpenSpec.upto mayMeetSpec)) mayMeetUptoCard
end Rows
end Go.Proofs.YtoekiejipdabmaaDoor
