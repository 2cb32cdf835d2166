/-
  DERIVED. GIVEN WITH THE SEED: THE CARDS: each row of YtfiafbflhglpeaaDoorRows.lean that lists a variable, with what it lists TIED to the program's text (the seventh form; the later family's looks); each row that meets fmt, with fmt's text TOLD by the authors' own Lean function (tested against real Go, not proved from fmt's source: count such statements apart). THE CARD IS WHAT COUNTS. Prove the row's statement (the work); the ties are given (YtfiafbflhglpeaaDoorTie.lean); close each card by the builder's one call (the guide's Derived/Test/ToyasCard.lean, 'card_holds'). Laid BY PROGRAM, IN A SANDBOX (cutbox-door.mjs). By AI agents, Wed Nov 11 2026. No macro, syntax, notation, axiom, sorry.
-/
import Derived.Test.YtfiafbflhglpeaaDoorRows
import GoSem.ClaimSeven
namespace Go.Proofs.YtfiafbflhglpeaaDoor
namespace Rows

/-- THE TIED CARD OF 'alibilaw14.KillTells'. -/
def killTellsCard : Claim7 := { stood := { row := killTellsRow, standIns := [], harness := (true, "23f0d80e4607a297a586eb0a25e17381165817eec2ce4a13b6ccb85020336d35"), looks := true }, kinds := [], alts := [], laidByText := true, laidKinds := [.data], laidTests := true, laidLooks := .later }
def KillTellsCardSaid : Prop := Claim7.holds Tryd.pinned (.plain (OpenSpec.ofChange killTellsSpec)) killTellsCard

/-- THE TIED CARD OF 'alibilaw14.KillCalls'. -/
def killCallsCard : Claim7 := { stood := { row := killCallsRow, standIns := [], harness := (true, "23f0d80e4607a297a586eb0a25e17381165817eec2ce4a13b6ccb85020336d35"), looks := true }, kinds := [], alts := [], laidByText := true, laidKinds := [.data], laidTests := true, laidLooks := .later }
def KillCallsCardSaid : Prop := Claim7.holds Tryd.pinned (.plain (OpenSpec.ofChange killCallsSpec)) killCallsCard

/-- THE TIED CARD OF 'alibilaw14.KillKeeps'. -/
def killKeepsCard : Claim7 := { stood := { row := killKeepsRow, standIns := [], harness := (true, "23f0d80e4607a297a586eb0a25e17381165817eec2ce4a13b6ccb85020336d35"), looks := true }, kinds := [], alts := [], laidByText := true, laidKinds := [.data], laidTests := true, laidLooks := .later }
def KillKeepsCardSaid : Prop := Claim7.holds Tryd.pinned (.plain (OpenSpec.ofChange killKeepsSpec)) killKeepsCard

/-- THE TIED CARD OF 'alibilaw14.KillTrue'. -/
def killTrueCard : Claim7 := { stood := { row := killTrueRow, standIns := [], harness := (true, "23f0d80e4607a297a586eb0a25e17381165817eec2ce4a13b6ccb85020336d35"), looks := true }, kinds := [], alts := [], laidByText := true, laidKinds := [.data], laidTests := true, laidLooks := .later }
def KillTrueCardSaid : Prop := Claim7.holds Tryd.pinned (.plain (OpenSpec.ofChange killTrueSpec)) killTrueCard

/-- THE SECOND FORM's CARD OF 'alibilaw14.KillTells'. -/
def killTellsUptoCard : Claim7 := { stood := { row := killTellsUptoRow, standIns := [], harness := (true, "23f0d80e4607a297a586eb0a25e17381165817eec2ce4a13b6ccb85020336d35"), looks := true }, kinds := [], alts := [], laidByText := true, laidKinds := [.data], laidTests := true, laidLooks := .later }
def KillTellsUptoCardSaid : Prop := Claim7.holds Tryd.pinned (.plain (OpenSpec.upto killTellsSpec)) killTellsUptoCard

/-- THE SECOND FORM's CARD OF 'alibilaw14.KillCalls'. -/
def killCallsUptoCard : Claim7 := { stood := { row := killCallsUptoRow, standIns := [], harness := (true, "23f0d80e4607a297a586eb0a25e17381165817eec2ce4a13b6ccb85020336d35"), looks := true }, kinds := [], alts := [], laidByText := true, laidKinds := [.data], laidTests := true, laidLooks := .later }
def KillCallsUptoCardSaid : Prop := Claim7.holds Tryd.pinned (.plain (OpenSpec.upto killCallsSpec)) killCallsUptoCard

/-- THE SECOND FORM's CARD OF 'alibilaw14.KillKeeps'. -/
def killKeepsUptoCard : Claim7 := { stood := { row := killKeepsUptoRow, standIns := [], harness := (true, "23f0d80e4607a297a586eb0a25e17381165817eec2ce4a13b6ccb85020336d35"), looks := true }, kinds := [], alts := [], laidByText := true, laidKinds := [.data], laidTests := true, laidLooks := .later }
def KillKeepsUptoCardSaid : Prop := Claim7.holds Tryd.pinned (.plain (OpenSpec.upto killKeepsSpec)) killKeepsUptoCard

/-- THE SECOND FORM's CARD OF 'alibilaw14.KillTrue'. -/
def killTrueUptoCard : Claim7 := { stood := { row := killTrueUptoRow, standIns := [], harness := (true, "23f0d80e4607a297a586eb0a25e17381165817eec2ce4a13b6ccb85020336d35"), looks := true }, kinds := [], alts := [], laidByText := true, laidKinds := [.data], laidTests := true, laidLooks := .later }
def KillTrueUptoCardSaid : Prop := Claim7.holds Tryd.pinned (.plain (OpenSpec.upto killTrueSpec)) killTrueUptoCard
end Rows
end Go.Proofs.YtfiafbflhglpeaaDoor
