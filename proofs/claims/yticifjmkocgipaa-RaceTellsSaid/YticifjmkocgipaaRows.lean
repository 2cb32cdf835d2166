/-
  No cell of these rows narrows 'for every input' (looked for: loops, veiled, ifaces, maps, wideKeys, modest, calm, conditions, laid).
  DERIVED. THE GIVEN ROWS OF THIS SEAT. 5 by the template 'for every input the law returns true; each argument reads behind the call as it read before'; 0 by the template 'total and deterministic' (their statements: YticifjmkocgipaaTotals.lean).
  GIVEN WITH THE SEED: the statements are not yours to turn. If you find one false, say at which input.
  Laid BY PROGRAM, IN A SANDBOX (cutbox-rows.mjs): the forced cells as the released guide's own fill.sh prints them over the translation e3383c40b6a6f96a… (all of the seat's roots in one cut). By AI agents, Wed Nov 11 2026. No macro, syntax, notation, axiom, sorry.
-/
import Derived.Test.YticifjmkocgipaaChecked
import GoSem.Claim
import GoSem.ClaimJoined
import GoSem.ClaimMapViews
import Derived.JoinedTies
import Derived.KernelRfl
namespace Go.Proofs.Yticifjmkocgipaa
/- THE CELL 'sum', in the pinned program and in every row, IS THE sha256 OF THE DUMP (.gsa) THAT YticifjmkocgipaaProg.lean LOADS. Nothing in Lean hashes anything: it is a label: what it is worth is what the hold of that sum in a sandbox is worth. -/
noncomputable def Try.pinned : Pinned := { name := "yticifjmkocgipaa", sum := "e3383c40b6a6f96a27a1ae22bcf8d65cfbb3a0a60f5989dfe1cc06ff9f4ab050", checked := Try.checked }
namespace Rows
def none {H : Type} : Left H := { results := [], args := [] }

/-- 'alibilaw10.RaceTells': WHATEVER THE INPUT: true; the input reads as it did. -/
def raceTellsSpec : ChangeSpec := { name := "raceTells", fn := fun _ => fun
  | [d1, d2, d3, d4, d5] => { results := [.lit (.bool true)], args := [d1, d2, d3, d4, d5] }
  | _ => none }
def raceTellsRow : OpenClaim := { program := "yticifjmkocgipaa", sum := "e3383c40b6a6f96a27a1ae22bcf8d65cfbb3a0a60f5989dfe1cc06ff9f4ab050", func := "alibi/alibilaw10.RaceTells", spec := "raceTells", unfollowed := true, recurses := true, apart := false }
def RaceTellsSaid : Prop := raceTellsRow.holds Try.pinned (OpenSpec.ofChange raceTellsSpec)

/-- ITS FALSE NEIGHBOUR: 'it returns false'. Refute it at one input. -/
def raceTellsWrong : ChangeSpec := { name := "raceTells", fn := fun _ => fun
  | [d1, d2, d3, d4, d5] => { results := [.lit (.bool false)], args := [d1, d2, d3, d4, d5] }
  | _ => none }
def RaceTellsWrongFalsely : Prop := raceTellsRow.holds Try.pinned (OpenSpec.ofChange raceTellsWrong)

/-- 'alibilaw10.RaceBoth': WHATEVER THE INPUT: true; the input reads as it did. -/
def raceBothSpec : ChangeSpec := { name := "raceBoth", fn := fun _ => fun
  | [d1, d2] => { results := [.lit (.bool true)], args := [d1, d2] }
  | _ => none }
def raceBothRow : OpenClaim := { program := "yticifjmkocgipaa", sum := "e3383c40b6a6f96a27a1ae22bcf8d65cfbb3a0a60f5989dfe1cc06ff9f4ab050", func := "alibi/alibilaw10.RaceBoth", spec := "raceBoth", unfollowed := true, recurses := true, apart := false }
def RaceBothSaid : Prop := raceBothRow.holds Try.pinned (OpenSpec.ofChange raceBothSpec)

/-- ITS FALSE NEIGHBOUR: 'it returns false'. Refute it at one input. -/
def raceBothWrong : ChangeSpec := { name := "raceBoth", fn := fun _ => fun
  | [d1, d2] => { results := [.lit (.bool false)], args := [d1, d2] }
  | _ => none }
def RaceBothWrongFalsely : Prop := raceBothRow.holds Try.pinned (OpenSpec.ofChange raceBothWrong)

/-- 'alibilaw10.RaceLocks': WHATEVER THE INPUT: true; the input reads as it did. -/
def raceLocksSpec : ChangeSpec := { name := "raceLocks", fn := fun _ => fun
  | [d1, d2] => { results := [.lit (.bool true)], args := [d1, d2] }
  | _ => none }
def raceLocksRow : OpenClaim := { program := "yticifjmkocgipaa", sum := "e3383c40b6a6f96a27a1ae22bcf8d65cfbb3a0a60f5989dfe1cc06ff9f4ab050", func := "alibi/alibilaw10.RaceLocks", spec := "raceLocks", unfollowed := true, recurses := true, apart := false }
def RaceLocksSaid : Prop := raceLocksRow.holds Try.pinned (OpenSpec.ofChange raceLocksSpec)

/-- ITS FALSE NEIGHBOUR: 'it returns false'. Refute it at one input. -/
def raceLocksWrong : ChangeSpec := { name := "raceLocks", fn := fun _ => fun
  | [d1, d2] => { results := [.lit (.bool false)], args := [d1, d2] }
  | _ => none }
def RaceLocksWrongFalsely : Prop := raceLocksRow.holds Try.pinned (OpenSpec.ofChange raceLocksWrong)

/-- 'alibilaw10.RaceReads': WHATEVER THE INPUT: true; the input reads as it did. -/
def raceReadsSpec : ChangeSpec := { name := "raceReads", fn := fun _ => fun
  | [d1, d2] => { results := [.lit (.bool true)], args := [d1, d2] }
  | _ => none }
def raceReadsRow : OpenClaim := { program := "yticifjmkocgipaa", sum := "e3383c40b6a6f96a27a1ae22bcf8d65cfbb3a0a60f5989dfe1cc06ff9f4ab050", func := "alibi/alibilaw10.RaceReads", spec := "raceReads", unfollowed := true, recurses := true, apart := false }
def RaceReadsSaid : Prop := raceReadsRow.holds Try.pinned (OpenSpec.ofChange raceReadsSpec)

/-- ITS FALSE NEIGHBOUR: 'it returns false'. Refute it at one input. -/
def raceReadsWrong : ChangeSpec := { name := "raceReads", fn := fun _ => fun
  | [d1, d2] => { results := [.lit (.bool false)], args := [d1, d2] }
  | _ => none }
def RaceReadsWrongFalsely : Prop := raceReadsRow.holds Try.pinned (OpenSpec.ofChange raceReadsWrong)

/-- 'alibilaw10.RaceMore': WHATEVER THE INPUT: true; the input reads as it did. -/
def raceMoreSpec : ChangeSpec := { name := "raceMore", fn := fun _ => fun
  | [d1, d2, d3] => { results := [.lit (.bool true)], args := [d1, d2, d3] }
  | _ => none }
def raceMoreRow : OpenClaim := { program := "yticifjmkocgipaa", sum := "e3383c40b6a6f96a27a1ae22bcf8d65cfbb3a0a60f5989dfe1cc06ff9f4ab050", func := "alibi/alibilaw10.RaceMore", spec := "raceMore", unfollowed := true, recurses := true, apart := false }
def RaceMoreSaid : Prop := raceMoreRow.holds Try.pinned (OpenSpec.ofChange raceMoreSpec)

/-- ITS FALSE NEIGHBOUR: 'it returns false'. Refute it at one input. -/
def raceMoreWrong : ChangeSpec := { name := "raceMore", fn := fun _ => fun
  | [d1, d2, d3] => { results := [.lit (.bool false)], args := [d1, d2, d3] }
  | _ => none }
def RaceMoreWrongFalsely : Prop := raceMoreRow.holds Try.pinned (OpenSpec.ofChange raceMoreWrong)

/- THE SECOND FORM. 'bulk': how many values and letters a reading holds, each counted each time it is reached (what is shared counts as often as it is met; a slice's spare places count too). A statement '..UptoSaid' is the law's where the arguments, and the package variables that the reading takes, are together of bulk at most 1048576: NARROWER than '..Said'. Prove '..Said' where nothing that the law and all that it calls make is longer than what came in: it says more and counts as full. Else prove '..UptoSaid'. A law counts once. -/
mutual
def uptoBulk {H : Type} : DataW H → Nat
  | .lit (.string bytes) => bytes.length + 1
  | .lit _ => 1
  | .nil => 1
  | .ptr d => uptoBulk d + 1
  | .slice elems spare => uptoBulkAll elems + uptoBulkAll spare + 1
  | .agg parts => uptoBulkAll parts + 1
  | .iface _ d => uptoBulk d + 1
  | .map entries => uptoBulkEntries entries + 1
  | .held _ => 1
def uptoBulkAll {H : Type} : List (DataW H) → Nat
  | [] => 0
  | d :: r => uptoBulk d + uptoBulkAll r
def uptoBulkEntries {H : Type} : List (Lit × DataW H) → Nat
  | [] => 0
  | x :: r => uptoBulkEntry x + uptoBulkEntries r
def uptoBulkEntry {H : Type} : Lit × DataW H → Nat
  | (.string bytes, d) => bytes.length + uptoBulk d + 1
  | (_, d) => uptoBulk d + 1
 end
def uptoSmall : (H : Type) → List (DataW H) → Bool := fun _ ds => decide (uptoBulkAll ds ≤ 1048576)
def OpenSpec.upto (s : _root_.Go.ChangeSpec) : _root_.Go.OpenSpec := { _root_.Go.OpenSpec.ofChange s with cond := some uptoSmall }

/-- 'alibilaw10.RaceTells', WHERE WHAT IT READS IS OF BULK AT MOST 1048576: true; the input reads as it did. -/
def raceTellsUptoRow : OpenClaim := { program := "yticifjmkocgipaa", sum := "e3383c40b6a6f96a27a1ae22bcf8d65cfbb3a0a60f5989dfe1cc06ff9f4ab050", func := "alibi/alibilaw10.RaceTells", spec := "raceTells", unfollowed := true, recurses := true, apart := false, narrowed := true }
def RaceTellsUptoSaid : Prop := raceTellsUptoRow.holds Try.pinned (OpenSpec.upto raceTellsSpec)

/-- 'alibilaw10.RaceBoth', WHERE WHAT IT READS IS OF BULK AT MOST 1048576: true; the input reads as it did. -/
def raceBothUptoRow : OpenClaim := { program := "yticifjmkocgipaa", sum := "e3383c40b6a6f96a27a1ae22bcf8d65cfbb3a0a60f5989dfe1cc06ff9f4ab050", func := "alibi/alibilaw10.RaceBoth", spec := "raceBoth", unfollowed := true, recurses := true, apart := false, narrowed := true }
def RaceBothUptoSaid : Prop := raceBothUptoRow.holds Try.pinned (OpenSpec.upto raceBothSpec)

/-- 'alibilaw10.RaceLocks', WHERE WHAT IT READS IS OF BULK AT MOST 1048576: true; the input reads as it did. -/
def raceLocksUptoRow : OpenClaim := { program := "yticifjmkocgipaa", sum := "e3383c40b6a6f96a27a1ae22bcf8d65cfbb3a0a60f5989dfe1cc06ff9f4ab050", func := "alibi/alibilaw10.RaceLocks", spec := "raceLocks", unfollowed := true, recurses := true, apart := false, narrowed := true }
def RaceLocksUptoSaid : Prop := raceLocksUptoRow.holds Try.pinned (OpenSpec.upto raceLocksSpec)

/-- 'alibilaw10.RaceReads', WHERE WHAT IT READS IS OF BULK AT MOST 1048576: true; the input reads as it did. -/
def raceReadsUptoRow : OpenClaim := { program := "yticifjmkocgipaa", sum := "e3383c40b6a6f96a27a1ae22bcf8d65cfbb3a0a60f5989dfe1cc06ff9f4ab050", func := "alibi/alibilaw10.RaceReads", spec := "raceReads", unfollowed := true, recurses := true, apart := false, narrowed := true }
def RaceReadsUptoSaid : Prop := raceReadsUptoRow.holds Try.pinned (OpenSpec.upto raceReadsSpec)

/-- 'alibilaw10.RaceMore', WHERE WHAT IT READS IS OF BULK AT MOST 1048576: true; the input reads as it did. -/
def raceMoreUptoRow : OpenClaim := { program := "yticifjmkocgipaa", sum := "e3383c40b6a6f96a27a1ae22bcf8d65cfbb3a0a60f5989dfe1cc06ff9f4ab050", func := "alibi/alibilaw10.RaceMore", spec := "raceMore", unfollowed := true, recurses := true, apart := false, narrowed := true }
def RaceMoreUptoSaid : Prop := raceMoreUptoRow.holds Try.pinned (OpenSpec.upto raceMoreSpec)

end Rows
end Go.Proofs.Yticifjmkocgipaa
