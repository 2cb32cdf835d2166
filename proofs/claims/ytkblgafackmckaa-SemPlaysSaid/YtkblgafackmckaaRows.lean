/-
  No cell of these rows narrows 'for every input' (looked for: loops, veiled, ifaces, maps, wideKeys, modest, calm, conditions, laid).
  DERIVED. THE GIVEN ROWS OF THIS SEAT. 6 by the template 'for every input the law returns true; each argument reads behind the call as it read before'; 0 by the template 'total and deterministic' (their statements: YtkblgafackmckaaTotals.lean).
  GIVEN WITH THE SEED: the statements are not yours to turn. If you find one false, say at which input.
  Laid BY PROGRAM, IN A SANDBOX (cutbox-rows.mjs): the forced cells as the released guide's own fill.sh prints them over the translation 958a8c96b1fd4d1f… (all of the seat's roots in one cut). By AI agents, Wed Nov 11 2026. No macro, syntax, notation, axiom, sorry.
-/
import Derived.Test.YtkblgafackmckaaChecked
import GoSem.Claim
import GoSem.ClaimJoined
import GoSem.ClaimMapViews
import Derived.JoinedTies
import Derived.KernelRfl
namespace Go.Proofs.Ytkblgafackmckaa
/- THE CELL 'sum', in the pinned program and in every row, IS THE sha256 OF THE DUMP (.gsa) THAT YtkblgafackmckaaProg.lean LOADS. Nothing in Lean hashes anything: it is a label: what it is worth is what the hold of that sum in a sandbox is worth. -/
noncomputable def Try.pinned : Pinned := { name := "ytkblgafackmckaa", sum := "958a8c96b1fd4d1f2f8d4f0577f7490da85c964b9ef4816c900c02ec9268c9ca", checked := Try.checked }
namespace Rows
def none {H : Type} : Left H := { results := [], args := [] }

/-- 'alibilaw09.SemPlays': WHATEVER THE INPUT: true; the input reads as it did. -/
def semPlaysSpec : ChangeSpec := { name := "semPlays", fn := fun _ => fun
  | [d1, d2, d3] => { results := [.lit (.bool true)], args := [d1, d2, d3] }
  | _ => none }
def semPlaysRow : OpenClaim := { program := "ytkblgafackmckaa", sum := "958a8c96b1fd4d1f2f8d4f0577f7490da85c964b9ef4816c900c02ec9268c9ca", func := "alibi/alibilaw09.SemPlays", spec := "semPlays", unfollowed := true, recurses := true, apart := false }
def SemPlaysSaid : Prop := semPlaysRow.holds Try.pinned (OpenSpec.ofChange semPlaysSpec)

/-- ITS FALSE NEIGHBOUR: 'it returns false'. Refute it at one input. -/
def semPlaysWrong : ChangeSpec := { name := "semPlays", fn := fun _ => fun
  | [d1, d2, d3] => { results := [.lit (.bool false)], args := [d1, d2, d3] }
  | _ => none }
def SemPlaysWrongFalsely : Prop := semPlaysRow.holds Try.pinned (OpenSpec.ofChange semPlaysWrong)

/-- 'alibilaw09.SemHolds': WHATEVER THE INPUT: true; the input reads as it did. -/
def semHoldsSpec : ChangeSpec := { name := "semHolds", fn := fun _ => fun
  | [d1, d2] => { results := [.lit (.bool true)], args := [d1, d2] }
  | _ => none }
def semHoldsRow : OpenClaim := { program := "ytkblgafackmckaa", sum := "958a8c96b1fd4d1f2f8d4f0577f7490da85c964b9ef4816c900c02ec9268c9ca", func := "alibi/alibilaw09.SemHolds", spec := "semHolds", unfollowed := true, recurses := true, apart := false }
def SemHoldsSaid : Prop := semHoldsRow.holds Try.pinned (OpenSpec.ofChange semHoldsSpec)

/-- ITS FALSE NEIGHBOUR: 'it returns false'. Refute it at one input. -/
def semHoldsWrong : ChangeSpec := { name := "semHolds", fn := fun _ => fun
  | [d1, d2] => { results := [.lit (.bool false)], args := [d1, d2] }
  | _ => none }
def SemHoldsWrongFalsely : Prop := semHoldsRow.holds Try.pinned (OpenSpec.ofChange semHoldsWrong)

/-- 'alibilaw09.SemOwn': WHATEVER THE INPUT: true; the input reads as it did. -/
def semOwnSpec : ChangeSpec := { name := "semOwn", fn := fun _ => fun
  | [d1, d2] => { results := [.lit (.bool true)], args := [d1, d2] }
  | _ => none }
def semOwnRow : OpenClaim := { program := "ytkblgafackmckaa", sum := "958a8c96b1fd4d1f2f8d4f0577f7490da85c964b9ef4816c900c02ec9268c9ca", func := "alibi/alibilaw09.SemOwn", spec := "semOwn", unfollowed := true, recurses := true, apart := false }
def SemOwnSaid : Prop := semOwnRow.holds Try.pinned (OpenSpec.ofChange semOwnSpec)

/-- ITS FALSE NEIGHBOUR: 'it returns false'. Refute it at one input. -/
def semOwnWrong : ChangeSpec := { name := "semOwn", fn := fun _ => fun
  | [d1, d2] => { results := [.lit (.bool false)], args := [d1, d2] }
  | _ => none }
def SemOwnWrongFalsely : Prop := semOwnRow.holds Try.pinned (OpenSpec.ofChange semOwnWrong)

/-- 'alibilaw09.SemSame': WHATEVER THE INPUT: true; the input reads as it did. -/
def semSameSpec : ChangeSpec := { name := "semSame", fn := fun _ => fun
  | [d1, d2, d3] => { results := [.lit (.bool true)], args := [d1, d2, d3] }
  | _ => none }
def semSameRow : OpenClaim := { program := "ytkblgafackmckaa", sum := "958a8c96b1fd4d1f2f8d4f0577f7490da85c964b9ef4816c900c02ec9268c9ca", func := "alibi/alibilaw09.SemSame", spec := "semSame", unfollowed := true, recurses := true, apart := false }
def SemSameSaid : Prop := semSameRow.holds Try.pinned (OpenSpec.ofChange semSameSpec)

/-- ITS FALSE NEIGHBOUR: 'it returns false'. Refute it at one input. -/
def semSameWrong : ChangeSpec := { name := "semSame", fn := fun _ => fun
  | [d1, d2, d3] => { results := [.lit (.bool false)], args := [d1, d2, d3] }
  | _ => none }
def SemSameWrongFalsely : Prop := semSameRow.holds Try.pinned (OpenSpec.ofChange semSameWrong)

/-- 'alibilaw09.SemWay': WHATEVER THE INPUT: true; the input reads as it did. -/
def semWaySpec : ChangeSpec := { name := "semWay", fn := fun _ => fun
  | [d1, d2, d3] => { results := [.lit (.bool true)], args := [d1, d2, d3] }
  | _ => none }
def semWayRow : OpenClaim := { program := "ytkblgafackmckaa", sum := "958a8c96b1fd4d1f2f8d4f0577f7490da85c964b9ef4816c900c02ec9268c9ca", func := "alibi/alibilaw09.SemWay", spec := "semWay", unfollowed := true, recurses := true, apart := false }
def SemWaySaid : Prop := semWayRow.holds Try.pinned (OpenSpec.ofChange semWaySpec)

/-- ITS FALSE NEIGHBOUR: 'it returns false'. Refute it at one input. -/
def semWayWrong : ChangeSpec := { name := "semWay", fn := fun _ => fun
  | [d1, d2, d3] => { results := [.lit (.bool false)], args := [d1, d2, d3] }
  | _ => none }
def SemWayWrongFalsely : Prop := semWayRow.holds Try.pinned (OpenSpec.ofChange semWayWrong)

/-- 'alibilaw09.SemLocks': WHATEVER THE INPUT: true; the input reads as it did. -/
def semLocksSpec : ChangeSpec := { name := "semLocks", fn := fun _ => fun
  | [d1, d2] => { results := [.lit (.bool true)], args := [d1, d2] }
  | _ => none }
def semLocksRow : OpenClaim := { program := "ytkblgafackmckaa", sum := "958a8c96b1fd4d1f2f8d4f0577f7490da85c964b9ef4816c900c02ec9268c9ca", func := "alibi/alibilaw09.SemLocks", spec := "semLocks", unfollowed := true, recurses := true, apart := false }
def SemLocksSaid : Prop := semLocksRow.holds Try.pinned (OpenSpec.ofChange semLocksSpec)

/-- ITS FALSE NEIGHBOUR: 'it returns false'. Refute it at one input. -/
def semLocksWrong : ChangeSpec := { name := "semLocks", fn := fun _ => fun
  | [d1, d2] => { results := [.lit (.bool false)], args := [d1, d2] }
  | _ => none }
def SemLocksWrongFalsely : Prop := semLocksRow.holds Try.pinned (OpenSpec.ofChange semLocksWrong)

/- THE SECOND FORM. 'bulk': how many values and letters a reading holds, each counted each time it is reached (what is shared counts as often as it is met; a slice's spare places count too). A statement '..UptoSaid' is the law's where the arguments, and the package variables that the reading takes, are together of bulk at most 1048576: NARROWER than '..Said'. Prove '..Said' where nothing that the law and all that it calls make is longer than what came in: it says more and counts as full. Else prove '..UptoSaid'. A law counts once. -/
mutual
def uptoBulk {H : Type} : DataW H → Nat
  | .lit (.string bytes) => bytes.length + 1
  | .lit _ => 1
  | .nil => 1
  | .ptr d => uptoBulk d + 1
  | .slice elems spare => uptoBulkAll elems + uptoBulkAll spare + 1
  | .agg parts => uptoBulkAll parts + 1
  | .iface _ d => uptoBulk d + 1
  | .map entries => uptoBulkEntries entries + 1
  | .held _ => 1
def uptoBulkAll {H : Type} : List (DataW H) → Nat
  | [] => 0
  | d :: r => uptoBulk d + uptoBulkAll r
def uptoBulkEntries {H : Type} : List (Lit × DataW H) → Nat
  | [] => 0
  | x :: r => uptoBulkEntry x + uptoBulkEntries r
def uptoBulkEntry {H : Type} : Lit × DataW H → Nat
  | (.string bytes, d) => bytes.length + uptoBulk d + 1
  | (_, d) => uptoBulk d + 1
 end
def uptoSmall : (H : Type) → List (DataW H) → Bool := fun _ ds => decide (uptoBulkAll ds ≤ 1048576)
def OpenSpec.upto (s : _root_.Go.ChangeSpec) : _root_.Go.OpenSpec := { _root_.Go.OpenSpec.ofChange s with cond := some uptoSmall }

/-- 'alibilaw09.SemPlays', WHERE WHAT IT READS IS OF BULK AT MOST 1048576: true; the input reads as it did. -/
def semPlaysUptoRow : OpenClaim := { program := "ytkblgafackmckaa", sum := "958a8c96b1fd4d1f2f8d4f0577f7490da85c964b9ef4816c900c02ec9268c9ca", func := "alibi/alibilaw09.SemPlays", spec := "semPlays", unfollowed := true, recurses := true, apart := false, narrowed := true }
def SemPlaysUptoSaid : Prop := semPlaysUptoRow.holds Try.pinned (OpenSpec.upto semPlaysSpec)

/-- 'alibilaw09.SemHolds', WHERE WHAT IT READS IS OF BULK AT MOST 1048576: true; the input reads as it did. -/
def semHoldsUptoRow : OpenClaim := { program := "ytkblgafackmckaa", sum := "958a8c96b1fd4d1f2f8d4f0577f7490da85c964b9ef4816c900c02ec9268c9ca", func := "alibi/alibilaw09.SemHolds", spec := "semHolds", unfollowed := true, recurses := true, apart := false, narrowed := true }
def SemHoldsUptoSaid : Prop := semHoldsUptoRow.holds Try.pinned (OpenSpec.upto semHoldsSpec)

/-- 'alibilaw09.SemOwn', WHERE WHAT IT READS IS OF BULK AT MOST 1048576: true; the input reads as it did. -/
def semOwnUptoRow : OpenClaim := { program := "ytkblgafackmckaa", sum := "958a8c96b1fd4d1f2f8d4f0577f7490da85c964b9ef4816c900c02ec9268c9ca", func := "alibi/alibilaw09.SemOwn", spec := "semOwn", unfollowed := true, recurses := true, apart := false, narrowed := true }
def SemOwnUptoSaid : Prop := semOwnUptoRow.holds Try.pinned (OpenSpec.upto semOwnSpec)

/-- 'alibilaw09.SemSame', WHERE WHAT IT READS IS OF BULK AT MOST 1048576: true; the input reads as it did. -/
def semSameUptoRow : OpenClaim := { program := "ytkblgafackmckaa", sum := "958a8c96b1fd4d1f2f8d4f0577f7490da85c964b9ef4816c900c02ec9268c9ca", func := "alibi/alibilaw09.SemSame", spec := "semSame", unfollowed := true, recurses := true, apart := false, narrowed := true }
def SemSameUptoSaid : Prop := semSameUptoRow.holds Try.pinned (OpenSpec.upto semSameSpec)

/-- 'alibilaw09.SemWay', WHERE WHAT IT READS IS OF BULK AT MOST 1048576: true; the input reads as it did. -/
def semWayUptoRow : OpenClaim := { program := "ytkblgafackmckaa", sum := "958a8c96b1fd4d1f2f8d4f0577f7490da85c964b9ef4816c900c02ec9268c9ca", func := "alibi/alibilaw09.SemWay", spec := "semWay", unfollowed := true, recurses := true, apart := false, narrowed := true }
def SemWayUptoSaid : Prop := semWayUptoRow.holds Try.pinned (OpenSpec.upto semWaySpec)

/-- 'alibilaw09.SemLocks', WHERE WHAT IT READS IS OF BULK AT MOST 1048576: true; the input reads as it did. -/
def semLocksUptoRow : OpenClaim := { program := "ytkblgafackmckaa", sum := "958a8c96b1fd4d1f2f8d4f0577f7490da85c964b9ef4816c900c02ec9268c9ca", func := "alibi/alibilaw09.SemLocks", spec := "semLocks", unfollowed := true, recurses := true, apart := false, narrowed := true }
def SemLocksUptoSaid : Prop := semLocksUptoRow.holds Try.pinned (OpenSpec.upto semLocksSpec)

end Rows
end Go.Proofs.Ytkblgafackmckaa
