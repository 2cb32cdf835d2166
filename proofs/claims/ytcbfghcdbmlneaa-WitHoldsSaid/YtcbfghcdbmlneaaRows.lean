/-
  No cell of these rows narrows 'for every input' (looked for: loops, veiled, ifaces, maps, wideKeys, modest, calm, conditions, laid).
  DERIVED. THE GIVEN ROWS OF THIS SEAT. 6 by the template 'for every input the law returns true; each argument reads behind the call as it read before'; 0 by the template 'total and deterministic' (their statements: YtcbfghcdbmlneaaTotals.lean).
  GIVEN WITH THE SEED: the statements are not yours to turn. If you find one false, say at which input.
  Laid BY PROGRAM, IN A SANDBOX (cutbox-rows.mjs): the forced cells as the released guide's own fill.sh prints them over the translation daa867dde77742c6… (all of the seat's roots in one cut). By AI agents, Wed Nov 11 2026. No macro, syntax, notation, axiom, sorry.
-/
import Derived.Test.YtcbfghcdbmlneaaChecked
import GoSem.Claim
import GoSem.ClaimJoined
import GoSem.ClaimMapViews
import Derived.JoinedTies
import Derived.KernelRfl
namespace Go.Proofs.Ytcbfghcdbmlneaa
/- THE CELL 'sum', in the pinned program and in every row, IS THE sha256 OF THE DUMP (.gsa) THAT YtcbfghcdbmlneaaProg.lean LOADS. Nothing in Lean hashes anything: it is a label: what it is worth is what the hold of that sum in a sandbox is worth. -/
noncomputable def Try.pinned : Pinned := { name := "ytcbfghcdbmlneaa", sum := "daa867dde77742c62f68987fdacae3abbd310656432df5ebac71fff6dbef525d", checked := Try.checked }
namespace Rows
def none {H : Type} : Left H := { results := [], args := [] }

/-- 'alibilaw13.WitWrites': WHATEVER THE INPUT: true; the input reads as it did. -/
def witWritesSpec : ChangeSpec := { name := "witWrites", fn := fun _ => fun
  | [d] => { results := [.lit (.bool true)], args := [d] }
  | _ => none }
def witWritesRow : OpenClaim := { program := "ytcbfghcdbmlneaa", sum := "daa867dde77742c62f68987fdacae3abbd310656432df5ebac71fff6dbef525d", func := "alibi/alibilaw13.WitWrites", spec := "witWrites", recurses := true, apart := false }
def WitWritesSaid : Prop := witWritesRow.holds Try.pinned (OpenSpec.ofChange witWritesSpec)

/-- ITS FALSE NEIGHBOUR: 'it returns false'. Refute it at one input. -/
def witWritesWrong : ChangeSpec := { name := "witWrites", fn := fun _ => fun
  | [d] => { results := [.lit (.bool false)], args := [d] }
  | _ => none }
def WitWritesWrongFalsely : Prop := witWritesRow.holds Try.pinned (OpenSpec.ofChange witWritesWrong)

/-- 'alibilaw13.WitReads': WHATEVER THE INPUT: true; the input reads as it did. -/
def witReadsSpec : ChangeSpec := { name := "witReads", fn := fun _ => fun
  | [d] => { results := [.lit (.bool true)], args := [d] }
  | _ => none }
def witReadsRow : OpenClaim := { program := "ytcbfghcdbmlneaa", sum := "daa867dde77742c62f68987fdacae3abbd310656432df5ebac71fff6dbef525d", func := "alibi/alibilaw13.WitReads", spec := "witReads", apart := false }
def WitReadsSaid : Prop := witReadsRow.holds Try.pinned (OpenSpec.ofChange witReadsSpec)

/-- ITS FALSE NEIGHBOUR: 'it returns false'. Refute it at one input. -/
def witReadsWrong : ChangeSpec := { name := "witReads", fn := fun _ => fun
  | [d] => { results := [.lit (.bool false)], args := [d] }
  | _ => none }
def WitReadsWrongFalsely : Prop := witReadsRow.holds Try.pinned (OpenSpec.ofChange witReadsWrong)

/-- 'alibilaw13.WitBack': WHATEVER THE INPUT: true; the input reads as it did. -/
def witBackSpec : ChangeSpec := { name := "witBack", fn := fun _ => fun
  | [d1, d2, d3] => { results := [.lit (.bool true)], args := [d1, d2, d3] }
  | _ => none }
def witBackRow : OpenClaim := { program := "ytcbfghcdbmlneaa", sum := "daa867dde77742c62f68987fdacae3abbd310656432df5ebac71fff6dbef525d", func := "alibi/alibilaw13.WitBack", spec := "witBack", apart := false }
def WitBackSaid : Prop := witBackRow.holds Try.pinned (OpenSpec.ofChange witBackSpec)

/-- ITS FALSE NEIGHBOUR: 'it returns false'. Refute it at one input. -/
def witBackWrong : ChangeSpec := { name := "witBack", fn := fun _ => fun
  | [d1, d2, d3] => { results := [.lit (.bool false)], args := [d1, d2, d3] }
  | _ => none }
def WitBackWrongFalsely : Prop := witBackRow.holds Try.pinned (OpenSpec.ofChange witBackWrong)

/-- 'alibilaw13.WitHolds': WHATEVER THE INPUT: true; the input reads as it did. -/
def witHoldsSpec : ChangeSpec := { name := "witHolds", fn := fun _ => fun
  | [d1, d2] => { results := [.lit (.bool true)], args := [d1, d2] }
  | _ => none }
def witHoldsRow : OpenClaim := { program := "ytcbfghcdbmlneaa", sum := "daa867dde77742c62f68987fdacae3abbd310656432df5ebac71fff6dbef525d", func := "alibi/alibilaw13.WitHolds", spec := "witHolds", unfollowed := true, recurses := true, apart := false }
def WitHoldsSaid : Prop := witHoldsRow.holds Try.pinned (OpenSpec.ofChange witHoldsSpec)

/-- ITS FALSE NEIGHBOUR: 'it returns false'. Refute it at one input. -/
def witHoldsWrong : ChangeSpec := { name := "witHolds", fn := fun _ => fun
  | [d1, d2] => { results := [.lit (.bool false)], args := [d1, d2] }
  | _ => none }
def WitHoldsWrongFalsely : Prop := witHoldsRow.holds Try.pinned (OpenSpec.ofChange witHoldsWrong)

/-- 'alibilaw13.WitOf': WHATEVER THE INPUT: true; the input reads as it did. -/
def witOfSpec : ChangeSpec := { name := "witOf", fn := fun _ => fun
  | [d1, d2] => { results := [.lit (.bool true)], args := [d1, d2] }
  | _ => none }
def witOfRow : OpenClaim := { program := "ytcbfghcdbmlneaa", sum := "daa867dde77742c62f68987fdacae3abbd310656432df5ebac71fff6dbef525d", func := "alibi/alibilaw13.WitOf", spec := "witOf", unfollowed := true, recurses := true, apart := false }
def WitOfSaid : Prop := witOfRow.holds Try.pinned (OpenSpec.ofChange witOfSpec)

/-- ITS FALSE NEIGHBOUR: 'it returns false'. Refute it at one input. -/
def witOfWrong : ChangeSpec := { name := "witOf", fn := fun _ => fun
  | [d1, d2] => { results := [.lit (.bool false)], args := [d1, d2] }
  | _ => none }
def WitOfWrongFalsely : Prop := witOfRow.holds Try.pinned (OpenSpec.ofChange witOfWrong)

/-- 'alibilaw13.WitFound': WHATEVER THE INPUT: true; the input reads as it did. -/
def witFoundSpec : ChangeSpec := { name := "witFound", fn := fun _ => fun
  | [d1, d2] => { results := [.lit (.bool true)], args := [d1, d2] }
  | _ => none }
def witFoundRow : OpenClaim := { program := "ytcbfghcdbmlneaa", sum := "daa867dde77742c62f68987fdacae3abbd310656432df5ebac71fff6dbef525d", func := "alibi/alibilaw13.WitFound", spec := "witFound", unfollowed := true, recurses := true, apart := false }
def WitFoundSaid : Prop := witFoundRow.holds Try.pinned (OpenSpec.ofChange witFoundSpec)

/-- ITS FALSE NEIGHBOUR: 'it returns false'. Refute it at one input. -/
def witFoundWrong : ChangeSpec := { name := "witFound", fn := fun _ => fun
  | [d1, d2] => { results := [.lit (.bool false)], args := [d1, d2] }
  | _ => none }
def WitFoundWrongFalsely : Prop := witFoundRow.holds Try.pinned (OpenSpec.ofChange witFoundWrong)

/- THE SECOND FORM. 'bulk': how many values and letters a reading holds, each counted each time it is reached (what is shared counts as often as it is met; a slice's spare places count too). A statement '..UptoSaid' is the law's where the arguments, and the package variables that the reading takes, are together of bulk at most 1048576: NARROWER than '..Said'. Prove '..Said' where nothing that the law and all that it calls make is longer than what came in: it says more and counts as full. Else prove '..UptoSaid'. A law counts once. -/
mutual
def uptoBulk {H : Type} : DataW H → Nat
  | .lit (.string bytes) => bytes.length + 1
  | .lit _ => 1
  | .nil => 1
  | .ptr d => uptoBulk d + 1
  | .slice elems spare => uptoBulkAll elems + uptoBulkAll spare + 1
  | .agg parts => uptoBulkAll parts + 1
  | .iface _ d => uptoBulk d + 1
  | .map entries => uptoBulkEntries entries + 1
  | .held _ => 1
def uptoBulkAll {H : Type} : List (DataW H) → Nat
  | [] => 0
  | d :: r => uptoBulk d + uptoBulkAll r
def uptoBulkEntries {H : Type} : List (Lit × DataW H) → Nat
  | [] => 0
  | x :: r => uptoBulkEntry x + uptoBulkEntries r
def uptoBulkEntry {H : Type} : Lit × DataW H → Nat
  | (.string bytes, d) => bytes.length + uptoBulk d + 1
  | (_, d) => uptoBulk d + 1
 end
def uptoSmall : (H : Type) → List (DataW H) → Bool := fun _ ds => decide (uptoBulkAll ds ≤ 1048576)
def OpenSpec.upto (s : _root_.Go.ChangeSpec) : _root_.Go.OpenSpec := { _root_.Go.OpenSpec.ofChange s with cond := some uptoSmall }

/-- 'alibilaw13.WitWrites', WHERE WHAT IT READS IS OF BULK AT MOST 1048576: true; the input reads as it did. -/
def witWritesUptoRow : OpenClaim := { program := "ytcbfghcdbmlneaa", sum := "daa867dde77742c62f68987fdacae3abbd310656432df5ebac71fff6dbef525d", func := "alibi/alibilaw13.WitWrites", spec := "witWrites", recurses := true, apart := false, narrowed := true }
def WitWritesUptoSaid : Prop := witWritesUptoRow.holds Try.pinned (OpenSpec.upto witWritesSpec)

/-- 'alibilaw13.WitReads', WHERE WHAT IT READS IS OF BULK AT MOST 1048576: true; the input reads as it did. -/
def witReadsUptoRow : OpenClaim := { program := "ytcbfghcdbmlneaa", sum := "daa867dde77742c62f68987fdacae3abbd310656432df5ebac71fff6dbef525d", func := "alibi/alibilaw13.WitReads", spec := "witReads", apart := false, narrowed := true }
def WitReadsUptoSaid : Prop := witReadsUptoRow.holds Try.pinned (OpenSpec.upto witReadsSpec)

/-- 'alibilaw13.WitBack', WHERE WHAT IT READS IS OF BULK AT MOST 1048576: true; the input reads as it did. -/
def witBackUptoRow : OpenClaim := { program := "ytcbfghcdbmlneaa", sum := "daa867dde77742c62f68987fdacae3abbd310656432df5ebac71fff6dbef525d", func := "alibi/alibilaw13.WitBack", spec := "witBack", apart := false, narrowed := true }
def WitBackUptoSaid : Prop := witBackUptoRow.holds Try.pinned (OpenSpec.upto witBackSpec)

/-- 'alibilaw13.WitHolds', WHERE WHAT IT READS IS OF BULK AT MOST 1048576: true; the input reads as it did. -/
def witHoldsUptoRow : OpenClaim := { program := "ytcbfghcdbmlneaa", sum := "daa867dde77742c62f68987fdacae3abbd310656432df5ebac71fff6dbef525d", func := "alibi/alibilaw13.WitHolds", spec := "witHolds", unfollowed := true, recurses := true, apart := false, narrowed := true }
def WitHoldsUptoSaid : Prop := witHoldsUptoRow.holds Try.pinned (OpenSpec.upto witHoldsSpec)

/-- 'alibilaw13.WitOf', WHERE WHAT IT READS IS OF BULK AT MOST 1048576: true; the input reads as it did. -/
def witOfUptoRow : OpenClaim := { program := "ytcbfghcdbmlneaa", sum := "daa867dde77742c62f68987fdacae3abbd310656432df5ebac71fff6dbef525d", func := "alibi/alibilaw13.WitOf", spec := "witOf", unfollowed := true, recurses := true, apart := false, narrowed := true }
def WitOfUptoSaid : Prop := witOfUptoRow.holds Try.pinned (OpenSpec.upto witOfSpec)

/-- 'alibilaw13.WitFound', WHERE WHAT IT READS IS OF BULK AT MOST 1048576: true; the input reads as it did. -/
def witFoundUptoRow : OpenClaim := { program := "ytcbfghcdbmlneaa", sum := "daa867dde77742c62f68987fdacae3abbd310656432df5ebac71fff6dbef525d", func := "alibi/alibilaw13.WitFound", spec := "witFound", unfollowed := true, recurses := true, apart := false, narrowed := true }
def WitFoundUptoSaid : Prop := witFoundUptoRow.holds Try.pinned (OpenSpec.upto witFoundSpec)

end Rows
end Go.Proofs.Ytcbfghcdbmlneaa
