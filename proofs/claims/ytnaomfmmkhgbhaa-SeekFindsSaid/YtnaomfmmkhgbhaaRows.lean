/-
  No cell of these rows narrows 'for every input' (looked for: loops, veiled, ifaces, maps, wideKeys, modest, calm, conditions, laid).
  DERIVED. THE GIVEN ROWS OF THIS SEAT. 5 by the template 'for every input the law returns true; each argument reads behind the call as it read before'; 0 by the template 'total and deterministic' (their statements: YtnaomfmmkhgbhaaTotals.lean).
  GIVEN WITH THE SEED: the statements are not yours to turn. If you find one false, say at which input.
  Laid BY PROGRAM, IN A SANDBOX (cutbox-rows.mjs): the forced cells as the released guide's own fill.sh prints them over the translation 767599fe3a9ea444… (all of the seat's roots in one cut). By AI agents, Wed Nov 11 2026. No macro, syntax, notation, axiom, sorry.
-/
import Derived.Test.YtnaomfmmkhgbhaaChecked
import GoSem.Claim
import GoSem.ClaimJoined
import GoSem.ClaimMapViews
import Derived.JoinedTies
import Derived.KernelRfl
namespace Go.Proofs.Ytnaomfmmkhgbhaa
/- THE CELL 'sum', in the pinned program and in every row, IS THE sha256 OF THE DUMP (.gsa) THAT YtnaomfmmkhgbhaaProg.lean LOADS. Nothing in Lean hashes anything: it is a label: what it is worth is what the hold of that sum in a sandbox is worth. -/
noncomputable def Try.pinned : Pinned := { name := "ytnaomfmmkhgbhaa", sum := "767599fe3a9ea4443a8b767e1be73fdc3decb45a8729ec5b92d51d7d94ddd3a4", checked := Try.checked }
namespace Rows
def none {H : Type} : Left H := { results := [], args := [] }

/-- 'alibilaw12.SeekFinds': WHATEVER THE INPUT: true; the input reads as it did. -/
def seekFindsSpec : ChangeSpec := { name := "seekFinds", fn := fun _ => fun
  | [d1, d2] => { results := [.lit (.bool true)], args := [d1, d2] }
  | _ => none }
def seekFindsRow : OpenClaim := { program := "ytnaomfmmkhgbhaa", sum := "767599fe3a9ea4443a8b767e1be73fdc3decb45a8729ec5b92d51d7d94ddd3a4", func := "alibi/alibilaw12.SeekFinds", spec := "seekFinds", unfollowed := true, recurses := true, apart := false }
def SeekFindsSaid : Prop := seekFindsRow.holds Try.pinned (OpenSpec.ofChange seekFindsSpec)

/-- ITS FALSE NEIGHBOUR: 'it returns false'. Refute it at one input. -/
def seekFindsWrong : ChangeSpec := { name := "seekFinds", fn := fun _ => fun
  | [d1, d2] => { results := [.lit (.bool false)], args := [d1, d2] }
  | _ => none }
def SeekFindsWrongFalsely : Prop := seekFindsRow.holds Try.pinned (OpenSpec.ofChange seekFindsWrong)

/-- 'alibilaw12.SeekTrue': WHATEVER THE INPUT: true; the input reads as it did. -/
def seekTrueSpec : ChangeSpec := { name := "seekTrue", fn := fun _ => fun
  | [d1, d2] => { results := [.lit (.bool true)], args := [d1, d2] }
  | _ => none }
def seekTrueRow : OpenClaim := { program := "ytnaomfmmkhgbhaa", sum := "767599fe3a9ea4443a8b767e1be73fdc3decb45a8729ec5b92d51d7d94ddd3a4", func := "alibi/alibilaw12.SeekTrue", spec := "seekTrue", unfollowed := true, recurses := true, apart := false }
def SeekTrueSaid : Prop := seekTrueRow.holds Try.pinned (OpenSpec.ofChange seekTrueSpec)

/-- ITS FALSE NEIGHBOUR: 'it returns false'. Refute it at one input. -/
def seekTrueWrong : ChangeSpec := { name := "seekTrue", fn := fun _ => fun
  | [d1, d2] => { results := [.lit (.bool false)], args := [d1, d2] }
  | _ => none }
def SeekTrueWrongFalsely : Prop := seekTrueRow.holds Try.pinned (OpenSpec.ofChange seekTrueWrong)

/-- 'alibilaw12.SeekNone': WHATEVER THE INPUT: true; the input reads as it did. -/
def seekNoneSpec : ChangeSpec := { name := "seekNone", fn := fun _ => fun
  | [d1, d2, d3] => { results := [.lit (.bool true)], args := [d1, d2, d3] }
  | _ => none }
def seekNoneRow : OpenClaim := { program := "ytnaomfmmkhgbhaa", sum := "767599fe3a9ea4443a8b767e1be73fdc3decb45a8729ec5b92d51d7d94ddd3a4", func := "alibi/alibilaw12.SeekNone", spec := "seekNone", unfollowed := true, recurses := true, apart := false }
def SeekNoneSaid : Prop := seekNoneRow.holds Try.pinned (OpenSpec.ofChange seekNoneSpec)

/-- ITS FALSE NEIGHBOUR: 'it returns false'. Refute it at one input. -/
def seekNoneWrong : ChangeSpec := { name := "seekNone", fn := fun _ => fun
  | [d1, d2, d3] => { results := [.lit (.bool false)], args := [d1, d2, d3] }
  | _ => none }
def SeekNoneWrongFalsely : Prop := seekNoneRow.holds Try.pinned (OpenSpec.ofChange seekNoneWrong)

/-- 'alibilaw12.SeekMore': WHATEVER THE INPUT: true; the input reads as it did. -/
def seekMoreSpec : ChangeSpec := { name := "seekMore", fn := fun _ => fun
  | [d1, d2, d3] => { results := [.lit (.bool true)], args := [d1, d2, d3] }
  | _ => none }
def seekMoreRow : OpenClaim := { program := "ytnaomfmmkhgbhaa", sum := "767599fe3a9ea4443a8b767e1be73fdc3decb45a8729ec5b92d51d7d94ddd3a4", func := "alibi/alibilaw12.SeekMore", spec := "seekMore", unfollowed := true, recurses := true, apart := false }
def SeekMoreSaid : Prop := seekMoreRow.holds Try.pinned (OpenSpec.ofChange seekMoreSpec)

/-- ITS FALSE NEIGHBOUR: 'it returns false'. Refute it at one input. -/
def seekMoreWrong : ChangeSpec := { name := "seekMore", fn := fun _ => fun
  | [d1, d2, d3] => { results := [.lit (.bool false)], args := [d1, d2, d3] }
  | _ => none }
def SeekMoreWrongFalsely : Prop := seekMoreRow.holds Try.pinned (OpenSpec.ofChange seekMoreWrong)

/-- 'alibilaw12.SeekSteps': WHATEVER THE INPUT: true; the input reads as it did. -/
def seekStepsSpec : ChangeSpec := { name := "seekSteps", fn := fun _ => fun
  | [d1, d2] => { results := [.lit (.bool true)], args := [d1, d2] }
  | _ => none }
def seekStepsRow : OpenClaim := { program := "ytnaomfmmkhgbhaa", sum := "767599fe3a9ea4443a8b767e1be73fdc3decb45a8729ec5b92d51d7d94ddd3a4", func := "alibi/alibilaw12.SeekSteps", spec := "seekSteps", unfollowed := true, recurses := true, apart := false }
def SeekStepsSaid : Prop := seekStepsRow.holds Try.pinned (OpenSpec.ofChange seekStepsSpec)

/-- ITS FALSE NEIGHBOUR: 'it returns false'. Refute it at one input. -/
def seekStepsWrong : ChangeSpec := { name := "seekSteps", fn := fun _ => fun
  | [d1, d2] => { results := [.lit (.bool false)], args := [d1, d2] }
  | _ => none }
def SeekStepsWrongFalsely : Prop := seekStepsRow.holds Try.pinned (OpenSpec.ofChange seekStepsWrong)

/- THE SECOND FORM. 'bulk': how many values and letters a reading holds, each counted each time it is reached (what is shared counts as often as it is met; a slice's spare places count too). A statement '..UptoSaid' is the law's where the arguments, and the package variables that the reading takes, are together of bulk at most 1048576: NARROWER than '..Said'. Prove '..Said' where nothing that the law and all that it calls make is longer than what came in: it says more and counts as full. Else prove '..UptoSaid'. A law counts once. -/
mutual
def uptoBulk {H : Type} : DataW H → Nat
  | .lit (.string bytes) => bytes.length + 1
  | .lit _ => 1
  | .nil => 1
  | .ptr d => uptoBulk d + 1
  | .slice elems spare => uptoBulkAll elems + uptoBulkAll spare + 1
  | .agg parts => uptoBulkAll parts + 1
  | .iface _ d => uptoBulk d + 1
  | .map entries => uptoBulkEntries entries + 1
  | .held _ => 1
def uptoBulkAll {H : Type} : List (DataW H) → Nat
  | [] => 0
  | d :: r => uptoBulk d + uptoBulkAll r
def uptoBulkEntries {H : Type} : List (Lit × DataW H) → Nat
  | [] => 0
  | x :: r => uptoBulkEntry x + uptoBulkEntries r
def uptoBulkEntry {H : Type} : Lit × DataW H → Nat
  | (.string bytes, d) => bytes.length + uptoBulk d + 1
  | (_, d) => uptoBulk d + 1
 end
def uptoSmall : (H : Type) → List (DataW H) → Bool := fun _ ds => decide (uptoBulkAll ds ≤ 1048576)
def OpenSpec.upto (s : _root_.Go.ChangeSpec) : _root_.Go.OpenSpec := { _root_.Go.OpenSpec.ofChange s with cond := some uptoSmall }

/-- 'alibilaw12.SeekFinds', WHERE WHAT IT READS IS OF BULK AT MOST 1048576: true; the input reads as it did. -/
def seekFindsUptoRow : OpenClaim := { program := "ytnaomfmmkhgbhaa", sum := "767599fe3a9ea4443a8b767e1be73fdc3decb45a8729ec5b92d51d7d94ddd3a4", func := "alibi/alibilaw12.SeekFinds", spec := "seekFinds", unfollowed := true, recurses := true, apart := false, narrowed := true }
def SeekFindsUptoSaid : Prop := seekFindsUptoRow.holds Try.pinned (OpenSpec.upto seekFindsSpec)

/-- 'alibilaw12.SeekTrue', WHERE WHAT IT READS IS OF BULK AT MOST 1048576: true; the input reads as it did. -/
def seekTrueUptoRow : OpenClaim := { program := "ytnaomfmmkhgbhaa", sum := "767599fe3a9ea4443a8b767e1be73fdc3decb45a8729ec5b92d51d7d94ddd3a4", func := "alibi/alibilaw12.SeekTrue", spec := "seekTrue", unfollowed := true, recurses := true, apart := false, narrowed := true }
def SeekTrueUptoSaid : Prop := seekTrueUptoRow.holds Try.pinned (OpenSpec.upto seekTrueSpec)

/-- 'alibilaw12.SeekNone', WHERE WHAT IT READS IS OF BULK AT MOST 1048576: true; the input reads as it did. -/
def seekNoneUptoRow : OpenClaim := { program := "ytnaomfmmkhgbhaa", sum := "767599fe3a9ea4443a8b767e1be73fdc3decb45a8729ec5b92d51d7d94ddd3a4", func := "alibi/alibilaw12.SeekNone", spec := "seekNone", unfollowed := true, recurses := true, apart := false, narrowed := true }
def SeekNoneUptoSaid : Prop := seekNoneUptoRow.holds Try.pinned (OpenSpec.upto seekNoneSpec)

/-- 'alibilaw12.SeekMore', WHERE WHAT IT READS IS OF BULK AT MOST 1048576: true; the input reads as it did. -/
def seekMoreUptoRow : OpenClaim := { program := "ytnaomfmmkhgbhaa", sum := "767599fe3a9ea4443a8b767e1be73fdc3decb45a8729ec5b92d51d7d94ddd3a4", func := "alibi/alibilaw12.SeekMore", spec := "seekMore", unfollowed := true, recurses := true, apart := false, narrowed := true }
def SeekMoreUptoSaid : Prop := seekMoreUptoRow.holds Try.pinned (OpenSpec.upto seekMoreSpec)

/-- 'alibilaw12.SeekSteps', WHERE WHAT IT READS IS OF BULK AT MOST 1048576: true; the input reads as it did. -/
def seekStepsUptoRow : OpenClaim := { program := "ytnaomfmmkhgbhaa", sum := "767599fe3a9ea4443a8b767e1be73fdc3decb45a8729ec5b92d51d7d94ddd3a4", func := "alibi/alibilaw12.SeekSteps", spec := "seekSteps", unfollowed := true, recurses := true, apart := false, narrowed := true }
def SeekStepsUptoSaid : Prop := seekStepsUptoRow.holds Try.pinned (OpenSpec.upto seekStepsSpec)

end Rows
end Go.Proofs.Ytnaomfmmkhgbhaa
