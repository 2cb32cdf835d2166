/-
  No cell of these rows narrows 'for every input' (looked for: loops, veiled, ifaces, maps, wideKeys, modest, calm, conditions, laid).
  DERIVED. THE GIVEN ROWS OF THIS SEAT. 6 by the template 'for every input the law returns true; each argument reads behind the call as it read before'; 0 by the template 'total and deterministic' (their statements: YtkhfolpffjihgaaTotals.lean).
  GIVEN WITH THE SEED: the statements are not yours to turn. If you find one false, say at which input.
  Laid BY PROGRAM, IN A SANDBOX (cutbox-rows.mjs): the forced cells as the released guide's own fill.sh prints them over the translation a006c72269d683bb… (all of the seat's roots in one cut). By AI agents, Wed Nov 11 2026. No macro, syntax, notation, axiom, sorry.
-/
import Derived.Test.YtkhfolpffjihgaaChecked
import GoSem.Claim
import GoSem.ClaimJoined
import GoSem.ClaimMapViews
import Derived.JoinedTies
import Derived.KernelRfl
namespace Go.Proofs.Ytkhfolpffjihgaa
/- THE CELL 'sum', in the pinned program and in every row, IS THE sha256 OF THE DUMP (.gsa) THAT YtkhfolpffjihgaaProg.lean LOADS. Nothing in Lean hashes anything: it is a label: what it is worth is what the hold of that sum in a sandbox is worth. -/
noncomputable def Try.pinned : Pinned := { name := "ytkhfolpffjihgaa", sum := "a006c72269d683bb61d9631cf34cd26d55343c03a822318925d62257364e7c37", checked := Try.checked }
namespace Rows
def none {H : Type} : Left H := { results := [], args := [] }

/-- 'alibilaw11.ScriptPuts': WHATEVER THE INPUT: true; the input reads as it did. -/
def scriptPutsSpec : ChangeSpec := { name := "scriptPuts", fn := fun _ => fun
  | [d] => { results := [.lit (.bool true)], args := [d] }
  | _ => none }
def scriptPutsRow : OpenClaim := { program := "ytkhfolpffjihgaa", sum := "a006c72269d683bb61d9631cf34cd26d55343c03a822318925d62257364e7c37", func := "alibi/alibilaw11.ScriptPuts", spec := "scriptPuts", apart := false }
def ScriptPutsSaid : Prop := scriptPutsRow.holds Try.pinned (OpenSpec.ofChange scriptPutsSpec)

/-- ITS FALSE NEIGHBOUR: 'it returns false'. Refute it at one input. -/
def scriptPutsWrong : ChangeSpec := { name := "scriptPuts", fn := fun _ => fun
  | [d] => { results := [.lit (.bool false)], args := [d] }
  | _ => none }
def ScriptPutsWrongFalsely : Prop := scriptPutsRow.holds Try.pinned (OpenSpec.ofChange scriptPutsWrong)

/-- 'alibilaw11.ScriptGets': WHATEVER THE INPUT: true; the input reads as it did. -/
def scriptGetsSpec : ChangeSpec := { name := "scriptGets", fn := fun _ => fun
  | [d] => { results := [.lit (.bool true)], args := [d] }
  | _ => none }
def scriptGetsRow : OpenClaim := { program := "ytkhfolpffjihgaa", sum := "a006c72269d683bb61d9631cf34cd26d55343c03a822318925d62257364e7c37", func := "alibi/alibilaw11.ScriptGets", spec := "scriptGets", apart := false }
def ScriptGetsSaid : Prop := scriptGetsRow.holds Try.pinned (OpenSpec.ofChange scriptGetsSpec)

/-- ITS FALSE NEIGHBOUR: 'it returns false'. Refute it at one input. -/
def scriptGetsWrong : ChangeSpec := { name := "scriptGets", fn := fun _ => fun
  | [d] => { results := [.lit (.bool false)], args := [d] }
  | _ => none }
def ScriptGetsWrongFalsely : Prop := scriptGetsRow.holds Try.pinned (OpenSpec.ofChange scriptGetsWrong)

/-- 'alibilaw11.ScriptRuns': WHATEVER THE INPUT: true; the input reads as it did. -/
def scriptRunsSpec : ChangeSpec := { name := "scriptRuns", fn := fun _ => fun
  | [d1, d2, d3] => { results := [.lit (.bool true)], args := [d1, d2, d3] }
  | _ => none }
def scriptRunsRow : OpenClaim := { program := "ytkhfolpffjihgaa", sum := "a006c72269d683bb61d9631cf34cd26d55343c03a822318925d62257364e7c37", func := "alibi/alibilaw11.ScriptRuns", spec := "scriptRuns", unfollowed := true, recurses := true, apart := false }
def ScriptRunsSaid : Prop := scriptRunsRow.holds Try.pinned (OpenSpec.ofChange scriptRunsSpec)

/-- ITS FALSE NEIGHBOUR: 'it returns false'. Refute it at one input. -/
def scriptRunsWrong : ChangeSpec := { name := "scriptRuns", fn := fun _ => fun
  | [d1, d2, d3] => { results := [.lit (.bool false)], args := [d1, d2, d3] }
  | _ => none }
def ScriptRunsWrongFalsely : Prop := scriptRunsRow.holds Try.pinned (OpenSpec.ofChange scriptRunsWrong)

/-- 'alibilaw11.ScriptFront': WHATEVER THE INPUT: true; the input reads as it did. -/
def scriptFrontSpec : ChangeSpec := { name := "scriptFront", fn := fun _ => fun
  | [d1, d2, d3] => { results := [.lit (.bool true)], args := [d1, d2, d3] }
  | _ => none }
def scriptFrontRow : OpenClaim := { program := "ytkhfolpffjihgaa", sum := "a006c72269d683bb61d9631cf34cd26d55343c03a822318925d62257364e7c37", func := "alibi/alibilaw11.ScriptFront", spec := "scriptFront", unfollowed := true, recurses := true, apart := false }
def ScriptFrontSaid : Prop := scriptFrontRow.holds Try.pinned (OpenSpec.ofChange scriptFrontSpec)

/-- ITS FALSE NEIGHBOUR: 'it returns false'. Refute it at one input. -/
def scriptFrontWrong : ChangeSpec := { name := "scriptFront", fn := fun _ => fun
  | [d1, d2, d3] => { results := [.lit (.bool false)], args := [d1, d2, d3] }
  | _ => none }
def ScriptFrontWrongFalsely : Prop := scriptFrontRow.holds Try.pinned (OpenSpec.ofChange scriptFrontWrong)

/-- 'alibilaw11.ScriptBack': WHATEVER THE INPUT: true; the input reads as it did. -/
def scriptBackSpec : ChangeSpec := { name := "scriptBack", fn := fun _ => fun
  | [d] => { results := [.lit (.bool true)], args := [d] }
  | _ => none }
def scriptBackRow : OpenClaim := { program := "ytkhfolpffjihgaa", sum := "a006c72269d683bb61d9631cf34cd26d55343c03a822318925d62257364e7c37", func := "alibi/alibilaw11.ScriptBack", spec := "scriptBack", apart := false }
def ScriptBackSaid : Prop := scriptBackRow.holds Try.pinned (OpenSpec.ofChange scriptBackSpec)

/-- ITS FALSE NEIGHBOUR: 'it returns false'. Refute it at one input. -/
def scriptBackWrong : ChangeSpec := { name := "scriptBack", fn := fun _ => fun
  | [d] => { results := [.lit (.bool false)], args := [d] }
  | _ => none }
def ScriptBackWrongFalsely : Prop := scriptBackRow.holds Try.pinned (OpenSpec.ofChange scriptBackWrong)

/-- 'alibilaw11.ScriptIdle': WHATEVER THE INPUT: true; the input reads as it did. -/
def scriptIdleSpec : ChangeSpec := { name := "scriptIdle", fn := fun _ => fun
  | [d1, d2, d3] => { results := [.lit (.bool true)], args := [d1, d2, d3] }
  | _ => none }
def scriptIdleRow : OpenClaim := { program := "ytkhfolpffjihgaa", sum := "a006c72269d683bb61d9631cf34cd26d55343c03a822318925d62257364e7c37", func := "alibi/alibilaw11.ScriptIdle", spec := "scriptIdle", unfollowed := true, recurses := true, apart := false }
def ScriptIdleSaid : Prop := scriptIdleRow.holds Try.pinned (OpenSpec.ofChange scriptIdleSpec)

/-- ITS FALSE NEIGHBOUR: 'it returns false'. Refute it at one input. -/
def scriptIdleWrong : ChangeSpec := { name := "scriptIdle", fn := fun _ => fun
  | [d1, d2, d3] => { results := [.lit (.bool false)], args := [d1, d2, d3] }
  | _ => none }
def ScriptIdleWrongFalsely : Prop := scriptIdleRow.holds Try.pinned (OpenSpec.ofChange scriptIdleWrong)

/- THE SECOND FORM. 'bulk': how many values and letters a reading holds, each counted each time it is reached (what is shared counts as often as it is met; a slice's spare places count too). A statement '..UptoSaid' is the law's where the arguments, and the package variables that the reading takes, are together of bulk at most 1048576: NARROWER than '..Said'. Prove '..Said' where nothing that the law and all that it calls make is longer than what came in: it says more and counts as full. Else prove '..UptoSaid'. A law counts once. -/
mutual
def uptoBulk {H : Type} : DataW H → Nat
  | .lit (.string bytes) => bytes.length + 1
  | .lit _ => 1
  | .nil => 1
  | .ptr d => uptoBulk d + 1
  | .slice elems spare => uptoBulkAll elems + uptoBulkAll spare + 1
  | .agg parts => uptoBulkAll parts + 1
  | .iface _ d => uptoBulk d + 1
  | .map entries => uptoBulkEntries entries + 1
  | .held _ => 1
def uptoBulkAll {H : Type} : List (DataW H) → Nat
  | [] => 0
  | d :: r => uptoBulk d + uptoBulkAll r
def uptoBulkEntries {H : Type} : List (Lit × DataW H) → Nat
  | [] => 0
  | x :: r => uptoBulkEntry x + uptoBulkEntries r
def uptoBulkEntry {H : Type} : Lit × DataW H → Nat
  | (.string bytes, d) => bytes.length + uptoBulk d + 1
  | (_, d) => uptoBulk d + 1
 end
def uptoSmall : (H : Type) → List (DataW H) → Bool := fun _ ds => decide (uptoBulkAll ds ≤ 1048576)
def OpenSpec.upto (s : _root_.Go.ChangeSpec) : _root_.Go.OpenSpec := { _root_.Go.OpenSpec.ofChange s with cond := some uptoSmall }

/-- 'alibilaw11.ScriptPuts', WHERE WHAT IT READS IS OF BULK AT MOST 1048576: true; the input reads as it did. -/
def scriptPutsUptoRow : OpenClaim := { program := "ytkhfolpffjihgaa", sum := "a006c72269d683bb61d9631cf34cd26d55343c03a822318925d62257364e7c37", func := "alibi/alibilaw11.ScriptPuts", spec := "scriptPuts", apart := false, narrowed := true }
def ScriptPutsUptoSaid : Prop := scriptPutsUptoRow.holds Try.pinned (OpenSpec.upto scriptPutsSpec)

/-- 'alibilaw11.ScriptGets', WHERE WHAT IT READS IS OF BULK AT MOST 1048576: true; the input reads as it did. -/
def scriptGetsUptoRow : OpenClaim := { program := "ytkhfolpffjihgaa", sum := "a006c72269d683bb61d9631cf34cd26d55343c03a822318925d62257364e7c37", func := "alibi/alibilaw11.ScriptGets", spec := "scriptGets", apart := false, narrowed := true }
def ScriptGetsUptoSaid : Prop := scriptGetsUptoRow.holds Try.pinned (OpenSpec.upto scriptGetsSpec)

/-- 'alibilaw11.ScriptRuns', WHERE WHAT IT READS IS OF BULK AT MOST 1048576: true; the input reads as it did. -/
def scriptRunsUptoRow : OpenClaim := { program := "ytkhfolpffjihgaa", sum := "a006c72269d683bb61d9631cf34cd26d55343c03a822318925d62257364e7c37", func := "alibi/alibilaw11.ScriptRuns", spec := "scriptRuns", unfollowed := true, recurses := true, apart := false, narrowed := true }
def ScriptRunsUptoSaid : Prop := scriptRunsUptoRow.holds Try.pinned (OpenSpec.upto scriptRunsSpec)

/-- 'alibilaw11.ScriptFront', WHERE WHAT IT READS IS OF BULK AT MOST 1048576: true; the input reads as it did. -/
def scriptFrontUptoRow : OpenClaim := { program := "ytkhfolpffjihgaa", sum := "a006c72269d683bb61d9631cf34cd26d55343c03a822318925d62257364e7c37", func := "alibi/alibilaw11.ScriptFront", spec := "scriptFront", unfollowed := true, recurses := true, apart := false, narrowed := true }
def ScriptFrontUptoSaid : Prop := scriptFrontUptoRow.holds Try.pinned (OpenSpec.upto scriptFrontSpec)

/-- 'alibilaw11.ScriptBack', WHERE WHAT IT READS IS OF BULK AT MOST 1048576: true; the input reads as it did. -/
def scriptBackUptoRow : OpenClaim := { program := "ytkhfolpffjihgaa", sum := "a006c72269d683bb61d9631cf34cd26d55343c03a822318925d62257364e7c37", func := "alibi/alibilaw11.ScriptBack", spec := "scriptBack", apart := false, narrowed := true }
def ScriptBackUptoSaid : Prop := scriptBackUptoRow.holds Try.pinned (OpenSpec.upto scriptBackSpec)

/-- 'alibilaw11.ScriptIdle', WHERE WHAT IT READS IS OF BULK AT MOST 1048576: true; the input reads as it did. -/
def scriptIdleUptoRow : OpenClaim := { program := "ytkhfolpffjihgaa", sum := "a006c72269d683bb61d9631cf34cd26d55343c03a822318925d62257364e7c37", func := "alibi/alibilaw11.ScriptIdle", spec := "scriptIdle", unfollowed := true, recurses := true, apart := false, narrowed := true }
def ScriptIdleUptoSaid : Prop := scriptIdleUptoRow.holds Try.pinned (OpenSpec.upto scriptIdleSpec)

end Rows
end Go.Proofs.Ytkhfolpffjihgaa
