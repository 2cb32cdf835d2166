/-
  No cell of these rows narrows 'for every input' (looked for: loops, veiled, ifaces, maps, wideKeys, modest, calm, conditions, laid).
  DERIVED. THE GIVEN ROWS OF THIS SEAT. 4 by the template 'for every input the law returns true; each argument reads behind the call as it read before'; 0 by the template 'total and deterministic' (their statements: YtdnhfpphjpnklaaTotals.lean).
  GIVEN WITH THE SEED: the statements are not yours to turn. If you find one false, say at which input.
  Laid BY PROGRAM, IN A SANDBOX (cutbox-rows.mjs): the forced cells as the released guide's own fill.sh prints them over the translation 64c007c77b8363e0… (all of the seat's roots in one cut). By AI agents, Wed Nov 11 2026. No macro, syntax, notation, axiom, sorry.
-/
import Derived.Test.YtdnhfpphjpnklaaChecked
import GoSem.Claim
import GoSem.ClaimJoined
import GoSem.ClaimMapViews
import Derived.JoinedTies
import Derived.KernelRfl
namespace Go.Proofs.Ytdnhfpphjpnklaa
/- THE CELL 'sum', in the pinned program and in every row, IS THE sha256 OF THE DUMP (.gsa) THAT YtdnhfpphjpnklaaProg.lean LOADS. Nothing in Lean hashes anything: it is a label: what it is worth is what the hold of that sum in a sandbox is worth. -/
noncomputable def Try.pinned : Pinned := { name := "ytdnhfpphjpnklaa", sum := "64c007c77b8363e05d45f8d982395e12e8ee09838db0ea7afd8950c88a088dda", checked := Try.checked }
namespace Rows
def none {H : Type} : Left H := { results := [], args := [] }

/-- 'alibilaw07.PcodeReads': WHATEVER THE INPUT: true; the input reads as it did. -/
def pcodeReadsSpec : ChangeSpec := { name := "pcodeReads", fn := fun _ => fun
  | [d] => { results := [.lit (.bool true)], args := [d] }
  | _ => none }
def pcodeReadsRow : OpenClaim := { program := "ytdnhfpphjpnklaa", sum := "64c007c77b8363e05d45f8d982395e12e8ee09838db0ea7afd8950c88a088dda", func := "alibi/alibilaw07.PcodeReads", spec := "pcodeReads", apart := false }
def PcodeReadsSaid : Prop := pcodeReadsRow.holds Try.pinned (OpenSpec.ofChange pcodeReadsSpec)

/-- ITS FALSE NEIGHBOUR: 'it returns false'. Refute it at one input. -/
def pcodeReadsWrong : ChangeSpec := { name := "pcodeReads", fn := fun _ => fun
  | [d] => { results := [.lit (.bool false)], args := [d] }
  | _ => none }
def PcodeReadsWrongFalsely : Prop := pcodeReadsRow.holds Try.pinned (OpenSpec.ofChange pcodeReadsWrong)

/-- 'alibilaw07.PcodeBack': WHATEVER THE INPUT: true; the input reads as it did. -/
def pcodeBackSpec : ChangeSpec := { name := "pcodeBack", fn := fun _ => fun
  | [d1, d2, d3] => { results := [.lit (.bool true)], args := [d1, d2, d3] }
  | _ => none }
def pcodeBackRow : OpenClaim := { program := "ytdnhfpphjpnklaa", sum := "64c007c77b8363e05d45f8d982395e12e8ee09838db0ea7afd8950c88a088dda", func := "alibi/alibilaw07.PcodeBack", spec := "pcodeBack", apart := false }
def PcodeBackSaid : Prop := pcodeBackRow.holds Try.pinned (OpenSpec.ofChange pcodeBackSpec)

/-- ITS FALSE NEIGHBOUR: 'it returns false'. Refute it at one input. -/
def pcodeBackWrong : ChangeSpec := { name := "pcodeBack", fn := fun _ => fun
  | [d1, d2, d3] => { results := [.lit (.bool false)], args := [d1, d2, d3] }
  | _ => none }
def PcodeBackWrongFalsely : Prop := pcodeBackRow.holds Try.pinned (OpenSpec.ofChange pcodeBackWrong)

/-- 'alibilaw07.PcodeOnce': WHATEVER THE INPUT: true; the input reads as it did. -/
def pcodeOnceSpec : ChangeSpec := { name := "pcodeOnce", fn := fun _ => fun
  | [d] => { results := [.lit (.bool true)], args := [d] }
  | _ => none }
def pcodeOnceRow : OpenClaim := { program := "ytdnhfpphjpnklaa", sum := "64c007c77b8363e05d45f8d982395e12e8ee09838db0ea7afd8950c88a088dda", func := "alibi/alibilaw07.PcodeOnce", spec := "pcodeOnce", apart := false }
def PcodeOnceSaid : Prop := pcodeOnceRow.holds Try.pinned (OpenSpec.ofChange pcodeOnceSpec)

/-- ITS FALSE NEIGHBOUR: 'it returns false'. Refute it at one input. -/
def pcodeOnceWrong : ChangeSpec := { name := "pcodeOnce", fn := fun _ => fun
  | [d] => { results := [.lit (.bool false)], args := [d] }
  | _ => none }
def PcodeOnceWrongFalsely : Prop := pcodeOnceRow.holds Try.pinned (OpenSpec.ofChange pcodeOnceWrong)

/-- 'alibilaw07.PcodeAlike': WHATEVER THE INPUT: true; the input reads as it did. -/
def pcodeAlikeSpec : ChangeSpec := { name := "pcodeAlike", fn := fun _ => fun
  | [d1, d2] => { results := [.lit (.bool true)], args := [d1, d2] }
  | _ => none }
def pcodeAlikeRow : OpenClaim := { program := "ytdnhfpphjpnklaa", sum := "64c007c77b8363e05d45f8d982395e12e8ee09838db0ea7afd8950c88a088dda", func := "alibi/alibilaw07.PcodeAlike", spec := "pcodeAlike", apart := false }
def PcodeAlikeSaid : Prop := pcodeAlikeRow.holds Try.pinned (OpenSpec.ofChange pcodeAlikeSpec)

/-- ITS FALSE NEIGHBOUR: 'it returns false'. Refute it at one input. -/
def pcodeAlikeWrong : ChangeSpec := { name := "pcodeAlike", fn := fun _ => fun
  | [d1, d2] => { results := [.lit (.bool false)], args := [d1, d2] }
  | _ => none }
def PcodeAlikeWrongFalsely : Prop := pcodeAlikeRow.holds Try.pinned (OpenSpec.ofChange pcodeAlikeWrong)

/- THE SECOND FORM. 'bulk': how many values and letters a reading holds, each counted each time it is reached (what is shared counts as often as it is met; a slice's spare places count too). A statement '..UptoSaid' is the law's where the arguments, and the package variables that the reading takes, are together of bulk at most 1048576: NARROWER than '..Said'. Prove '..Said' where nothing that the law and all that it calls make is longer than what came in: it says more and counts as full. Else prove '..UptoSaid'. A law counts once. -/
mutual
def uptoBulk {H : Type} : DataW H → Nat
  | .lit (.string bytes) => bytes.length + 1
  | .lit _ => 1
  | .nil => 1
  | .ptr d => uptoBulk d + 1
  | .slice elems spare => uptoBulkAll elems + uptoBulkAll spare + 1
  | .agg parts => uptoBulkAll parts + 1
  | .iface _ d => uptoBulk d + 1
  | .map entries => uptoBulkEntries entries + 1
  | .held _ => 1
def uptoBulkAll {H : Type} : List (DataW H) → Nat
  | [] => 0
  | d :: r => uptoBulk d + uptoBulkAll r
def uptoBulkEntries {H : Type} : List (Lit × DataW H) → Nat
  | [] => 0
  | x :: r => uptoBulkEntry x + uptoBulkEntries r
def uptoBulkEntry {H : Type} : Lit × DataW H → Nat
  | (.string bytes, d) => bytes.length + uptoBulk d + 1
  | (_, d) => uptoBulk d + 1
 end
def uptoSmall : (H : Type) → List (DataW H) → Bool := fun _ ds => decide (uptoBulkAll ds ≤ 1048576)
def OpenSpec.upto (s : _root_.Go.ChangeSpec) : _root_.Go.OpenSpec := { _root_.Go.OpenSpec.ofChange s with cond := some uptoSmall }

/-- 'alibilaw07.PcodeReads', WHERE WHAT IT READS IS OF BULK AT MOST 1048576: true; the input reads as it did. -/
def pcodeReadsUptoRow : OpenClaim := { program := "ytdnhfpphjpnklaa", sum := "64c007c77b8363e05d45f8d982395e12e8ee09838db0ea7afd8950c88a088dda", func := "alibi/alibilaw07.PcodeReads", spec := "pcodeReads", apart := false, narrowed := true }
def PcodeReadsUptoSaid : Prop := pcodeReadsUptoRow.holds Try.pinned (OpenSpec.upto pcodeReadsSpec)

/-- 'alibilaw07.PcodeBack', WHERE WHAT IT READS IS OF BULK AT MOST 1048576: true; the input reads as it did. -/
def pcodeBackUptoRow : OpenClaim := { program := "ytdnhfpphjpnklaa", sum := "64c007c77b8363e05d45f8d982395e12e8ee09838db0ea7afd8950c88a088dda", func := "alibi/alibilaw07.PcodeBack", spec := "pcodeBack", apart := false, narrowed := true }
def PcodeBackUptoSaid : Prop := pcodeBackUptoRow.holds Try.pinned (OpenSpec.upto pcodeBackSpec)

/-- 'alibilaw07.PcodeOnce', WHERE WHAT IT READS IS OF BULK AT MOST 1048576: true; the input reads as it did. -/
def pcodeOnceUptoRow : OpenClaim := { program := "ytdnhfpphjpnklaa", sum := "64c007c77b8363e05d45f8d982395e12e8ee09838db0ea7afd8950c88a088dda", func := "alibi/alibilaw07.PcodeOnce", spec := "pcodeOnce", apart := false, narrowed := true }
def PcodeOnceUptoSaid : Prop := pcodeOnceUptoRow.holds Try.pinned (OpenSpec.upto pcodeOnceSpec)

/-- 'alibilaw07.PcodeAlike', WHERE WHAT IT READS IS OF BULK AT MOST 1048576: true; the input reads as it did. -/
def pcodeAlikeUptoRow : OpenClaim := { program := "ytdnhfpphjpnklaa", sum := "64c007c77b8363e05d45f8d982395e12e8ee09838db0ea7afd8950c88a088dda", func := "alibi/alibilaw07.PcodeAlike", spec := "pcodeAlike", apart := false, narrowed := true }
def PcodeAlikeUptoSaid : Prop := pcodeAlikeUptoRow.holds Try.pinned (OpenSpec.upto pcodeAlikeSpec)

end Rows
end Go.Proofs.Ytdnhfpphjpnklaa
