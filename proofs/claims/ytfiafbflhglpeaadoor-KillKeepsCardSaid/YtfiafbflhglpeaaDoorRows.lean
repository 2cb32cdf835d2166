/-
  NARROWER THAN 'FOR EVERY INPUT', by the rows' own cells (each row's printed sentence says how): KillTells: laid · KillCalls: laid · KillKeeps: laid · KillTrue: laid.
  DERIVED. THE GIVEN ROWS OF THIS SEAT. 4 by the template 'for every input the law returns true; each argument reads behind the call as it read before'; 0 by the template 'total and deterministic' (their statements: YtfiafbflhglpeaaDoorTotals.lean).
  GIVEN WITH THE SEED: the statements are not yours to turn. If you find one false, say at which input.
  Laid BY PROGRAM, IN A SANDBOX (cutbox-rows.mjs): the forced cells as the released guide's own fill.sh prints them over the translation a05e7935a2adadc0… (all of the seat's roots in one cut). By AI agents, Wed Nov 11 2026. No macro, syntax, notation, axiom, sorry.
-/
import Derived.Test.YtfiafbflhglpeaaDoorChecked
import GoSem.Claim
import GoSem.ClaimJoined
import GoSem.ClaimMapViews
import Derived.JoinedTies
import Derived.KernelRfl
namespace Go.Proofs.YtfiafbflhglpeaaDoor
/- THE CELL 'sum', in the pinned program and in every row, IS THE sha256 OF THE DUMP (.gsa) THAT YtfiafbflhglpeaaDoorProg.lean LOADS. Nothing in Lean hashes anything: it is a label: what it is worth is what the hold of that sum in a sandbox is worth. -/
noncomputable def Tryd.pinned : Pinned := { name := "ytfiafbflhglpeaadoor", sum := "a05e7935a2adadc0751b13e2fde48ab92c8e10e930f49fae05762f6f815d7d18", checked := Tryd.checked }
namespace Rows
def none {H : Type} : Left H := { results := [], args := [] }

/- WHAT THE LISTED PACKAGE-LEVEL VARIABLES READ AS WHEN THE CALL BEGINS. Each datum BY PROGRAM (the guide's laid-datum.mjs) off the statement by which the dump's own 'gosem.cut.vars' lays the variable. In a bare row this is a premise. The card (YtfiafbflhglpeaaDoorCards.lean) ties it to the program's text. -/
def laid_math_bits_deBruijn32tab {H : Type} : DataW H := .agg [.lit (.int .u8 0), .lit (.int .u8 1), .lit (.int .u8 28), .lit (.int .u8 2), .lit (.int .u8 29), .lit (.int .u8 14), .lit (.int .u8 24), .lit (.int .u8 3), .lit (.int .u8 30), .lit (.int .u8 22), .lit (.int .u8 20), .lit (.int .u8 15), .lit (.int .u8 25), .lit (.int .u8 17), .lit (.int .u8 4), .lit (.int .u8 8), .lit (.int .u8 31), .lit (.int .u8 27), .lit (.int .u8 13), .lit (.int .u8 23), .lit (.int .u8 21), .lit (.int .u8 19), .lit (.int .u8 16), .lit (.int .u8 7), .lit (.int .u8 26), .lit (.int .u8 12), .lit (.int .u8 18), .lit (.int .u8 6), .lit (.int .u8 11), .lit (.int .u8 5), .lit (.int .u8 10), .lit (.int .u8 9)]

/-- 'alibilaw14.KillTells': WHATEVER THE INPUT: true; the input reads as it did. -/
def killTellsSpec : ChangeSpec := { name := "killTells", fn := fun _ => fun
  | [d] => { results := [.lit (.bool true)], args := [d] }
  | _ => none }
def killTellsRow : OpenClaim := { program := "ytfiafbflhglpeaadoor", sum := "a05e7935a2adadc0751b13e2fde48ab92c8e10e930f49fae05762f6f815d7d18", func := "alibi/alibilaw14.KillTells", spec := "killTells", unfollowed := true, recurses := true, named := ["math/bits.deBruijn32tab"], apart := false, laid := [("math/bits.deBruijn32tab", laid_math_bits_deBruijn32tab)] }
def KillTellsSaid : Prop := killTellsRow.holds Tryd.pinned (OpenSpec.ofChange killTellsSpec)

/-- ITS FALSE NEIGHBOUR: 'it returns false'. Refute it at one input. -/
def killTellsWrong : ChangeSpec := { name := "killTells", fn := fun _ => fun
  | [d] => { results := [.lit (.bool false)], args := [d] }
  | _ => none }
def KillTellsWrongFalsely : Prop := killTellsRow.holds Tryd.pinned (OpenSpec.ofChange killTellsWrong)

/-- 'alibilaw14.KillCalls': WHATEVER THE INPUT: true; the input reads as it did. -/
def killCallsSpec : ChangeSpec := { name := "killCalls", fn := fun _ => fun
  | [d] => { results := [.lit (.bool true)], args := [d] }
  | _ => none }
def killCallsRow : OpenClaim := { program := "ytfiafbflhglpeaadoor", sum := "a05e7935a2adadc0751b13e2fde48ab92c8e10e930f49fae05762f6f815d7d18", func := "alibi/alibilaw14.KillCalls", spec := "killCalls", unfollowed := true, recurses := true, named := ["math/bits.deBruijn32tab"], apart := false, laid := [("math/bits.deBruijn32tab", laid_math_bits_deBruijn32tab)] }
def KillCallsSaid : Prop := killCallsRow.holds Tryd.pinned (OpenSpec.ofChange killCallsSpec)

/-- ITS FALSE NEIGHBOUR: 'it returns false'. Refute it at one input. -/
def killCallsWrong : ChangeSpec := { name := "killCalls", fn := fun _ => fun
  | [d] => { results := [.lit (.bool false)], args := [d] }
  | _ => none }
def KillCallsWrongFalsely : Prop := killCallsRow.holds Tryd.pinned (OpenSpec.ofChange killCallsWrong)

/-- 'alibilaw14.KillKeeps': WHATEVER THE INPUT: true; the input reads as it did. -/
def killKeepsSpec : ChangeSpec := { name := "killKeeps", fn := fun _ => fun
  | [d1, d2] => { results := [.lit (.bool true)], args := [d1, d2] }
  | _ => none }
def killKeepsRow : OpenClaim := { program := "ytfiafbflhglpeaadoor", sum := "a05e7935a2adadc0751b13e2fde48ab92c8e10e930f49fae05762f6f815d7d18", func := "alibi/alibilaw14.KillKeeps", spec := "killKeeps", unfollowed := true, recurses := true, named := ["math/bits.deBruijn32tab"], apart := false, laid := [("math/bits.deBruijn32tab", laid_math_bits_deBruijn32tab)] }
def KillKeepsSaid : Prop := killKeepsRow.holds Tryd.pinned (OpenSpec.ofChange killKeepsSpec)

/-- ITS FALSE NEIGHBOUR: 'it returns false'. Refute it at one input. -/
def killKeepsWrong : ChangeSpec := { name := "killKeeps", fn := fun _ => fun
  | [d1, d2] => { results := [.lit (.bool false)], args := [d1, d2] }
  | _ => none }
def KillKeepsWrongFalsely : Prop := killKeepsRow.holds Tryd.pinned (OpenSpec.ofChange killKeepsWrong)

/-- 'alibilaw14.KillTrue': WHATEVER THE INPUT: true; the input reads as it did. -/
def killTrueSpec : ChangeSpec := { name := "killTrue", fn := fun _ => fun
  | [d1, d2] => { results := [.lit (.bool true)], args := [d1, d2] }
  | _ => none }
def killTrueRow : OpenClaim := { program := "ytfiafbflhglpeaadoor", sum := "a05e7935a2adadc0751b13e2fde48ab92c8e10e930f49fae05762f6f815d7d18", func := "alibi/alibilaw14.KillTrue", spec := "killTrue", unfollowed := true, recurses := true, named := ["math/bits.deBruijn32tab"], apart := false, laid := [("math/bits.deBruijn32tab", laid_math_bits_deBruijn32tab)] }
def KillTrueSaid : Prop := killTrueRow.holds Tryd.pinned (OpenSpec.ofChange killTrueSpec)

/-- ITS FALSE NEIGHBOUR: 'it returns false'. Refute it at one input. -/
def killTrueWrong : ChangeSpec := { name := "killTrue", fn := fun _ => fun
  | [d1, d2] => { results := [.lit (.bool false)], args := [d1, d2] }
  | _ => none }
def KillTrueWrongFalsely : Prop := killTrueRow.holds Tryd.pinned (OpenSpec.ofChange killTrueWrong)

/- THE SECOND FORM. 'bulk': how many values and letters a reading holds, each counted each time it is reached (what is shared counts as often as it is met; a slice's spare places count too). A statement '..UptoSaid' is the law's where the arguments, and the package variables that the reading takes, are together of bulk at most 1048576: NARROWER than '..Said'. Prove '..Said' where nothing that the law and all that it calls make is longer than what came in: it says more and counts as full. Else prove '..UptoSaid'. A law counts once. -/
mutual
def uptoBulk {H : Type} : DataW H → Nat
  | .lit (.string bytes) => bytes.length + 1
  | .lit _ => 1
  | .nil => 1
  | .ptr d => uptoBulk d + 1
  | .slice elems spare => uptoBulkAll elems + uptoBulkAll spare + 1
  | .agg parts => uptoBulkAll parts + 1
  | .iface _ d => uptoBulk d + 1
  | .map entries => uptoBulkEntries entries + 1
  | .held _ => 1
def uptoBulkAll {H : Type} : List (DataW H) → Nat
  | [] => 0
  | d :: r => uptoBulk d + uptoBulkAll r
def uptoBulkEntries {H : Type} : List (Lit × DataW H) → Nat
  | [] => 0
  | x :: r => uptoBulkEntry x + uptoBulkEntries r
def uptoBulkEntry {H : Type} : Lit × DataW H → Nat
  | (.string bytes, d) => bytes.length + uptoBulk d + 1
  | (_, d) => uptoBulk d + 1
 end
def uptoSmall : (H : Type) → List (DataW H) → Bool := fun _ ds => decide (uptoBulkAll ds ≤ 1048576)
def OpenSpec.upto (s : _root_.Go.ChangeSpec) : _root_.Go.OpenSpec := { _root_.Go.OpenSpec.ofChange s with cond := some uptoSmall }

/-- 'alibilaw14.KillTells', WHERE WHAT IT READS IS OF BULK AT MOST 1048576: true; the input reads as it did. -/
def killTellsUptoRow : OpenClaim := { program := "ytfiafbflhglpeaadoor", sum := "a05e7935a2adadc0751b13e2fde48ab92c8e10e930f49fae05762f6f815d7d18", func := "alibi/alibilaw14.KillTells", spec := "killTells", unfollowed := true, recurses := true, named := ["math/bits.deBruijn32tab"], apart := false, laid := [("math/bits.deBruijn32tab", laid_math_bits_deBruijn32tab)], narrowed := true }
def KillTellsUptoSaid : Prop := killTellsUptoRow.holds Tryd.pinned (OpenSpec.upto killTellsSpec)

/-- 'alibilaw14.KillCalls', WHERE WHAT IT READS IS OF BULK AT MOST 1048576: true; the input reads as it did. -/
def killCallsUptoRow : OpenClaim := { program := "ytfiafbflhglpeaadoor", sum := "a05e7935a2adadc0751b13e2fde48ab92c8e10e930f49fae05762f6f815d7d18", func := "alibi/alibilaw14.KillCalls", spec := "killCalls", unfollowed := true, recurses := true, named := ["math/bits.deBruijn32tab"], apart := false, laid := [("math/bits.deBruijn32tab", laid_math_bits_deBruijn32tab)], narrowed := true }
def KillCallsUptoSaid : Prop := killCallsUptoRow.holds Tryd.pinned (OpenSpec.upto killCallsSpec)

/-- 'alibilaw14.KillKeeps', WHERE WHAT IT READS IS OF BULK AT MOST 1048576: true; the input reads as it did. -/
def killKeepsUptoRow : OpenClaim := { program := "ytfiafbflhglpeaadoor", sum := "a05e7935a2adadc0751b13e2fde48ab92c8e10e930f49fae05762f6f815d7d18", func := "alibi/alibilaw14.KillKeeps", spec := "killKeeps", unfollowed := true, recurses := true, named := ["math/bits.deBruijn32tab"], apart := false, laid := [("math/bits.deBruijn32tab", laid_math_bits_deBruijn32tab)], narrowed := true }
def KillKeepsUptoSaid : Prop := killKeepsUptoRow.holds Tryd.pinned (OpenSpec.upto killKeepsSpec)

/-- 'alibilaw14.KillTrue', WHERE WHAT IT READS IS OF BULK AT MOST 1048576: true; the input reads as it did. -/
def killTrueUptoRow : OpenClaim := { program := "ytfiafbflhglpeaadoor", sum := "a05e7935a2adadc0751b13e2fde48ab92c8e10e930f49fae05762f6f815d7d18", func := "alibi/alibilaw14.KillTrue", spec := "killTrue", unfollowed := true, recurses := true, named := ["math/bits.deBruijn32tab"], apart := false, laid := [("math/bits.deBruijn32tab", laid_math_bits_deBruijn32tab)], narrowed := true }
def KillTrueUptoSaid : Prop := killTrueUptoRow.holds Tryd.pinned (OpenSpec.upto killTrueSpec)

end Rows
end Go.Proofs.YtfiafbflhglpeaaDoor
