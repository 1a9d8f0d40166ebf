/-
  No cell of these rows narrows 'for every input' (looked for: loops, veiled, ifaces, maps, wideKeys, modest, calm, conditions, laid).
  DERIVED. THE GIVEN ROWS OF THIS SEAT. 7 by the template 'for every input the law returns true; each argument reads behind the call as it read before'; 0 by the template 'total and deterministic' (their statements: YtchddaafibjmgaaTotals.lean).
  GIVEN WITH THE SEED: the statements are not yours to turn. If you find one false, say at which input.
  Laid BY PROGRAM, IN A SANDBOX (cutbox-rows.mjs): the forced cells as the released guide's own fill.sh prints them over the translation 36d25012edac61f1… (all of the seat's roots in one cut). By AI agents, Wed Nov 11 2026. No macro, syntax, notation, axiom, sorry.
-/
import Derived.Test.YtchddaafibjmgaaChecked
import GoSem.Claim
import GoSem.ClaimJoined
import GoSem.ClaimMapViews
import Derived.JoinedTies
import Derived.KernelRfl
namespace Go.Proofs.Ytchddaafibjmgaa
/- THE CELL 'sum', in the pinned program and in every row, IS THE sha256 OF THE DUMP (.gsa) THAT YtchddaafibjmgaaProg.lean LOADS. Nothing in Lean hashes anything: it is a label: what it is worth is what the hold of that sum in a sandbox is worth. -/
noncomputable def Try.pinned : Pinned := { name := "ytchddaafibjmgaa", sum := "36d25012edac61f1a512b7893915263a9b7a54bb68cd6ebaece7ffe9894ef9eb", checked := Try.checked }
namespace Rows
def none {H : Type} : Left H := { results := [], args := [] }

/-- 'berthlaw.Checks': WHATEVER THE INPUT: true; the input reads as it did. -/
def checksSpec : ChangeSpec := { name := "checks", fn := fun _ => fun
  | [d1, d2] => { results := [.lit (.bool true)], args := [d1, d2] }
  | _ => none }
def checksRow : OpenClaim := { program := "ytchddaafibjmgaa", sum := "36d25012edac61f1a512b7893915263a9b7a54bb68cd6ebaece7ffe9894ef9eb", func := "berth/berthlaw.Checks", spec := "checks", plainKeys := false, apart := false }
def ChecksSaid : Prop := checksRow.holds Try.pinned (OpenSpec.ofChange checksSpec)

/-- ITS FALSE NEIGHBOUR: 'it returns false'. Refute it at one input. -/
def checksWrong : ChangeSpec := { name := "checks", fn := fun _ => fun
  | [d1, d2] => { results := [.lit (.bool false)], args := [d1, d2] }
  | _ => none }
def ChecksWrongFalsely : Prop := checksRow.holds Try.pinned (OpenSpec.ofChange checksWrong)

/-- 'berthlaw.Labels': WHATEVER THE INPUT: true; the input reads as it did. -/
def labelsSpec : ChangeSpec := { name := "labels", fn := fun _ => fun
  | [d1, d2] => { results := [.lit (.bool true)], args := [d1, d2] }
  | _ => none }
def labelsRow : OpenClaim := { program := "ytchddaafibjmgaa", sum := "36d25012edac61f1a512b7893915263a9b7a54bb68cd6ebaece7ffe9894ef9eb", func := "berth/berthlaw.Labels", spec := "labels", plainKeys := false, apart := false }
def LabelsSaid : Prop := labelsRow.holds Try.pinned (OpenSpec.ofChange labelsSpec)

/-- ITS FALSE NEIGHBOUR: 'it returns false'. Refute it at one input. -/
def labelsWrong : ChangeSpec := { name := "labels", fn := fun _ => fun
  | [d1, d2] => { results := [.lit (.bool false)], args := [d1, d2] }
  | _ => none }
def LabelsWrongFalsely : Prop := labelsRow.holds Try.pinned (OpenSpec.ofChange labelsWrong)

/-- 'berthkeep.Forgetful': WHATEVER THE INPUT: true; the input reads as it did. -/
def forgetfulSpec : ChangeSpec := { name := "forgetful", fn := fun _ => fun
  | [d1, d2, d3] => { results := [.lit (.bool true)], args := [d1, d2, d3] }
  | _ => none }
def forgetfulRow : OpenClaim := { program := "ytchddaafibjmgaa", sum := "36d25012edac61f1a512b7893915263a9b7a54bb68cd6ebaece7ffe9894ef9eb", func := "berth/berthkeep.Forgetful", spec := "forgetful", unfollowed := true, recurses := true, plainKeys := false, apart := false }
def ForgetfulSaid : Prop := forgetfulRow.holds Try.pinned (OpenSpec.ofChange forgetfulSpec)

/-- ITS FALSE NEIGHBOUR: 'it returns false'. Refute it at one input. -/
def forgetfulWrong : ChangeSpec := { name := "forgetful", fn := fun _ => fun
  | [d1, d2, d3] => { results := [.lit (.bool false)], args := [d1, d2, d3] }
  | _ => none }
def ForgetfulWrongFalsely : Prop := forgetfulRow.holds Try.pinned (OpenSpec.ofChange forgetfulWrong)

/-- 'berthkeep.Enough': WHATEVER THE INPUT: true; the input reads as it did. -/
def enoughSpec : ChangeSpec := { name := "enough", fn := fun _ => fun
  | [d1, d2, d3] => { results := [.lit (.bool true)], args := [d1, d2, d3] }
  | _ => none }
def enoughRow : OpenClaim := { program := "ytchddaafibjmgaa", sum := "36d25012edac61f1a512b7893915263a9b7a54bb68cd6ebaece7ffe9894ef9eb", func := "berth/berthkeep.Enough", spec := "enough", unfollowed := true, recurses := true, plainKeys := false, apart := false }
def EnoughSaid : Prop := enoughRow.holds Try.pinned (OpenSpec.ofChange enoughSpec)

/-- ITS FALSE NEIGHBOUR: 'it returns false'. Refute it at one input. -/
def enoughWrong : ChangeSpec := { name := "enough", fn := fun _ => fun
  | [d1, d2, d3] => { results := [.lit (.bool false)], args := [d1, d2, d3] }
  | _ => none }
def EnoughWrongFalsely : Prop := enoughRow.holds Try.pinned (OpenSpec.ofChange enoughWrong)

/-- 'berthkeep.Held': WHATEVER THE INPUT: true; the input reads as it did. -/
def heldSpec : ChangeSpec := { name := "held", fn := fun _ => fun
  | [d1, d2, d3, d4, d5, d6] => { results := [.lit (.bool true)], args := [d1, d2, d3, d4, d5, d6] }
  | _ => none }
def heldRow : OpenClaim := { program := "ytchddaafibjmgaa", sum := "36d25012edac61f1a512b7893915263a9b7a54bb68cd6ebaece7ffe9894ef9eb", func := "berth/berthkeep.Held", spec := "held", unfollowed := true, recurses := true, plainKeys := false, apart := false }
def HeldSaid : Prop := heldRow.holds Try.pinned (OpenSpec.ofChange heldSpec)

/-- ITS FALSE NEIGHBOUR: 'it returns false'. Refute it at one input. -/
def heldWrong : ChangeSpec := { name := "held", fn := fun _ => fun
  | [d1, d2, d3, d4, d5, d6] => { results := [.lit (.bool false)], args := [d1, d2, d3, d4, d5, d6] }
  | _ => none }
def HeldWrongFalsely : Prop := heldRow.holds Try.pinned (OpenSpec.ofChange heldWrong)

/-- 'berthkeep.Moot': WHATEVER THE INPUT: true; the input reads as it did. -/
def mootSpec : ChangeSpec := { name := "moot", fn := fun _ => fun
  | [d1, d2, d3, d4, d5] => { results := [.lit (.bool true)], args := [d1, d2, d3, d4, d5] }
  | _ => none }
def mootRow : OpenClaim := { program := "ytchddaafibjmgaa", sum := "36d25012edac61f1a512b7893915263a9b7a54bb68cd6ebaece7ffe9894ef9eb", func := "berth/berthkeep.Moot", spec := "moot", unfollowed := true, recurses := true, plainKeys := false, apart := false }
def MootSaid : Prop := mootRow.holds Try.pinned (OpenSpec.ofChange mootSpec)

/-- ITS FALSE NEIGHBOUR: 'it returns false'. Refute it at one input. -/
def mootWrong : ChangeSpec := { name := "moot", fn := fun _ => fun
  | [d1, d2, d3, d4, d5] => { results := [.lit (.bool false)], args := [d1, d2, d3, d4, d5] }
  | _ => none }
def MootWrongFalsely : Prop := mootRow.holds Try.pinned (OpenSpec.ofChange mootWrong)

/-- 'berthkeep.Waits': WHATEVER THE INPUT: true; the input reads as it did. -/
def waitsSpec : ChangeSpec := { name := "waits", fn := fun _ => fun
  | [d1, d2, d3, d4] => { results := [.lit (.bool true)], args := [d1, d2, d3, d4] }
  | _ => none }
def waitsRow : OpenClaim := { program := "ytchddaafibjmgaa", sum := "36d25012edac61f1a512b7893915263a9b7a54bb68cd6ebaece7ffe9894ef9eb", func := "berth/berthkeep.Waits", spec := "waits", unfollowed := true, recurses := true, plainKeys := false, apart := false }
def WaitsSaid : Prop := waitsRow.holds Try.pinned (OpenSpec.ofChange waitsSpec)

/-- ITS FALSE NEIGHBOUR: 'it returns false'. Refute it at one input. -/
def waitsWrong : ChangeSpec := { name := "waits", fn := fun _ => fun
  | [d1, d2, d3, d4] => { results := [.lit (.bool false)], args := [d1, d2, d3, d4] }
  | _ => none }
def WaitsWrongFalsely : Prop := waitsRow.holds Try.pinned (OpenSpec.ofChange waitsWrong)

/- THE SECOND FORM. 'bulk': how many values and letters a reading holds, each counted each time it is reached (what is shared counts as often as it is met; a slice's spare places count too). A statement '..UptoSaid' is the law's where the arguments, and the package variables that the reading takes, are together of bulk at most 1048576: NARROWER than '..Said'. Prove '..Said' where nothing that the law and all that it calls make is longer than what came in: it says more and counts as full. Else prove '..UptoSaid'. A law counts once. -/
mutual
def uptoBulk {H : Type} : DataW H → Nat
  | .lit (.string bytes) => bytes.length + 1
  | .lit _ => 1
  | .nil => 1
  | .ptr d => uptoBulk d + 1
  | .slice elems spare => uptoBulkAll elems + uptoBulkAll spare + 1
  | .agg parts => uptoBulkAll parts + 1
  | .iface _ d => uptoBulk d + 1
  | .map entries => uptoBulkEntries entries + 1
  | .held _ => 1
def uptoBulkAll {H : Type} : List (DataW H) → Nat
  | [] => 0
  | d :: r => uptoBulk d + uptoBulkAll r
def uptoBulkEntries {H : Type} : List (Lit × DataW H) → Nat
  | [] => 0
  | x :: r => uptoBulkEntry x + uptoBulkEntries r
def uptoBulkEntry {H : Type} : Lit × DataW H → Nat
  | (.string bytes, d) => bytes.length + uptoBulk d + 1
  | (_, d) => uptoBulk d + 1
 end
def uptoSmall : (H : Type) → List (DataW H) → Bool := fun _ ds => decide (uptoBulkAll ds ≤ 1048576)
def OpenSpec.upto (s : _root_.Go.ChangeSpec) : _root_.Go.OpenSpec := { _root_.Go.OpenSpec.ofChange s with cond := some uptoSmall }

/-- 'berthlaw.Checks', WHERE WHAT IT READS IS OF BULK AT MOST 1048576: true; the input reads as it did. -/
def checksUptoRow : OpenClaim := { program := "ytchddaafibjmgaa", sum := "36d25012edac61f1a512b7893915263a9b7a54bb68cd6ebaece7ffe9894ef9eb", func := "berth/berthlaw.Checks", spec := "checks", plainKeys := false, apart := false, narrowed := true }
def ChecksUptoSaid : Prop := checksUptoRow.holds Try.pinned (OpenSpec.upto checksSpec)

/-- 'berthlaw.Labels', WHERE WHAT IT READS IS OF BULK AT MOST 1048576: true; the input reads as it did. -/
def labelsUptoRow : OpenClaim := { program := "ytchddaafibjmgaa", sum := "36d25012edac61f1a512b7893915263a9b7a54bb68cd6ebaece7ffe9894ef9eb", func := "berth/berthlaw.Labels", spec := "labels", plainKeys := false, apart := false, narrowed := true }
def LabelsUptoSaid : Prop := labelsUptoRow.holds Try.pinned (OpenSpec.upto labelsSpec)

/-- 'berthkeep.Forgetful', WHERE WHAT IT READS IS OF BULK AT MOST 1048576: true; the input reads as it did. -/
def forgetfulUptoRow : OpenClaim := { program := "ytchddaafibjmgaa", sum := "36d25012edac61f1a512b7893915263a9b7a54bb68cd6ebaece7ffe9894ef9eb", func := "berth/berthkeep.Forgetful", spec := "forgetful", unfollowed := true, recurses := true, plainKeys := false, apart := false, narrowed := true }
def ForgetfulUptoSaid : Prop := forgetfulUptoRow.holds Try.pinned (OpenSpec.upto forgetfulSpec)

/-- 'berthkeep.Enough', WHERE WHAT IT READS IS OF BULK AT MOST 1048576: true; the input reads as it did. -/
def enoughUptoRow : OpenClaim := { program := "ytchddaafibjmgaa", sum := "36d25012edac61f1a512b7893915263a9b7a54bb68cd6ebaece7ffe9894ef9eb", func := "berth/berthkeep.Enough", spec := "enough", unfollowed := true, recurses := true, plainKeys := false, apart := false, narrowed := true }
def EnoughUptoSaid : Prop := enoughUptoRow.holds Try.pinned (OpenSpec.upto enoughSpec)

/-- 'berthkeep.Held', WHERE WHAT IT READS IS OF BULK AT MOST 1048576: true; the input reads as it did. -/
def heldUptoRow : OpenClaim := { program := "ytchddaafibjmgaa", sum := "36d25012edac61f1a512b7893915263a9b7a54bb68cd6ebaece7ffe9894ef9eb", func := "berth/berthkeep.Held", spec := "held", unfollowed := true, recurses := true, plainKeys := false, apart := false, narrowed := true }
def HeldUptoSaid : Prop := heldUptoRow.holds Try.pinned (OpenSpec.upto heldSpec)

/-- 'berthkeep.Moot', WHERE WHAT IT READS IS OF BULK AT MOST 1048576: true; the input reads as it did. -/
def mootUptoRow : OpenClaim := { program := "ytchddaafibjmgaa", sum := "36d25012edac61f1a512b7893915263a9b7a54bb68cd6ebaece7ffe9894ef9eb", func := "berth/berthkeep.Moot", spec := "moot", unfollowed := true, recurses := true, plainKeys := false, apart := false, narrowed := true }
def MootUptoSaid : Prop := mootUptoRow.holds Try.pinned (OpenSpec.upto mootSpec)

/-- 'berthkeep.Waits', WHERE WHAT IT READS IS OF BULK AT MOST 1048576: true; the input reads as it did. -/
def waitsUptoRow : OpenClaim := { program := "ytchddaafibjmgaa", sum := "36d25012edac61f1a512b7893915263a9b7a54bb68cd6ebaece7ffe9894ef9eb", func := "berth/berthkeep.Waits", spec := "waits", unfollowed := true, recurses := true, plainKeys := false, apart := false, narrowed := true }
def WaitsUptoSaid : Prop := waitsUptoRow.holds Try.pinned (OpenSpec.upto waitsSpec)

end Rows
end Go.Proofs.Ytchddaafibjmgaa
