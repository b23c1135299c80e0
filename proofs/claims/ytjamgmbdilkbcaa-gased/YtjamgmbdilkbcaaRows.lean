/-
  No cell of these rows narrows 'for every input' (looked for: loops, veiled, ifaces, maps, wideKeys, modest, calm, conditions, laid).
  DERIVED. THE GIVEN ROWS OF THIS SEAT. 8 by the template 'for every input the law returns true; each argument reads behind the call as it read before'; 0 by the template 'total and deterministic' (their statements: YtjamgmbdilkbcaaTotals.lean).
  GIVEN WITH THE SEED: the statements are not yours to turn. If you find one false, say at which input.
  Laid BY PROGRAM, IN A SANDBOX (cutbox-rows.mjs): the forced cells as the released guide's own fill.sh prints them over the translation 186467a44df98c18… (all of the seat's roots in one cut). By AI agents, Wed Nov 11 2026. No macro, syntax, notation, axiom, sorry.
-/
import Derived.Test.YtjamgmbdilkbcaaChecked
import GoSem.Claim
import GoSem.ClaimJoined
import GoSem.ClaimMapViews
import Derived.JoinedTies
import Derived.KernelRfl
namespace Go.Proofs.Ytjamgmbdilkbcaa
/- THE CELL 'sum', in the pinned program and in every row, IS THE sha256 OF THE DUMP (.gsa) THAT YtjamgmbdilkbcaaProg.lean LOADS. Nothing in Lean hashes anything: it is a label: what it is worth is what the hold of that sum in a sandbox is worth. -/
noncomputable def Try.pinned : Pinned := { name := "ytjamgmbdilkbcaa", sum := "186467a44df98c187f4424bc056ce3d1f54b75e6d9e4cc2e743e99a130d14ff6", checked := Try.checked }
namespace Rows
def none {H : Type} : Left H := { results := [], args := [] }

/-- 'cofferlaw.Decoded': WHATEVER THE INPUT: true; the input reads as it did. -/
def decodedSpec : ChangeSpec := { name := "decoded", fn := fun _ => fun
  | [d] => { results := [.lit (.bool true)], args := [d] }
  | _ => none }
def decodedRow : OpenClaim := { program := "ytjamgmbdilkbcaa", sum := "186467a44df98c187f4424bc056ce3d1f54b75e6d9e4cc2e743e99a130d14ff6", func := "coffer/cofferlaw.Decoded", spec := "decoded", apart := false }
def DecodedSaid : Prop := decodedRow.holds Try.pinned (OpenSpec.ofChange decodedSpec)

/-- ITS FALSE NEIGHBOUR: 'it returns false'. Refute it at one input. -/
def decodedWrong : ChangeSpec := { name := "decoded", fn := fun _ => fun
  | [d] => { results := [.lit (.bool false)], args := [d] }
  | _ => none }
def DecodedWrongFalsely : Prop := decodedRow.holds Try.pinned (OpenSpec.ofChange decodedWrong)

/-- 'cofferlaw.Encoded': WHATEVER THE INPUT: true; the input reads as it did. -/
def encodedSpec : ChangeSpec := { name := "encoded", fn := fun _ => fun
  | [d] => { results := [.lit (.bool true)], args := [d] }
  | _ => none }
def encodedRow : OpenClaim := { program := "ytjamgmbdilkbcaa", sum := "186467a44df98c187f4424bc056ce3d1f54b75e6d9e4cc2e743e99a130d14ff6", func := "coffer/cofferlaw.Encoded", spec := "encoded", apart := false }
def EncodedSaid : Prop := encodedRow.holds Try.pinned (OpenSpec.ofChange encodedSpec)

/-- ITS FALSE NEIGHBOUR: 'it returns false'. Refute it at one input. -/
def encodedWrong : ChangeSpec := { name := "encoded", fn := fun _ => fun
  | [d] => { results := [.lit (.bool false)], args := [d] }
  | _ => none }
def EncodedWrongFalsely : Prop := encodedRow.holds Try.pinned (OpenSpec.ofChange encodedWrong)

/-- 'cofferkeep.Canon': WHATEVER THE INPUT: true; the input reads as it did. -/
def canonSpec : ChangeSpec := { name := "canon", fn := fun _ => fun
  | [d] => { results := [.lit (.bool true)], args := [d] }
  | _ => none }
def canonRow : OpenClaim := { program := "ytjamgmbdilkbcaa", sum := "186467a44df98c187f4424bc056ce3d1f54b75e6d9e4cc2e743e99a130d14ff6", func := "coffer/cofferkeep.Canon", spec := "canon", apart := false }
def CanonSaid : Prop := canonRow.holds Try.pinned (OpenSpec.ofChange canonSpec)

/-- ITS FALSE NEIGHBOUR: 'it returns false'. Refute it at one input. -/
def canonWrong : ChangeSpec := { name := "canon", fn := fun _ => fun
  | [d] => { results := [.lit (.bool false)], args := [d] }
  | _ => none }
def CanonWrongFalsely : Prop := canonRow.holds Try.pinned (OpenSpec.ofChange canonWrong)

/-- 'cofferkeep.Back': WHATEVER THE INPUT: true; the input reads as it did. -/
def backSpec : ChangeSpec := { name := "back", fn := fun _ => fun
  | [d] => { results := [.lit (.bool true)], args := [d] }
  | _ => none }
def backRow : OpenClaim := { program := "ytjamgmbdilkbcaa", sum := "186467a44df98c187f4424bc056ce3d1f54b75e6d9e4cc2e743e99a130d14ff6", func := "coffer/cofferkeep.Back", spec := "back", apart := false }
def BackSaid : Prop := backRow.holds Try.pinned (OpenSpec.ofChange backSpec)

/-- ITS FALSE NEIGHBOUR: 'it returns false'. Refute it at one input. -/
def backWrong : ChangeSpec := { name := "back", fn := fun _ => fun
  | [d] => { results := [.lit (.bool false)], args := [d] }
  | _ => none }
def BackWrongFalsely : Prop := backRow.holds Try.pinned (OpenSpec.ofChange backWrong)

/-- 'cofferlaw.Checked': WHATEVER THE INPUT: true; the input reads as it did. -/
def checkedSpec : ChangeSpec := { name := "checked", fn := fun _ => fun
  | [d] => { results := [.lit (.bool true)], args := [d] }
  | _ => none }
def checkedRow : OpenClaim := { program := "ytjamgmbdilkbcaa", sum := "186467a44df98c187f4424bc056ce3d1f54b75e6d9e4cc2e743e99a130d14ff6", func := "coffer/cofferlaw.Checked", spec := "checked", apart := false }
def CheckedSaid : Prop := checkedRow.holds Try.pinned (OpenSpec.ofChange checkedSpec)

/-- ITS FALSE NEIGHBOUR: 'it returns false'. Refute it at one input. -/
def checkedWrong : ChangeSpec := { name := "checked", fn := fun _ => fun
  | [d] => { results := [.lit (.bool false)], args := [d] }
  | _ => none }
def CheckedWrongFalsely : Prop := checkedRow.holds Try.pinned (OpenSpec.ofChange checkedWrong)

/-- 'cofferkeep.Kept': WHATEVER THE INPUT: true; the input reads as it did. -/
def keptSpec : ChangeSpec := { name := "kept", fn := fun _ => fun
  | [d1, d2] => { results := [.lit (.bool true)], args := [d1, d2] }
  | _ => none }
def keptRow : OpenClaim := { program := "ytjamgmbdilkbcaa", sum := "186467a44df98c187f4424bc056ce3d1f54b75e6d9e4cc2e743e99a130d14ff6", func := "coffer/cofferkeep.Kept", spec := "kept", apart := false }
def KeptSaid : Prop := keptRow.holds Try.pinned (OpenSpec.ofChange keptSpec)

/-- ITS FALSE NEIGHBOUR: 'it returns false'. Refute it at one input. -/
def keptWrong : ChangeSpec := { name := "kept", fn := fun _ => fun
  | [d1, d2] => { results := [.lit (.bool false)], args := [d1, d2] }
  | _ => none }
def KeptWrongFalsely : Prop := keptRow.holds Try.pinned (OpenSpec.ofChange keptWrong)

/-- 'cofferkeep.Gased': WHATEVER THE INPUT: true; the input reads as it did. -/
def gasedSpec : ChangeSpec := { name := "gased", fn := fun _ => fun
  | [d1, d2, d3, d4] => { results := [.lit (.bool true)], args := [d1, d2, d3, d4] }
  | _ => none }
def gasedRow : OpenClaim := { program := "ytjamgmbdilkbcaa", sum := "186467a44df98c187f4424bc056ce3d1f54b75e6d9e4cc2e743e99a130d14ff6", func := "coffer/cofferkeep.Gased", spec := "gased", apart := false }
def GasedSaid : Prop := gasedRow.holds Try.pinned (OpenSpec.ofChange gasedSpec)

/-- ITS FALSE NEIGHBOUR: 'it returns false'. Refute it at one input. -/
def gasedWrong : ChangeSpec := { name := "gased", fn := fun _ => fun
  | [d1, d2, d3, d4] => { results := [.lit (.bool false)], args := [d1, d2, d3, d4] }
  | _ => none }
def GasedWrongFalsely : Prop := gasedRow.holds Try.pinned (OpenSpec.ofChange gasedWrong)

/-- 'cofferkeep.Straight': WHATEVER THE INPUT: true; the input reads as it did. -/
def straightSpec : ChangeSpec := { name := "straight", fn := fun _ => fun
  | [d1, d2] => { results := [.lit (.bool true)], args := [d1, d2] }
  | _ => none }
def straightRow : OpenClaim := { program := "ytjamgmbdilkbcaa", sum := "186467a44df98c187f4424bc056ce3d1f54b75e6d9e4cc2e743e99a130d14ff6", func := "coffer/cofferkeep.Straight", spec := "straight", apart := false }
def StraightSaid : Prop := straightRow.holds Try.pinned (OpenSpec.ofChange straightSpec)

/-- ITS FALSE NEIGHBOUR: 'it returns false'. Refute it at one input. -/
def straightWrong : ChangeSpec := { name := "straight", fn := fun _ => fun
  | [d1, d2] => { results := [.lit (.bool false)], args := [d1, d2] }
  | _ => none }
def StraightWrongFalsely : Prop := straightRow.holds Try.pinned (OpenSpec.ofChange straightWrong)

/- THE SECOND FORM. 'bulk': how many values and letters a reading holds, each counted each time it is reached (what is shared counts as often as it is met; a slice's spare places count too). A statement '..UptoSaid' is the law's where the arguments, and the package variables that the reading takes, are together of bulk at most 1048576: NARROWER than '..Said'. Prove '..Said' where nothing that the law and all that it calls make is longer than what came in: it says more and counts as full. Else prove '..UptoSaid'. A law counts once. -/
mutual
def uptoBulk {H : Type} : DataW H → Nat
  | .lit (.string bytes) => bytes.length + 1
  | .lit _ => 1
  | .nil => 1
  | .ptr d => uptoBulk d + 1
  | .slice elems spare => uptoBulkAll elems + uptoBulkAll spare + 1
  | .agg parts => uptoBulkAll parts + 1
  | .iface _ d => uptoBulk d + 1
  | .map entries => uptoBulkEntries entries + 1
  | .held _ => 1
def uptoBulkAll {H : Type} : List (DataW H) → Nat
  | [] => 0
  | d :: r => uptoBulk d + uptoBulkAll r
def uptoBulkEntries {H : Type} : List (Lit × DataW H) → Nat
  | [] => 0
  | x :: r => uptoBulkEntry x + uptoBulkEntries r
def uptoBulkEntry {H : Type} : Lit × DataW H → Nat
  | (.string bytes, d) => bytes.length + uptoBulk d + 1
  | (_, d) => uptoBulk d + 1
 end
def uptoSmall : (H : Type) → List (DataW H) → Bool := fun _ ds => decide (uptoBulkAll ds ≤ 1048576)
def OpenSpec.upto (s : _root_.Go.ChangeSpec) : _root_.Go.OpenSpec := { _root_.Go.OpenSpec.ofChange s with cond := some uptoSmall }

/-- 'cofferlaw.Decoded', WHERE WHAT IT READS IS OF BULK AT MOST 1048576: true; the input reads as it did. -/
def decodedUptoRow : OpenClaim := { program := "ytjamgmbdilkbcaa", sum := "186467a44df98c187f4424bc056ce3d1f54b75e6d9e4cc2e743e99a130d14ff6", func := "coffer/cofferlaw.Decoded", spec := "decoded", apart := false, narrowed := true }
def DecodedUptoSaid : Prop := decodedUptoRow.holds Try.pinned (OpenSpec.upto decodedSpec)

/-- 'cofferlaw.Encoded', WHERE WHAT IT READS IS OF BULK AT MOST 1048576: true; the input reads as it did. -/
def encodedUptoRow : OpenClaim := { program := "ytjamgmbdilkbcaa", sum := "186467a44df98c187f4424bc056ce3d1f54b75e6d9e4cc2e743e99a130d14ff6", func := "coffer/cofferlaw.Encoded", spec := "encoded", apart := false, narrowed := true }
def EncodedUptoSaid : Prop := encodedUptoRow.holds Try.pinned (OpenSpec.upto encodedSpec)

/-- 'cofferkeep.Canon', WHERE WHAT IT READS IS OF BULK AT MOST 1048576: true; the input reads as it did. -/
def canonUptoRow : OpenClaim := { program := "ytjamgmbdilkbcaa", sum := "186467a44df98c187f4424bc056ce3d1f54b75e6d9e4cc2e743e99a130d14ff6", func := "coffer/cofferkeep.Canon", spec := "canon", apart := false, narrowed := true }
def CanonUptoSaid : Prop := canonUptoRow.holds Try.pinned (OpenSpec.upto canonSpec)

/-- 'cofferkeep.Back', WHERE WHAT IT READS IS OF BULK AT MOST 1048576: true; the input reads as it did. -/
def backUptoRow : OpenClaim := { program := "ytjamgmbdilkbcaa", sum := "186467a44df98c187f4424bc056ce3d1f54b75e6d9e4cc2e743e99a130d14ff6", func := "coffer/cofferkeep.Back", spec := "back", apart := false, narrowed := true }
def BackUptoSaid : Prop := backUptoRow.holds Try.pinned (OpenSpec.upto backSpec)

/-- 'cofferlaw.Checked', WHERE WHAT IT READS IS OF BULK AT MOST 1048576: true; the input reads as it did. -/
def checkedUptoRow : OpenClaim := { program := "ytjamgmbdilkbcaa", sum := "186467a44df98c187f4424bc056ce3d1f54b75e6d9e4cc2e743e99a130d14ff6", func := "coffer/cofferlaw.Checked", spec := "checked", apart := false, narrowed := true }
def CheckedUptoSaid : Prop := checkedUptoRow.holds Try.pinned (OpenSpec.upto checkedSpec)

/-- 'cofferkeep.Kept', WHERE WHAT IT READS IS OF BULK AT MOST 1048576: true; the input reads as it did. -/
def keptUptoRow : OpenClaim := { program := "ytjamgmbdilkbcaa", sum := "186467a44df98c187f4424bc056ce3d1f54b75e6d9e4cc2e743e99a130d14ff6", func := "coffer/cofferkeep.Kept", spec := "kept", apart := false, narrowed := true }
def KeptUptoSaid : Prop := keptUptoRow.holds Try.pinned (OpenSpec.upto keptSpec)

/-- 'cofferkeep.Gased', WHERE WHAT IT READS IS OF BULK AT MOST 1048576: true; the input reads as it did. -/
def gasedUptoRow : OpenClaim := { program := "ytjamgmbdilkbcaa", sum := "186467a44df98c187f4424bc056ce3d1f54b75e6d9e4cc2e743e99a130d14ff6", func := "coffer/cofferkeep.Gased", spec := "gased", apart := false, narrowed := true }
def GasedUptoSaid : Prop := gasedUptoRow.holds Try.pinned (OpenSpec.upto gasedSpec)

/-- 'cofferkeep.Straight', WHERE WHAT IT READS IS OF BULK AT MOST 1048576: true; the input reads as it did. -/
def straightUptoRow : OpenClaim := { program := "ytjamgmbdilkbcaa", sum := "186467a44df98c187f4424bc056ce3d1f54b75e6d9e4cc2e743e99a130d14ff6", func := "coffer/cofferkeep.Straight", spec := "straight", apart := false, narrowed := true }
def StraightUptoSaid : Prop := straightUptoRow.holds Try.pinned (OpenSpec.upto straightSpec)

end Rows
end Go.Proofs.Ytjamgmbdilkbcaa
