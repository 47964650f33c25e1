/-
  No cell of these rows narrows 'for every input' (looked for: loops, veiled, ifaces, maps, wideKeys, modest, calm, conditions, laid).
  DERIVED. THE GIVEN ROWS OF THIS SEAT. 4 by the template 'for every input the law returns true; each argument reads behind the call as it read before'; 0 by the template 'total and deterministic' (their statements: YtpnlialhefknnaaTotals.lean).
  GIVEN WITH THE SEED: the statements are not yours to turn. If you find one false, say at which input.
  Laid BY PROGRAM, IN A SANDBOX (cutbox-rows.mjs): the forced cells as the released guide's own fill.sh prints them over the translation 6a925c3711cec71f… (all of the seat's roots in one cut). By AI agents, Wed Nov 11 2026. No macro, syntax, notation, axiom, sorry.
-/
import Derived.Test.YtpnlialhefknnaaChecked
import GoSem.Claim
import GoSem.ClaimJoined
import GoSem.ClaimMapViews
import Derived.JoinedTies
import Derived.KernelRfl
namespace Go.Proofs.Ytpnlialhefknnaa
/- THE CELL 'sum', in the pinned program and in every row, IS THE sha256 OF THE DUMP (.gsa) THAT YtpnlialhefknnaaProg.lean LOADS. Nothing in Lean hashes anything: it is a label: what it is worth is what the hold of that sum in a sandbox is worth. -/
noncomputable def Try.pinned : Pinned := { name := "ytpnlialhefknnaa", sum := "6a925c3711cec71fc9d4780efa6b018a40e9179b044f2fc9b73b2cf5f79c6376", checked := Try.checked }
namespace Rows
def none {H : Type} : Left H := { results := [], args := [] }

/-- 'messuagelaw10.PolicyTells': WHATEVER THE INPUT: true; the input reads as it did. -/
def policyTellsSpec : ChangeSpec := { name := "policyTells", fn := fun _ => fun
  | [d1, d2] => { results := [.lit (.bool true)], args := [d1, d2] }
  | _ => none }
def policyTellsRow : OpenClaim := { program := "ytpnlialhefknnaa", sum := "6a925c3711cec71fc9d4780efa6b018a40e9179b044f2fc9b73b2cf5f79c6376", func := "messuage/messuagelaw10.PolicyTells", spec := "policyTells", apart := false }
def PolicyTellsSaid : Prop := policyTellsRow.holds Try.pinned (OpenSpec.ofChange policyTellsSpec)

/-- ITS FALSE NEIGHBOUR: 'it returns false'. Refute it at one input. -/
def policyTellsWrong : ChangeSpec := { name := "policyTells", fn := fun _ => fun
  | [d1, d2] => { results := [.lit (.bool false)], args := [d1, d2] }
  | _ => none }
def PolicyTellsWrongFalsely : Prop := policyTellsRow.holds Try.pinned (OpenSpec.ofChange policyTellsWrong)

/-- 'messuagelaw10.PolicyRound': WHATEVER THE INPUT: true; the input reads as it did. -/
def policyRoundSpec : ChangeSpec := { name := "policyRound", fn := fun _ => fun
  | [d1, d2] => { results := [.lit (.bool true)], args := [d1, d2] }
  | _ => none }
def policyRoundRow : OpenClaim := { program := "ytpnlialhefknnaa", sum := "6a925c3711cec71fc9d4780efa6b018a40e9179b044f2fc9b73b2cf5f79c6376", func := "messuage/messuagelaw10.PolicyRound", spec := "policyRound", apart := false }
def PolicyRoundSaid : Prop := policyRoundRow.holds Try.pinned (OpenSpec.ofChange policyRoundSpec)

/-- ITS FALSE NEIGHBOUR: 'it returns false'. Refute it at one input. -/
def policyRoundWrong : ChangeSpec := { name := "policyRound", fn := fun _ => fun
  | [d1, d2] => { results := [.lit (.bool false)], args := [d1, d2] }
  | _ => none }
def PolicyRoundWrongFalsely : Prop := policyRoundRow.holds Try.pinned (OpenSpec.ofChange policyRoundWrong)

/-- 'messuagelaw10.PolicyMore': WHATEVER THE INPUT: true; the input reads as it did. -/
def policyMoreSpec : ChangeSpec := { name := "policyMore", fn := fun _ => fun
  | [d1, d2, d3] => { results := [.lit (.bool true)], args := [d1, d2, d3] }
  | _ => none }
def policyMoreRow : OpenClaim := { program := "ytpnlialhefknnaa", sum := "6a925c3711cec71fc9d4780efa6b018a40e9179b044f2fc9b73b2cf5f79c6376", func := "messuage/messuagelaw10.PolicyMore", spec := "policyMore", apart := false }
def PolicyMoreSaid : Prop := policyMoreRow.holds Try.pinned (OpenSpec.ofChange policyMoreSpec)

/-- ITS FALSE NEIGHBOUR: 'it returns false'. Refute it at one input. -/
def policyMoreWrong : ChangeSpec := { name := "policyMore", fn := fun _ => fun
  | [d1, d2, d3] => { results := [.lit (.bool false)], args := [d1, d2, d3] }
  | _ => none }
def PolicyMoreWrongFalsely : Prop := policyMoreRow.holds Try.pinned (OpenSpec.ofChange policyMoreWrong)

/-- 'messuagelaw10.PolicyLone': WHATEVER THE INPUT: true; the input reads as it did. -/
def policyLoneSpec : ChangeSpec := { name := "policyLone", fn := fun _ => fun
  | [d1, d2] => { results := [.lit (.bool true)], args := [d1, d2] }
  | _ => none }
def policyLoneRow : OpenClaim := { program := "ytpnlialhefknnaa", sum := "6a925c3711cec71fc9d4780efa6b018a40e9179b044f2fc9b73b2cf5f79c6376", func := "messuage/messuagelaw10.PolicyLone", spec := "policyLone", apart := false }
def PolicyLoneSaid : Prop := policyLoneRow.holds Try.pinned (OpenSpec.ofChange policyLoneSpec)

/-- ITS FALSE NEIGHBOUR: 'it returns false'. Refute it at one input. -/
def policyLoneWrong : ChangeSpec := { name := "policyLone", fn := fun _ => fun
  | [d1, d2] => { results := [.lit (.bool false)], args := [d1, d2] }
  | _ => none }
def PolicyLoneWrongFalsely : Prop := policyLoneRow.holds Try.pinned (OpenSpec.ofChange policyLoneWrong)

/- THE SECOND FORM. 'bulk': how many values and letters a reading holds, each counted each time it is reached (what is shared counts as often as it is met; a slice's spare places count too). A statement '..UptoSaid' is the law's where the arguments, and the package variables that the reading takes, are together of bulk at most 1048576: NARROWER than '..Said'. Prove '..Said' where nothing that the law and all that it calls make is longer than what came in: it says more and counts as full. Else prove '..UptoSaid'. A law counts once. -/
mutual
def uptoBulk {H : Type} : DataW H → Nat
  | .lit (.string bytes) => bytes.length + 1
  | .lit _ => 1
  | .nil => 1
  | .ptr d => uptoBulk d + 1
  | .slice elems spare => uptoBulkAll elems + uptoBulkAll spare + 1
  | .agg parts => uptoBulkAll parts + 1
  | .iface _ d => uptoBulk d + 1
  | .map entries => uptoBulkEntries entries + 1
  | .held _ => 1
def uptoBulkAll {H : Type} : List (DataW H) → Nat
  | [] => 0
  | d :: r => uptoBulk d + uptoBulkAll r
def uptoBulkEntries {H : Type} : List (Lit × DataW H) → Nat
  | [] => 0
  | x :: r => uptoBulkEntry x + uptoBulkEntries r
def uptoBulkEntry {H : Type} : Lit × DataW H → Nat
  | (.string bytes, d) => bytes.length + uptoBulk d + 1
  | (_, d) => uptoBulk d + 1
 end
def uptoSmall : (H : Type) → List (DataW H) → Bool := fun _ ds => decide (uptoBulkAll ds ≤ 1048576)
def OpenSpec.upto (s : _root_.Go.ChangeSpec) : _root_.Go.OpenSpec := { _root_.Go.OpenSpec.ofChange s with cond := some uptoSmall }

/-- 'messuagelaw10.PolicyTells', WHERE WHAT IT READS IS OF BULK AT MOST 1048576: true; the input reads as it did. -/
def policyTellsUptoRow : OpenClaim := { program := "ytpnlialhefknnaa", sum := "6a925c3711cec71fc9d4780efa6b018a40e9179b044f2fc9b73b2cf5f79c6376", func := "messuage/messuagelaw10.PolicyTells", spec := "policyTells", apart := false, narrowed := true }
def PolicyTellsUptoSaid : Prop := policyTellsUptoRow.holds Try.pinned (OpenSpec.upto policyTellsSpec)

/-- 'messuagelaw10.PolicyRound', WHERE WHAT IT READS IS OF BULK AT MOST 1048576: true; the input reads as it did. -/
def policyRoundUptoRow : OpenClaim := { program := "ytpnlialhefknnaa", sum := "6a925c3711cec71fc9d4780efa6b018a40e9179b044f2fc9b73b2cf5f79c6376", func := "messuage/messuagelaw10.PolicyRound", spec := "policyRound", apart := false, narrowed := true }
def PolicyRoundUptoSaid : Prop := policyRoundUptoRow.holds Try.pinned (OpenSpec.upto policyRoundSpec)

/-- 'messuagelaw10.PolicyMore', WHERE WHAT IT READS IS OF BULK AT MOST 1048576: true; the input reads as it did. -/
def policyMoreUptoRow : OpenClaim := { program := "ytpnlialhefknnaa", sum := "6a925c3711cec71fc9d4780efa6b018a40e9179b044f2fc9b73b2cf5f79c6376", func := "messuage/messuagelaw10.PolicyMore", spec := "policyMore", apart := false, narrowed := true }
def PolicyMoreUptoSaid : Prop := policyMoreUptoRow.holds Try.pinned (OpenSpec.upto policyMoreSpec)

/-- 'messuagelaw10.PolicyLone', WHERE WHAT IT READS IS OF BULK AT MOST 1048576: true; the input reads as it did. -/
def policyLoneUptoRow : OpenClaim := { program := "ytpnlialhefknnaa", sum := "6a925c3711cec71fc9d4780efa6b018a40e9179b044f2fc9b73b2cf5f79c6376", func := "messuage/messuagelaw10.PolicyLone", spec := "policyLone", apart := false, narrowed := true }
def PolicyLoneUptoSaid : Prop := policyLoneUptoRow.holds Try.pinned (OpenSpec.upto policyLoneSpec)

end Rows
end Go.Proofs.Ytpnlialhefknnaa
