/-
  No cell of these rows narrows 'for every input' (looked for: loops, veiled, ifaces, maps, wideKeys, modest, calm, conditions, laid).
  DERIVED. THE GIVEN ROWS OF THIS SEAT. 3 by the template 'for every input the law returns true; each argument reads behind the call as it read before'; 0 by the template 'total and deterministic' (their statements: YtbejafjpdplofacTotals.lean).
  GIVEN WITH THE SEED: the statements are not yours to turn. If you find one false, say at which input.
  Laid BY PROGRAM, IN A SANDBOX (cutbox-rows.mjs): the forced cells as the released guide's own fill.sh prints them over the translation 35edd1143c846034… (all of the seat's roots in one cut). By AI agents, Wed Nov 11 2026. No macro, syntax, notation, axiom, sorry.
-/
import Derived.Test.YtbejafjpdplofacChecked
import GoSem.Claim
import GoSem.ClaimJoined
import GoSem.ClaimMapViews
import Derived.JoinedTies
import Derived.KernelRfl
namespace Go.Proofs.Ytbejafjpdplofac
/- THE CELL 'sum', in the pinned program and in every row, IS THE sha256 OF THE DUMP (.gsa) THAT YtbejafjpdplofacProg.lean LOADS. Nothing in Lean hashes anything: it is a label: what it is worth is what the hold of that sum in a sandbox is worth. -/
noncomputable def Try.pinned : Pinned := { name := "ytbejafjpdplofac", sum := "35edd1143c8460343026683eee175a532c4d1d165f2cd4721d57c45df2af00d8", checked := Try.checked }
namespace Rows
def none {H : Type} : Left H := { results := [], args := [] }

/-- 'messuagelaw15.CacheApart': WHATEVER THE INPUT: true; the input reads as it did. -/
def cacheApartSpec : ChangeSpec := { name := "cacheApart", fn := fun _ => fun
  | [d] => { results := [.lit (.bool true)], args := [d] }
  | _ => none }
def cacheApartRow : OpenClaim := { program := "ytbejafjpdplofac", sum := "35edd1143c8460343026683eee175a532c4d1d165f2cd4721d57c45df2af00d8", func := "messuage/messuagelaw15.CacheApart", spec := "cacheApart", apart := false }
def CacheApartSaid : Prop := cacheApartRow.holds Try.pinned (OpenSpec.ofChange cacheApartSpec)

/-- ITS FALSE NEIGHBOUR: 'it returns false'. Refute it at one input. -/
def cacheApartWrong : ChangeSpec := { name := "cacheApart", fn := fun _ => fun
  | [d] => { results := [.lit (.bool false)], args := [d] }
  | _ => none }
def CacheApartWrongFalsely : Prop := cacheApartRow.holds Try.pinned (OpenSpec.ofChange cacheApartWrong)

/-- 'messuagelaw15.CacheHalf': WHATEVER THE INPUT: true; the input reads as it did. -/
def cacheHalfSpec : ChangeSpec := { name := "cacheHalf", fn := fun _ => fun
  | [d1, d2] => { results := [.lit (.bool true)], args := [d1, d2] }
  | _ => none }
def cacheHalfRow : OpenClaim := { program := "ytbejafjpdplofac", sum := "35edd1143c8460343026683eee175a532c4d1d165f2cd4721d57c45df2af00d8", func := "messuage/messuagelaw15.CacheHalf", spec := "cacheHalf", apart := false }
def CacheHalfSaid : Prop := cacheHalfRow.holds Try.pinned (OpenSpec.ofChange cacheHalfSpec)

/-- ITS FALSE NEIGHBOUR: 'it returns false'. Refute it at one input. -/
def cacheHalfWrong : ChangeSpec := { name := "cacheHalf", fn := fun _ => fun
  | [d1, d2] => { results := [.lit (.bool false)], args := [d1, d2] }
  | _ => none }
def CacheHalfWrongFalsely : Prop := cacheHalfRow.holds Try.pinned (OpenSpec.ofChange cacheHalfWrong)

/-- 'messuagelaw18.BindEdges': WHATEVER THE INPUT: true; the input reads as it did. -/
def bindEdgesSpec : ChangeSpec := { name := "bindEdges", fn := fun _ => fun
  | [d1, d2, d3] => { results := [.lit (.bool true)], args := [d1, d2, d3] }
  | _ => none }
def bindEdgesRow : OpenClaim := { program := "ytbejafjpdplofac", sum := "35edd1143c8460343026683eee175a532c4d1d165f2cd4721d57c45df2af00d8", func := "messuage/messuagelaw18.BindEdges", spec := "bindEdges", apart := false }
def BindEdgesSaid : Prop := bindEdgesRow.holds Try.pinned (OpenSpec.ofChange bindEdgesSpec)

/-- ITS FALSE NEIGHBOUR: 'it returns false'. Refute it at one input. -/
def bindEdgesWrong : ChangeSpec := { name := "bindEdges", fn := fun _ => fun
  | [d1, d2, d3] => { results := [.lit (.bool false)], args := [d1, d2, d3] }
  | _ => none }
def BindEdgesWrongFalsely : Prop := bindEdgesRow.holds Try.pinned (OpenSpec.ofChange bindEdgesWrong)

/- THE SECOND FORM. 'bulk': how many values and letters a reading holds, each counted each time it is reached (what is shared counts as often as it is met; a slice's spare places count too). A statement '..UptoSaid' is the law's where the arguments, and the package variables that the reading takes, are together of bulk at most 1048576: NARROWER than '..Said'. Prove '..Said' where nothing that the law and all that it calls make is longer than what came in: it says more and counts as full. Else prove '..UptoSaid'. A law counts once. -/
mutual
def uptoBulk {H : Type} : DataW H → Nat
  | .lit (.string bytes) => bytes.length + 1
  | .lit _ => 1
  | .nil => 1
  | .ptr d => uptoBulk d + 1
  | .slice elems spare => uptoBulkAll elems + uptoBulkAll spare + 1
  | .agg parts => uptoBulkAll parts + 1
  | .iface _ d => uptoBulk d + 1
  | .map entries => uptoBulkEntries entries + 1
  | .held _ => 1
def uptoBulkAll {H : Type} : List (DataW H) → Nat
  | [] => 0
  | d :: r => uptoBulk d + uptoBulkAll r
def uptoBulkEntries {H : Type} : List (Lit × DataW H) → Nat
  | [] => 0
  | x :: r => uptoBulkEntry x + uptoBulkEntries r
def uptoBulkEntry {H : Type} : Lit × DataW H → Nat
  | (.string bytes, d) => bytes.length + uptoBulk d + 1
  | (_, d) => uptoBulk d + 1
 end
def uptoSmall : (H : Type) → List (DataW H) → Bool := fun _ ds => decide (uptoBulkAll ds ≤ 1048576)
def OpenSpec.upto (s : _root_.Go.ChangeSpec) : _root_.Go.OpenSpec := { _root_.Go.OpenSpec.ofChange s with cond := some uptoSmall }

/-- 'messuagelaw15.CacheApart', WHERE WHAT IT READS IS OF BULK AT MOST 1048576: true; the input reads as it did. -/
def cacheApartUptoRow : OpenClaim := { program := "ytbejafjpdplofac", sum := "35edd1143c8460343026683eee175a532c4d1d165f2cd4721d57c45df2af00d8", func := "messuage/messuagelaw15.CacheApart", spec := "cacheApart", apart := false, narrowed := true }
def CacheApartUptoSaid : Prop := cacheApartUptoRow.holds Try.pinned (OpenSpec.upto cacheApartSpec)

/-- 'messuagelaw15.CacheHalf', WHERE WHAT IT READS IS OF BULK AT MOST 1048576: true; the input reads as it did. -/
def cacheHalfUptoRow : OpenClaim := { program := "ytbejafjpdplofac", sum := "35edd1143c8460343026683eee175a532c4d1d165f2cd4721d57c45df2af00d8", func := "messuage/messuagelaw15.CacheHalf", spec := "cacheHalf", apart := false, narrowed := true }
def CacheHalfUptoSaid : Prop := cacheHalfUptoRow.holds Try.pinned (OpenSpec.upto cacheHalfSpec)

/-- 'messuagelaw18.BindEdges', WHERE WHAT IT READS IS OF BULK AT MOST 1048576: true; the input reads as it did. -/
def bindEdgesUptoRow : OpenClaim := { program := "ytbejafjpdplofac", sum := "35edd1143c8460343026683eee175a532c4d1d165f2cd4721d57c45df2af00d8", func := "messuage/messuagelaw18.BindEdges", spec := "bindEdges", apart := false, narrowed := true }
def BindEdgesUptoSaid : Prop := bindEdgesUptoRow.holds Try.pinned (OpenSpec.upto bindEdgesSpec)

end Rows
end Go.Proofs.Ytbejafjpdplofac
