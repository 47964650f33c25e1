/-
  No cell of these rows narrows 'for every input' (looked for: loops, veiled, ifaces, maps, wideKeys, modest, calm, conditions, laid).
  DERIVED. THE GIVEN ROWS OF THIS SEAT. 10 by the template 'for every input the law returns true; each argument reads behind the call as it read before'; 0 by the template 'total and deterministic' (their statements: YtockkmoanbddpaaTotals.lean).
  GIVEN WITH THE SEED: the statements are not yours to turn. If you find one false, say at which input.
  Laid BY PROGRAM, IN A SANDBOX (cutbox-rows.mjs): the forced cells as the released guide's own fill.sh prints them over the translation 70f04830ba2ee7b5… (all of the seat's roots in one cut). By AI agents, Wed Nov 11 2026. No macro, syntax, notation, axiom, sorry.
-/
import Derived.Test.YtockkmoanbddpaaChecked
import GoSem.Claim
import GoSem.ClaimJoined
import GoSem.ClaimMapViews
import Derived.JoinedTies
import Derived.KernelRfl
namespace Go.Proofs.Ytockkmoanbddpaa
/- THE CELL 'sum', in the pinned program and in every row, IS THE sha256 OF THE DUMP (.gsa) THAT YtockkmoanbddpaaProg.lean LOADS. Nothing in Lean hashes anything: it is a label: what it is worth is what the hold of that sum in a sandbox is worth. -/
noncomputable def Try.pinned : Pinned := { name := "ytockkmoanbddpaa", sum := "70f04830ba2ee7b567203ba2b65ae6154feb9292f5741a7fcaff3807de78d798", checked := Try.checked }
namespace Rows
def none {H : Type} : Left H := { results := [], args := [] }

/-- 'messuagelaw05.FramesActs': WHATEVER THE INPUT: true; the input reads as it did. -/
def framesActsSpec : ChangeSpec := { name := "framesActs", fn := fun _ => fun
  | [d1, d2, d3] => { results := [.lit (.bool true)], args := [d1, d2, d3] }
  | _ => none }
def framesActsRow : OpenClaim := { program := "ytockkmoanbddpaa", sum := "70f04830ba2ee7b567203ba2b65ae6154feb9292f5741a7fcaff3807de78d798", func := "messuage/messuagelaw05.FramesActs", spec := "framesActs", apart := false }
def FramesActsSaid : Prop := framesActsRow.holds Try.pinned (OpenSpec.ofChange framesActsSpec)

/-- ITS FALSE NEIGHBOUR: 'it returns false'. Refute it at one input. -/
def framesActsWrong : ChangeSpec := { name := "framesActs", fn := fun _ => fun
  | [d1, d2, d3] => { results := [.lit (.bool false)], args := [d1, d2, d3] }
  | _ => none }
def FramesActsWrongFalsely : Prop := framesActsRow.holds Try.pinned (OpenSpec.ofChange framesActsWrong)

/-- 'messuagelaw05.FramesApart': WHATEVER THE INPUT: true; the input reads as it did. -/
def framesApartSpec : ChangeSpec := { name := "framesApart", fn := fun _ => fun
  | [d1, d2, d3] => { results := [.lit (.bool true)], args := [d1, d2, d3] }
  | _ => none }
def framesApartRow : OpenClaim := { program := "ytockkmoanbddpaa", sum := "70f04830ba2ee7b567203ba2b65ae6154feb9292f5741a7fcaff3807de78d798", func := "messuage/messuagelaw05.FramesApart", spec := "framesApart", apart := false }
def FramesApartSaid : Prop := framesApartRow.holds Try.pinned (OpenSpec.ofChange framesApartSpec)

/-- ITS FALSE NEIGHBOUR: 'it returns false'. Refute it at one input. -/
def framesApartWrong : ChangeSpec := { name := "framesApart", fn := fun _ => fun
  | [d1, d2, d3] => { results := [.lit (.bool false)], args := [d1, d2, d3] }
  | _ => none }
def FramesApartWrongFalsely : Prop := framesApartRow.holds Try.pinned (OpenSpec.ofChange framesApartWrong)

/-- 'messuagelaw05.FramesCopies': WHATEVER THE INPUT: true; the input reads as it did. -/
def framesCopiesSpec : ChangeSpec := { name := "framesCopies", fn := fun _ => fun
  | [d1, d2, d3] => { results := [.lit (.bool true)], args := [d1, d2, d3] }
  | _ => none }
def framesCopiesRow : OpenClaim := { program := "ytockkmoanbddpaa", sum := "70f04830ba2ee7b567203ba2b65ae6154feb9292f5741a7fcaff3807de78d798", func := "messuage/messuagelaw05.FramesCopies", spec := "framesCopies", apart := false }
def FramesCopiesSaid : Prop := framesCopiesRow.holds Try.pinned (OpenSpec.ofChange framesCopiesSpec)

/-- ITS FALSE NEIGHBOUR: 'it returns false'. Refute it at one input. -/
def framesCopiesWrong : ChangeSpec := { name := "framesCopies", fn := fun _ => fun
  | [d1, d2, d3] => { results := [.lit (.bool false)], args := [d1, d2, d3] }
  | _ => none }
def FramesCopiesWrongFalsely : Prop := framesCopiesRow.holds Try.pinned (OpenSpec.ofChange framesCopiesWrong)

/-- 'messuagelaw06.TableTexts': WHATEVER THE INPUT: true; the input reads as it did. -/
def tableTextsSpec : ChangeSpec := { name := "tableTexts", fn := fun _ => fun
  | [d1, d2] => { results := [.lit (.bool true)], args := [d1, d2] }
  | _ => none }
def tableTextsRow : OpenClaim := { program := "ytockkmoanbddpaa", sum := "70f04830ba2ee7b567203ba2b65ae6154feb9292f5741a7fcaff3807de78d798", func := "messuage/messuagelaw06.TableTexts", spec := "tableTexts", unfollowed := true, recurses := true, apart := false }
def TableTextsSaid : Prop := tableTextsRow.holds Try.pinned (OpenSpec.ofChange tableTextsSpec)

/-- ITS FALSE NEIGHBOUR: 'it returns false'. Refute it at one input. -/
def tableTextsWrong : ChangeSpec := { name := "tableTexts", fn := fun _ => fun
  | [d1, d2] => { results := [.lit (.bool false)], args := [d1, d2] }
  | _ => none }
def TableTextsWrongFalsely : Prop := tableTextsRow.holds Try.pinned (OpenSpec.ofChange tableTextsWrong)

/-- 'messuagelaw06.TableSwaps': WHATEVER THE INPUT: true; the input reads as it did. -/
def tableSwapsSpec : ChangeSpec := { name := "tableSwaps", fn := fun _ => fun
  | [d1, d2] => { results := [.lit (.bool true)], args := [d1, d2] }
  | _ => none }
def tableSwapsRow : OpenClaim := { program := "ytockkmoanbddpaa", sum := "70f04830ba2ee7b567203ba2b65ae6154feb9292f5741a7fcaff3807de78d798", func := "messuage/messuagelaw06.TableSwaps", spec := "tableSwaps", unfollowed := true, recurses := true, apart := false }
def TableSwapsSaid : Prop := tableSwapsRow.holds Try.pinned (OpenSpec.ofChange tableSwapsSpec)

/-- ITS FALSE NEIGHBOUR: 'it returns false'. Refute it at one input. -/
def tableSwapsWrong : ChangeSpec := { name := "tableSwaps", fn := fun _ => fun
  | [d1, d2] => { results := [.lit (.bool false)], args := [d1, d2] }
  | _ => none }
def TableSwapsWrongFalsely : Prop := tableSwapsRow.holds Try.pinned (OpenSpec.ofChange tableSwapsWrong)

/-- 'messuagelaw06.TableClears': WHATEVER THE INPUT: true; the input reads as it did. -/
def tableClearsSpec : ChangeSpec := { name := "tableClears", fn := fun _ => fun
  | [d] => { results := [.lit (.bool true)], args := [d] }
  | _ => none }
def tableClearsRow : OpenClaim := { program := "ytockkmoanbddpaa", sum := "70f04830ba2ee7b567203ba2b65ae6154feb9292f5741a7fcaff3807de78d798", func := "messuage/messuagelaw06.TableClears", spec := "tableClears", unfollowed := true, recurses := true, apart := false }
def TableClearsSaid : Prop := tableClearsRow.holds Try.pinned (OpenSpec.ofChange tableClearsSpec)

/-- ITS FALSE NEIGHBOUR: 'it returns false'. Refute it at one input. -/
def tableClearsWrong : ChangeSpec := { name := "tableClears", fn := fun _ => fun
  | [d] => { results := [.lit (.bool false)], args := [d] }
  | _ => none }
def TableClearsWrongFalsely : Prop := tableClearsRow.holds Try.pinned (OpenSpec.ofChange tableClearsWrong)

/-- 'messuagelaw07.MemoryMoves': WHATEVER THE INPUT: true; the input reads as it did. -/
def memoryMovesSpec : ChangeSpec := { name := "memoryMoves", fn := fun _ => fun
  | [d1, d2] => { results := [.lit (.bool true)], args := [d1, d2] }
  | _ => none }
def memoryMovesRow : OpenClaim := { program := "ytockkmoanbddpaa", sum := "70f04830ba2ee7b567203ba2b65ae6154feb9292f5741a7fcaff3807de78d798", func := "messuage/messuagelaw07.MemoryMoves", spec := "memoryMoves", unfollowed := true, recurses := true, apart := false }
def MemoryMovesSaid : Prop := memoryMovesRow.holds Try.pinned (OpenSpec.ofChange memoryMovesSpec)

/-- ITS FALSE NEIGHBOUR: 'it returns false'. Refute it at one input. -/
def memoryMovesWrong : ChangeSpec := { name := "memoryMoves", fn := fun _ => fun
  | [d1, d2] => { results := [.lit (.bool false)], args := [d1, d2] }
  | _ => none }
def MemoryMovesWrongFalsely : Prop := memoryMovesRow.holds Try.pinned (OpenSpec.ofChange memoryMovesWrong)

/-- 'messuagelaw07.MemoryParts': WHATEVER THE INPUT: true; the input reads as it did. -/
def memoryPartsSpec : ChangeSpec := { name := "memoryParts", fn := fun _ => fun
  | [d1, d2, d3] => { results := [.lit (.bool true)], args := [d1, d2, d3] }
  | _ => none }
def memoryPartsRow : OpenClaim := { program := "ytockkmoanbddpaa", sum := "70f04830ba2ee7b567203ba2b65ae6154feb9292f5741a7fcaff3807de78d798", func := "messuage/messuagelaw07.MemoryParts", spec := "memoryParts", unfollowed := true, recurses := true, apart := false }
def MemoryPartsSaid : Prop := memoryPartsRow.holds Try.pinned (OpenSpec.ofChange memoryPartsSpec)

/-- ITS FALSE NEIGHBOUR: 'it returns false'. Refute it at one input. -/
def memoryPartsWrong : ChangeSpec := { name := "memoryParts", fn := fun _ => fun
  | [d1, d2, d3] => { results := [.lit (.bool false)], args := [d1, d2, d3] }
  | _ => none }
def MemoryPartsWrongFalsely : Prop := memoryPartsRow.holds Try.pinned (OpenSpec.ofChange memoryPartsWrong)

/-- 'messuagelaw07.MemoryHoles': WHATEVER THE INPUT: true; the input reads as it did. -/
def memoryHolesSpec : ChangeSpec := { name := "memoryHoles", fn := fun _ => fun
  | [d1, d2, d3] => { results := [.lit (.bool true)], args := [d1, d2, d3] }
  | _ => none }
def memoryHolesRow : OpenClaim := { program := "ytockkmoanbddpaa", sum := "70f04830ba2ee7b567203ba2b65ae6154feb9292f5741a7fcaff3807de78d798", func := "messuage/messuagelaw07.MemoryHoles", spec := "memoryHoles", unfollowed := true, recurses := true, apart := false }
def MemoryHolesSaid : Prop := memoryHolesRow.holds Try.pinned (OpenSpec.ofChange memoryHolesSpec)

/-- ITS FALSE NEIGHBOUR: 'it returns false'. Refute it at one input. -/
def memoryHolesWrong : ChangeSpec := { name := "memoryHoles", fn := fun _ => fun
  | [d1, d2, d3] => { results := [.lit (.bool false)], args := [d1, d2, d3] }
  | _ => none }
def MemoryHolesWrongFalsely : Prop := memoryHolesRow.holds Try.pinned (OpenSpec.ofChange memoryHolesWrong)

/-- 'messuagetop.MessuagePages': WHATEVER THE INPUT: true; the input reads as it did. -/
def messuagePagesSpec : ChangeSpec := { name := "messuagePages", fn := fun _ => fun
  | [d1, d2] => { results := [.lit (.bool true)], args := [d1, d2] }
  | _ => none }
def messuagePagesRow : OpenClaim := { program := "ytockkmoanbddpaa", sum := "70f04830ba2ee7b567203ba2b65ae6154feb9292f5741a7fcaff3807de78d798", func := "messuage/messuagetop.MessuagePages", spec := "messuagePages", inPlace := ["internal/bytealg.IndexByteString", "internal/bytealg.IndexString"], unfollowed := true, recurses := true, named := ["internal/bytealg.MaxLen"], apart := false }
def MessuagePagesSaid : Prop := messuagePagesRow.holds Try.pinned (OpenSpec.ofChange messuagePagesSpec)

/-- ITS FALSE NEIGHBOUR: 'it returns false'. Refute it at one input. -/
def messuagePagesWrong : ChangeSpec := { name := "messuagePages", fn := fun _ => fun
  | [d1, d2] => { results := [.lit (.bool false)], args := [d1, d2] }
  | _ => none }
def MessuagePagesWrongFalsely : Prop := messuagePagesRow.holds Try.pinned (OpenSpec.ofChange messuagePagesWrong)

/- THE SECOND FORM. 'bulk': how many values and letters a reading holds, each counted each time it is reached (what is shared counts as often as it is met; a slice's spare places count too). A statement '..UptoSaid' is the law's where the arguments, and the package variables that the reading takes, are together of bulk at most 1048576: NARROWER than '..Said'. Prove '..Said' where nothing that the law and all that it calls make is longer than what came in: it says more and counts as full. Else prove '..UptoSaid'. A law counts once. -/
mutual
def uptoBulk {H : Type} : DataW H → Nat
  | .lit (.string bytes) => bytes.length + 1
  | .lit _ => 1
  | .nil => 1
  | .ptr d => uptoBulk d + 1
  | .slice elems spare => uptoBulkAll elems + uptoBulkAll spare + 1
  | .agg parts => uptoBulkAll parts + 1
  | .iface _ d => uptoBulk d + 1
  | .map entries => uptoBulkEntries entries + 1
  | .held _ => 1
def uptoBulkAll {H : Type} : List (DataW H) → Nat
  | [] => 0
  | d :: r => uptoBulk d + uptoBulkAll r
def uptoBulkEntries {H : Type} : List (Lit × DataW H) → Nat
  | [] => 0
  | x :: r => uptoBulkEntry x + uptoBulkEntries r
def uptoBulkEntry {H : Type} : Lit × DataW H → Nat
  | (.string bytes, d) => bytes.length + uptoBulk d + 1
  | (_, d) => uptoBulk d + 1
 end
def uptoSmall : (H : Type) → List (DataW H) → Bool := fun _ ds => decide (uptoBulkAll ds ≤ 1048576)
def OpenSpec.upto (s : _root_.Go.ChangeSpec) : _root_.Go.OpenSpec := { _root_.Go.OpenSpec.ofChange s with cond := some uptoSmall }

/-- 'messuagelaw05.FramesActs', WHERE WHAT IT READS IS OF BULK AT MOST 1048576: true; the input reads as it did. -/
def framesActsUptoRow : OpenClaim := { program := "ytockkmoanbddpaa", sum := "70f04830ba2ee7b567203ba2b65ae6154feb9292f5741a7fcaff3807de78d798", func := "messuage/messuagelaw05.FramesActs", spec := "framesActs", apart := false, narrowed := true }
def FramesActsUptoSaid : Prop := framesActsUptoRow.holds Try.pinned (OpenSpec.upto framesActsSpec)

/-- 'messuagelaw05.FramesApart', WHERE WHAT IT READS IS OF BULK AT MOST 1048576: true; the input reads as it did. -/
def framesApartUptoRow : OpenClaim := { program := "ytockkmoanbddpaa", sum := "70f04830ba2ee7b567203ba2b65ae6154feb9292f5741a7fcaff3807de78d798", func := "messuage/messuagelaw05.FramesApart", spec := "framesApart", apart := false, narrowed := true }
def FramesApartUptoSaid : Prop := framesApartUptoRow.holds Try.pinned (OpenSpec.upto framesApartSpec)

/-- 'messuagelaw05.FramesCopies', WHERE WHAT IT READS IS OF BULK AT MOST 1048576: true; the input reads as it did. -/
def framesCopiesUptoRow : OpenClaim := { program := "ytockkmoanbddpaa", sum := "70f04830ba2ee7b567203ba2b65ae6154feb9292f5741a7fcaff3807de78d798", func := "messuage/messuagelaw05.FramesCopies", spec := "framesCopies", apart := false, narrowed := true }
def FramesCopiesUptoSaid : Prop := framesCopiesUptoRow.holds Try.pinned (OpenSpec.upto framesCopiesSpec)

/-- 'messuagelaw06.TableTexts', WHERE WHAT IT READS IS OF BULK AT MOST 1048576: true; the input reads as it did. -/
def tableTextsUptoRow : OpenClaim := { program := "ytockkmoanbddpaa", sum := "70f04830ba2ee7b567203ba2b65ae6154feb9292f5741a7fcaff3807de78d798", func := "messuage/messuagelaw06.TableTexts", spec := "tableTexts", unfollowed := true, recurses := true, apart := false, narrowed := true }
def TableTextsUptoSaid : Prop := tableTextsUptoRow.holds Try.pinned (OpenSpec.upto tableTextsSpec)

/-- 'messuagelaw06.TableSwaps', WHERE WHAT IT READS IS OF BULK AT MOST 1048576: true; the input reads as it did. -/
def tableSwapsUptoRow : OpenClaim := { program := "ytockkmoanbddpaa", sum := "70f04830ba2ee7b567203ba2b65ae6154feb9292f5741a7fcaff3807de78d798", func := "messuage/messuagelaw06.TableSwaps", spec := "tableSwaps", unfollowed := true, recurses := true, apart := false, narrowed := true }
def TableSwapsUptoSaid : Prop := tableSwapsUptoRow.holds Try.pinned (OpenSpec.upto tableSwapsSpec)

/-- 'messuagelaw06.TableClears', WHERE WHAT IT READS IS OF BULK AT MOST 1048576: true; the input reads as it did. -/
def tableClearsUptoRow : OpenClaim := { program := "ytockkmoanbddpaa", sum := "70f04830ba2ee7b567203ba2b65ae6154feb9292f5741a7fcaff3807de78d798", func := "messuage/messuagelaw06.TableClears", spec := "tableClears", unfollowed := true, recurses := true, apart := false, narrowed := true }
def TableClearsUptoSaid : Prop := tableClearsUptoRow.holds Try.pinned (OpenSpec.upto tableClearsSpec)

/-- 'messuagelaw07.MemoryMoves', WHERE WHAT IT READS IS OF BULK AT MOST 1048576: true; the input reads as it did. -/
def memoryMovesUptoRow : OpenClaim := { program := "ytockkmoanbddpaa", sum := "70f04830ba2ee7b567203ba2b65ae6154feb9292f5741a7fcaff3807de78d798", func := "messuage/messuagelaw07.MemoryMoves", spec := "memoryMoves", unfollowed := true, recurses := true, apart := false, narrowed := true }
def MemoryMovesUptoSaid : Prop := memoryMovesUptoRow.holds Try.pinned (OpenSpec.upto memoryMovesSpec)

/-- 'messuagelaw07.MemoryParts', WHERE WHAT IT READS IS OF BULK AT MOST 1048576: true; the input reads as it did. -/
def memoryPartsUptoRow : OpenClaim := { program := "ytockkmoanbddpaa", sum := "70f04830ba2ee7b567203ba2b65ae6154feb9292f5741a7fcaff3807de78d798", func := "messuage/messuagelaw07.MemoryParts", spec := "memoryParts", unfollowed := true, recurses := true, apart := false, narrowed := true }
def MemoryPartsUptoSaid : Prop := memoryPartsUptoRow.holds Try.pinned (OpenSpec.upto memoryPartsSpec)

/-- 'messuagelaw07.MemoryHoles', WHERE WHAT IT READS IS OF BULK AT MOST 1048576: true; the input reads as it did. -/
def memoryHolesUptoRow : OpenClaim := { program := "ytockkmoanbddpaa", sum := "70f04830ba2ee7b567203ba2b65ae6154feb9292f5741a7fcaff3807de78d798", func := "messuage/messuagelaw07.MemoryHoles", spec := "memoryHoles", unfollowed := true, recurses := true, apart := false, narrowed := true }
def MemoryHolesUptoSaid : Prop := memoryHolesUptoRow.holds Try.pinned (OpenSpec.upto memoryHolesSpec)

/-- 'messuagetop.MessuagePages', WHERE WHAT IT READS IS OF BULK AT MOST 1048576: true; the input reads as it did. -/
def messuagePagesUptoRow : OpenClaim := { program := "ytockkmoanbddpaa", sum := "70f04830ba2ee7b567203ba2b65ae6154feb9292f5741a7fcaff3807de78d798", func := "messuage/messuagetop.MessuagePages", spec := "messuagePages", inPlace := ["internal/bytealg.IndexByteString", "internal/bytealg.IndexString"], unfollowed := true, recurses := true, named := ["internal/bytealg.MaxLen"], apart := false, narrowed := true }
def MessuagePagesUptoSaid : Prop := messuagePagesUptoRow.holds Try.pinned (OpenSpec.upto messuagePagesSpec)

end Rows
end Go.Proofs.Ytockkmoanbddpaa
