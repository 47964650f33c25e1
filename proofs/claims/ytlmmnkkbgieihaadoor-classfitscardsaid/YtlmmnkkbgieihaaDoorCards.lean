/-
  DERIVED. GIVEN WITH THE SEED: THE CARDS: each row of YtlmmnkkbgieihaaDoorRows.lean that lists a variable, with what it lists TIED to the program's text (the seventh form; the later family's looks); each row that meets fmt, with fmt's text TOLD by the authors' own Lean function (tested against real Go, not proved from fmt's source: count such statements apart). THE CARD IS WHAT COUNTS. Prove the row's statement (the work); the ties are given (YtlmmnkkbgieihaaDoorTie.lean); close each card by the builder's one call (the guide's Derived/Test/ToyasCard.lean, 'card_holds'). Laid BY PROGRAM, IN A SANDBOX (cutbox-door.mjs). By AI agents, Wed Nov 11 2026. No macro, syntax, notation, axiom, sorry.
-/
import Derived.Test.YtlmmnkkbgieihaaDoorRows
import GoSem.ClaimSeven
namespace Go.Proofs.YtlmmnkkbgieihaaDoor
namespace Rows

/-- THE TIED CARD OF 'messuagelaw12.ClassTells'. -/
def classTellsCard : Claim7 := { stood := { row := classTellsRow, standIns := [], harness := (true, "e26ca38a4a0e7102c86cc0bac4e2a3f63c5c35bd2827baa972766b75f02aaf7b"), looks := false }, kinds := [], alts := [], laidByText := true, laidKinds := [.data], laidTests := true, laidLooks := .later }
def ClassTellsCardSaid : Prop := Claim7.holds Tryd.pinned (.plain (OpenSpec.ofChange classTellsSpec)) classTellsCard

/-- THE TIED CARD OF 'messuagelaw12.ClassRows'. -/
def classRowsCard : Claim7 := { stood := { row := classRowsRow, standIns := [], harness := (true, "e26ca38a4a0e7102c86cc0bac4e2a3f63c5c35bd2827baa972766b75f02aaf7b"), looks := false }, kinds := [], alts := [], laidByText := true, laidKinds := [.data], laidTests := true, laidLooks := .later }
def ClassRowsCardSaid : Prop := Claim7.holds Tryd.pinned (.plain (OpenSpec.ofChange classRowsSpec)) classRowsCard

/-- THE TIED CARD OF 'messuagelaw12.ClassFits'. -/
def classFitsCard : Claim7 := { stood := { row := classFitsRow, standIns := [], harness := (true, "e26ca38a4a0e7102c86cc0bac4e2a3f63c5c35bd2827baa972766b75f02aaf7b"), looks := false }, kinds := [], alts := [], laidByText := true, laidKinds := [.data], laidTests := true, laidLooks := .later }
def ClassFitsCardSaid : Prop := Claim7.holds Tryd.pinned (.plain (OpenSpec.ofChange classFitsSpec)) classFitsCard

/-- THE SECOND FORM's CARD OF 'messuagelaw12.ClassTells'. -/
def classTellsUptoCard : Claim7 := { stood := { row := classTellsUptoRow, standIns := [], harness := (true, "e26ca38a4a0e7102c86cc0bac4e2a3f63c5c35bd2827baa972766b75f02aaf7b"), looks := false }, kinds := [], alts := [], laidByText := true, laidKinds := [.data], laidTests := true, laidLooks := .later }
def ClassTellsUptoCardSaid : Prop := Claim7.holds Tryd.pinned (.plain (OpenSpec.upto classTellsSpec)) classTellsUptoCard

/-- THE SECOND FORM's CARD OF 'messuagelaw12.ClassRows'. -/
def classRowsUptoCard : Claim7 := { stood := { row := classRowsUptoRow, standIns := [], harness := (true, "e26ca38a4a0e7102c86cc0bac4e2a3f63c5c35bd2827baa972766b75f02aaf7b"), looks := false }, kinds := [], alts := [], laidByText := true, laidKinds := [.data], laidTests := true, laidLooks := .later }
def ClassRowsUptoCardSaid : Prop := Claim7.holds Tryd.pinned (.plain (OpenSpec.upto classRowsSpec)) classRowsUptoCard

/-- THE SECOND FORM's CARD OF 'messuagelaw12.ClassFits'. -/
def classFitsUptoCard : Claim7 := { stood := { row := classFitsUptoRow, standIns := [], harness := (true, "e26ca38a4a0e7102c86cc0bac4e2a3f63c5c35bd2827baa972766b75f02aaf7b"), looks := false }, kinds := [], alts := [], laidByText := true, laidKinds := [.data], laidTests := true, laidLooks := .later }
def ClassFitsUptoCardSaid : Prop := Claim7.holds Tryd.pinned (.plain (OpenSpec.upto classFitsSpec)) classFitsUptoCard
end Rows
end Go.Proofs.YtlmmnkkbgieihaaDoor
