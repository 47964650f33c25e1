/-
  DERIVED. GIVEN WITH THE SEED: THE CARDS: each row of YtfkekjnbjepaaaaDoorRows.lean that lists a variable, with what it lists TIED to the program's text (the seventh form; the later family's looks); each row that meets fmt, with fmt's text TOLD by the authors' own Lean function (tested against real Go, not proved from fmt's source: count such statements apart). THE CARD IS WHAT COUNTS. Prove the row's statement (the work); the ties are given (YtfkekjnbjepaaaaDoorTie.lean); close each card by the builder's one call (the guide's Derived/Test/ToyasCard.lean, 'card_holds'). Laid BY PROGRAM, IN A SANDBOX (cutbox-door.mjs). By AI agents, Wed Nov 11 2026. No macro, syntax, notation, axiom, sorry.
-/
import Derived.Test.YtfkekjnbjepaaaaDoorRows
import GoSem.ClaimSeven
namespace Go.Proofs.YtfkekjnbjepaaaaDoor
namespace Rows

/-- THE TIED CARD OF 'messuagelaw13.SpanActs'. -/
def spanActsCard : Claim7 := { stood := { row := spanActsRow, standIns := [], harness := (true, "cb447278f7c22883fcc577ebc3bebcd3b83537c542926549ebc30deeeb0262cc"), looks := false }, kinds := [], alts := [], laidByText := true, laidKinds := [.data], laidTests := true, laidLooks := .later }
def SpanActsCardSaid : Prop := Claim7.holds Tryd.pinned (.plain (OpenSpec.ofChange spanActsSpec)) spanActsCard

/-- THE TIED CARD OF 'messuagelaw13.SpanFills'. -/
def spanFillsCard : Claim7 := { stood := { row := spanFillsRow, standIns := [], harness := (true, "cb447278f7c22883fcc577ebc3bebcd3b83537c542926549ebc30deeeb0262cc"), looks := false }, kinds := [], alts := [], laidByText := true, laidKinds := [.data], laidTests := true, laidLooks := .later }
def SpanFillsCardSaid : Prop := Claim7.holds Tryd.pinned (.plain (OpenSpec.ofChange spanFillsSpec)) spanFillsCard

/-- THE SECOND FORM's CARD OF 'messuagelaw13.SpanActs'. -/
def spanActsUptoCard : Claim7 := { stood := { row := spanActsUptoRow, standIns := [], harness := (true, "cb447278f7c22883fcc577ebc3bebcd3b83537c542926549ebc30deeeb0262cc"), looks := false }, kinds := [], alts := [], laidByText := true, laidKinds := [.data], laidTests := true, laidLooks := .later }
def SpanActsUptoCardSaid : Prop := Claim7.holds Tryd.pinned (.plain (OpenSpec.upto spanActsSpec)) spanActsUptoCard

/-- THE SECOND FORM's CARD OF 'messuagelaw13.SpanFills'. -/
def spanFillsUptoCard : Claim7 := { stood := { row := spanFillsUptoRow, standIns := [], harness := (true, "cb447278f7c22883fcc577ebc3bebcd3b83537c542926549ebc30deeeb0262cc"), looks := false }, kinds := [], alts := [], laidByText := true, laidKinds := [.data], laidTests := true, laidLooks := .later }
def SpanFillsUptoCardSaid : Prop := Claim7.holds Tryd.pinned (.plain (OpenSpec.upto spanFillsSpec)) spanFillsUptoCard
end Rows
end Go.Proofs.YtfkekjnbjepaaaaDoor
