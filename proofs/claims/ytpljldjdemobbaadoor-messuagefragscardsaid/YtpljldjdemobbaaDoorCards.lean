/-
  DERIVED. GIVEN WITH THE SEED: THE CARDS: each row of YtpljldjdemobbaaDoorRows.lean that lists a variable, with what it lists TIED to the program's text (the seventh form; the later family's looks); each row that meets fmt, with fmt's text TOLD by the authors' own Lean function (tested against real Go, not proved from fmt's source: count such statements apart). THE CARD IS WHAT COUNTS. Prove the row's statement (the work); the ties are given (YtpljldjdemobbaaDoorTie.lean); close each card by the builder's one call (the guide's Derived/Test/ToyasCard.lean, 'card_holds'). Laid BY PROGRAM, IN A SANDBOX (cutbox-door.mjs). By AI agents, Wed Nov 11 2026. No macro, syntax, notation, axiom, sorry.
-/
import Derived.Test.YtpljldjdemobbaaDoorRows
import GoSem.ClaimSeven
namespace Go.Proofs.YtpljldjdemobbaaDoor
namespace Rows

/-- THE TIED CARD OF 'messuagelaw28.FragTells'. -/
def fragTellsCard : Claim7 := { stood := { row := fragTellsRow, standIns := [], harness := (true, "5d8e251d2237c9e66200158ff1c112594b6dbe37bdea6ec4b5b992f3d6153a1b"), looks := false }, kinds := [], alts := [], laidByText := true, laidKinds := [.data, .data], laidTests := true, laidLooks := .later }
def FragTellsCardSaid : Prop := Claim7.holds Tryd.pinned (.plain (OpenSpec.ofChange fragTellsSpec)) fragTellsCard

/-- THE TIED CARD OF 'messuagelaw28.FragFits'. -/
def fragFitsCard : Claim7 := { stood := { row := fragFitsRow, standIns := [], harness := (true, "5d8e251d2237c9e66200158ff1c112594b6dbe37bdea6ec4b5b992f3d6153a1b"), looks := false }, kinds := [], alts := [], laidByText := true, laidKinds := [.data, .data], laidTests := true, laidLooks := .later }
def FragFitsCardSaid : Prop := Claim7.holds Tryd.pinned (.plain (OpenSpec.ofChange fragFitsSpec)) fragFitsCard

/-- THE TIED CARD OF 'messuagelaw28.FragWhole'. -/
def fragWholeCard : Claim7 := { stood := { row := fragWholeRow, standIns := [], harness := (true, "5d8e251d2237c9e66200158ff1c112594b6dbe37bdea6ec4b5b992f3d6153a1b"), looks := false }, kinds := [], alts := [], laidByText := true, laidKinds := [.data, .data], laidTests := true, laidLooks := .later }
def FragWholeCardSaid : Prop := Claim7.holds Tryd.pinned (.plain (OpenSpec.ofChange fragWholeSpec)) fragWholeCard

/-- THE TIED CARD OF 'messuagelaw28.FragSums'. -/
def fragSumsCard : Claim7 := { stood := { row := fragSumsRow, standIns := [], harness := (true, "5d8e251d2237c9e66200158ff1c112594b6dbe37bdea6ec4b5b992f3d6153a1b"), looks := false }, kinds := [], alts := [], laidByText := true, laidKinds := [.data, .data], laidTests := true, laidLooks := .later }
def FragSumsCardSaid : Prop := Claim7.holds Tryd.pinned (.plain (OpenSpec.ofChange fragSumsSpec)) fragSumsCard

/-- THE TIED CARD OF 'messuagetop.MessuageFrags'. -/
def messuageFragsCard : Claim7 := { stood := { row := messuageFragsRow, standIns := [], harness := (true, "5d8e251d2237c9e66200158ff1c112594b6dbe37bdea6ec4b5b992f3d6153a1b"), looks := false }, kinds := [], alts := [], laidByText := true, laidKinds := [.data, .data], laidTests := true, laidLooks := .later }
def MessuageFragsCardSaid : Prop := Claim7.holds Tryd.pinned (.plain (OpenSpec.ofChange messuageFragsSpec)) messuageFragsCard

/-- THE SECOND FORM's CARD OF 'messuagelaw28.FragTells'. -/
def fragTellsUptoCard : Claim7 := { stood := { row := fragTellsUptoRow, standIns := [], harness := (true, "5d8e251d2237c9e66200158ff1c112594b6dbe37bdea6ec4b5b992f3d6153a1b"), looks := false }, kinds := [], alts := [], laidByText := true, laidKinds := [.data, .data], laidTests := true, laidLooks := .later }
def FragTellsUptoCardSaid : Prop := Claim7.holds Tryd.pinned (.plain (OpenSpec.upto fragTellsSpec)) fragTellsUptoCard

/-- THE SECOND FORM's CARD OF 'messuagelaw28.FragFits'. -/
def fragFitsUptoCard : Claim7 := { stood := { row := fragFitsUptoRow, standIns := [], harness := (true, "5d8e251d2237c9e66200158ff1c112594b6dbe37bdea6ec4b5b992f3d6153a1b"), looks := false }, kinds := [], alts := [], laidByText := true, laidKinds := [.data, .data], laidTests := true, laidLooks := .later }
def FragFitsUptoCardSaid : Prop := Claim7.holds Tryd.pinned (.plain (OpenSpec.upto fragFitsSpec)) fragFitsUptoCard

/-- THE SECOND FORM's CARD OF 'messuagelaw28.FragWhole'. -/
def fragWholeUptoCard : Claim7 := { stood := { row := fragWholeUptoRow, standIns := [], harness := (true, "5d8e251d2237c9e66200158ff1c112594b6dbe37bdea6ec4b5b992f3d6153a1b"), looks := false }, kinds := [], alts := [], laidByText := true, laidKinds := [.data, .data], laidTests := true, laidLooks := .later }
def FragWholeUptoCardSaid : Prop := Claim7.holds Tryd.pinned (.plain (OpenSpec.upto fragWholeSpec)) fragWholeUptoCard

/-- THE SECOND FORM's CARD OF 'messuagelaw28.FragSums'. -/
def fragSumsUptoCard : Claim7 := { stood := { row := fragSumsUptoRow, standIns := [], harness := (true, "5d8e251d2237c9e66200158ff1c112594b6dbe37bdea6ec4b5b992f3d6153a1b"), looks := false }, kinds := [], alts := [], laidByText := true, laidKinds := [.data, .data], laidTests := true, laidLooks := .later }
def FragSumsUptoCardSaid : Prop := Claim7.holds Tryd.pinned (.plain (OpenSpec.upto fragSumsSpec)) fragSumsUptoCard

/-- THE SECOND FORM's CARD OF 'messuagetop.MessuageFrags'. -/
def messuageFragsUptoCard : Claim7 := { stood := { row := messuageFragsUptoRow, standIns := [], harness := (true, "5d8e251d2237c9e66200158ff1c112594b6dbe37bdea6ec4b5b992f3d6153a1b"), looks := false }, kinds := [], alts := [], laidByText := true, laidKinds := [.data, .data], laidTests := true, laidLooks := .later }
def MessuageFragsUptoCardSaid : Prop := Claim7.holds Tryd.pinned (.plain (OpenSpec.upto messuageFragsSpec)) messuageFragsUptoCard
end Rows
end Go.Proofs.YtpljldjdemobbaaDoor
