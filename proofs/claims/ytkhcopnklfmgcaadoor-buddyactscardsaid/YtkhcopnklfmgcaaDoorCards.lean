/-
  DERIVED. GIVEN WITH THE SEED: THE CARDS: each row of YtkhcopnklfmgcaaDoorRows.lean that lists a variable, with what it lists TIED to the program's text (the seventh form; the later family's looks); each row that meets fmt, with fmt's text TOLD by the authors' own Lean function (tested against real Go, not proved from fmt's source: count such statements apart). THE CARD IS WHAT COUNTS. Prove the row's statement (the work); the ties are given (YtkhcopnklfmgcaaDoorTie.lean); close each card by the builder's one call (the guide's Derived/Test/ToyasCard.lean, 'card_holds'). Laid BY PROGRAM, IN A SANDBOX (cutbox-door.mjs). By AI agents, Wed Nov 11 2026. No macro, syntax, notation, axiom, sorry.
-/
import Derived.Test.YtkhcopnklfmgcaaDoorRows
import GoSem.ClaimSeven
namespace Go.Proofs.YtkhcopnklfmgcaaDoor
namespace Rows

/-- THE TIED CARD OF 'messuagelaw08.BuddyActs'. -/
def buddyActsCard : Claim7 := { stood := { row := buddyActsRow, standIns := [], harness := (true, "945f74f2e78db464225c8a6dd12db5f7b9c88ec3cadf5941a6772bcbc755d2a9"), looks := false }, kinds := [], alts := [], laidByText := true, laidKinds := [.data, .data], laidTests := true, laidLooks := .later }
def BuddyActsCardSaid : Prop := Claim7.holds Tryd.pinned (.plain (OpenSpec.ofChange buddyActsSpec)) buddyActsCard

/-- THE TIED CARD OF 'messuagelaw08.BuddyWhole'. -/
def buddyWholeCard : Claim7 := { stood := { row := buddyWholeRow, standIns := [], harness := (true, "945f74f2e78db464225c8a6dd12db5f7b9c88ec3cadf5941a6772bcbc755d2a9"), looks := false }, kinds := [], alts := [], laidByText := true, laidKinds := [.data, .data], laidTests := true, laidLooks := .later }
def BuddyWholeCardSaid : Prop := Claim7.holds Tryd.pinned (.plain (OpenSpec.ofChange buddyWholeSpec)) buddyWholeCard

/-- THE TIED CARD OF 'messuagelaw08.BuddyLow'. -/
def buddyLowCard : Claim7 := { stood := { row := buddyLowRow, standIns := [], harness := (true, "945f74f2e78db464225c8a6dd12db5f7b9c88ec3cadf5941a6772bcbc755d2a9"), looks := false }, kinds := [], alts := [], laidByText := true, laidKinds := [.data, .data], laidTests := true, laidLooks := .later }
def BuddyLowCardSaid : Prop := Claim7.holds Tryd.pinned (.plain (OpenSpec.ofChange buddyLowSpec)) buddyLowCard

/-- THE TIED CARD OF 'messuagelaw08.BuddyBack'. -/
def buddyBackCard : Claim7 := { stood := { row := buddyBackRow, standIns := [], harness := (true, "945f74f2e78db464225c8a6dd12db5f7b9c88ec3cadf5941a6772bcbc755d2a9"), looks := false }, kinds := [], alts := [], laidByText := true, laidKinds := [.data, .data], laidTests := true, laidLooks := .later }
def BuddyBackCardSaid : Prop := Claim7.holds Tryd.pinned (.plain (OpenSpec.ofChange buddyBackSpec)) buddyBackCard

/-- THE TIED CARD OF 'messuagelaw09.HeapActs'. -/
def heapActsCard : Claim7 := { stood := { row := heapActsRow, standIns := [], harness := (true, "945f74f2e78db464225c8a6dd12db5f7b9c88ec3cadf5941a6772bcbc755d2a9"), looks := false }, kinds := [], alts := [], laidByText := true, laidKinds := [.data, .data], laidTests := true, laidLooks := .later }
def HeapActsCardSaid : Prop := Claim7.holds Tryd.pinned (.plain (OpenSpec.ofChange heapActsSpec)) heapActsCard

/-- THE TIED CARD OF 'messuagelaw09.HeapMarks'. -/
def heapMarksCard : Claim7 := { stood := { row := heapMarksRow, standIns := [], harness := (true, "945f74f2e78db464225c8a6dd12db5f7b9c88ec3cadf5941a6772bcbc755d2a9"), looks := false }, kinds := [], alts := [], laidByText := true, laidKinds := [.data, .data], laidTests := true, laidLooks := .later }
def HeapMarksCardSaid : Prop := Claim7.holds Tryd.pinned (.plain (OpenSpec.ofChange heapMarksSpec)) heapMarksCard

/-- THE TIED CARD OF 'messuagelaw09.HeapRuns'. -/
def heapRunsCard : Claim7 := { stood := { row := heapRunsRow, standIns := [], harness := (true, "945f74f2e78db464225c8a6dd12db5f7b9c88ec3cadf5941a6772bcbc755d2a9"), looks := false }, kinds := [], alts := [], laidByText := true, laidKinds := [.data, .data], laidTests := true, laidLooks := .later }
def HeapRunsCardSaid : Prop := Claim7.holds Tryd.pinned (.plain (OpenSpec.ofChange heapRunsSpec)) heapRunsCard

/-- THE TIED CARD OF 'messuagetop.MessuageRuns'. -/
def messuageRunsCard : Claim7 := { stood := { row := messuageRunsRow, standIns := [], harness := (true, "945f74f2e78db464225c8a6dd12db5f7b9c88ec3cadf5941a6772bcbc755d2a9"), looks := false }, kinds := [], alts := [], laidByText := true, laidKinds := [.data, .data], laidTests := true, laidLooks := .later }
def MessuageRunsCardSaid : Prop := Claim7.holds Tryd.pinned (.plain (OpenSpec.ofChange messuageRunsSpec)) messuageRunsCard

/-- THE SECOND FORM's CARD OF 'messuagelaw08.BuddyActs'. -/
def buddyActsUptoCard : Claim7 := { stood := { row := buddyActsUptoRow, standIns := [], harness := (true, "945f74f2e78db464225c8a6dd12db5f7b9c88ec3cadf5941a6772bcbc755d2a9"), looks := false }, kinds := [], alts := [], laidByText := true, laidKinds := [.data, .data], laidTests := true, laidLooks := .later }
def BuddyActsUptoCardSaid : Prop := Claim7.holds Tryd.pinned (.plain (OpenSpec.upto buddyActsSpec)) buddyActsUptoCard

/-- THE SECOND FORM's CARD OF 'messuagelaw08.BuddyWhole'. -/
def buddyWholeUptoCard : Claim7 := { stood := { row := buddyWholeUptoRow, standIns := [], harness := (true, "945f74f2e78db464225c8a6dd12db5f7b9c88ec3cadf5941a6772bcbc755d2a9"), looks := false }, kinds := [], alts := [], laidByText := true, laidKinds := [.data, .data], laidTests := true, laidLooks := .later }
def BuddyWholeUptoCardSaid : Prop := Claim7.holds Tryd.pinned (.plain (OpenSpec.upto buddyWholeSpec)) buddyWholeUptoCard

/-- THE SECOND FORM's CARD OF 'messuagelaw08.BuddyLow'. -/
def buddyLowUptoCard : Claim7 := { stood := { row := buddyLowUptoRow, standIns := [], harness := (true, "945f74f2e78db464225c8a6dd12db5f7b9c88ec3cadf5941a6772bcbc755d2a9"), looks := false }, kinds := [], alts := [], laidByText := true, laidKinds := [.data, .data], laidTests := true, laidLooks := .later }
def BuddyLowUptoCardSaid : Prop := Claim7.holds Tryd.pinned (.plain (OpenSpec.upto buddyLowSpec)) buddyLowUptoCard

/-- THE SECOND FORM's CARD OF 'messuagelaw08.BuddyBack'. -/
def buddyBackUptoCard : Claim7 := { stood := { row := buddyBackUptoRow, standIns := [], harness := (true, "945f74f2e78db464225c8a6dd12db5f7b9c88ec3cadf5941a6772bcbc755d2a9"), looks := false }, kinds := [], alts := [], laidByText := true, laidKinds := [.data, .data], laidTests := true, laidLooks := .later }
def BuddyBackUptoCardSaid : Prop := Claim7.holds Tryd.pinned (.plain (OpenSpec.upto buddyBackSpec)) buddyBackUptoCard

/-- THE SECOND FORM's CARD OF 'messuagelaw09.HeapActs'. -/
def heapActsUptoCard : Claim7 := { stood := { row := heapActsUptoRow, standIns := [], harness := (true, "945f74f2e78db464225c8a6dd12db5f7b9c88ec3cadf5941a6772bcbc755d2a9"), looks := false }, kinds := [], alts := [], laidByText := true, laidKinds := [.data, .data], laidTests := true, laidLooks := .later }
def HeapActsUptoCardSaid : Prop := Claim7.holds Tryd.pinned (.plain (OpenSpec.upto heapActsSpec)) heapActsUptoCard

/-- THE SECOND FORM's CARD OF 'messuagelaw09.HeapMarks'. -/
def heapMarksUptoCard : Claim7 := { stood := { row := heapMarksUptoRow, standIns := [], harness := (true, "945f74f2e78db464225c8a6dd12db5f7b9c88ec3cadf5941a6772bcbc755d2a9"), looks := false }, kinds := [], alts := [], laidByText := true, laidKinds := [.data, .data], laidTests := true, laidLooks := .later }
def HeapMarksUptoCardSaid : Prop := Claim7.holds Tryd.pinned (.plain (OpenSpec.upto heapMarksSpec)) heapMarksUptoCard

/-- THE SECOND FORM's CARD OF 'messuagelaw09.HeapRuns'. -/
def heapRunsUptoCard : Claim7 := { stood := { row := heapRunsUptoRow, standIns := [], harness := (true, "945f74f2e78db464225c8a6dd12db5f7b9c88ec3cadf5941a6772bcbc755d2a9"), looks := false }, kinds := [], alts := [], laidByText := true, laidKinds := [.data, .data], laidTests := true, laidLooks := .later }
def HeapRunsUptoCardSaid : Prop := Claim7.holds Tryd.pinned (.plain (OpenSpec.upto heapRunsSpec)) heapRunsUptoCard

/-- THE SECOND FORM's CARD OF 'messuagetop.MessuageRuns'. -/
def messuageRunsUptoCard : Claim7 := { stood := { row := messuageRunsUptoRow, standIns := [], harness := (true, "945f74f2e78db464225c8a6dd12db5f7b9c88ec3cadf5941a6772bcbc755d2a9"), looks := false }, kinds := [], alts := [], laidByText := true, laidKinds := [.data, .data], laidTests := true, laidLooks := .later }
def MessuageRunsUptoCardSaid : Prop := Claim7.holds Tryd.pinned (.plain (OpenSpec.upto messuageRunsSpec)) messuageRunsUptoCard
end Rows
end Go.Proofs.YtkhcopnklfmgcaaDoor
