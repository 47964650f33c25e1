/-
  DERIVED. GIVEN WITH THE SEED: THE CARDS: each row of YtdgmfcnblaamcabDoorRows.lean that lists a variable, with what it lists TIED to the program's text (the seventh form; the later family's looks); each row that meets fmt, with fmt's text TOLD by the authors' own Lean function (tested against real Go, not proved from fmt's source: count such statements apart). THE CARD IS WHAT COUNTS. Prove the row's statement (the work); the ties are given (YtdgmfcnblaamcabDoorTie.lean); close each card by the builder's one call (the guide's Derived/Test/ToyasCard.lean, 'card_holds'). Laid BY PROGRAM, IN A SANDBOX (cutbox-door.mjs). By AI agents, Wed Nov 11 2026. No macro, syntax, notation, axiom, sorry.
-/
import Derived.Test.YtdgmfcnblaamcabDoorRows
import GoSem.ClaimSeven
namespace Go.Proofs.YtdgmfcnblaamcabDoor
namespace Rows

/-- THE TIED CARD OF 'messuagelaw09.HeapActs'. -/
def heapActsCard : Claim7 := { stood := { row := heapActsRow, standIns := [], harness := (true, "ddf4090fbc8a72f4577721b68b288de033b0683a9697a12665fc07c3acf5c319"), looks := false }, kinds := [], alts := [], laidByText := true, laidKinds := [.data, .data], laidTests := true, laidLooks := .later }
def HeapActsCardSaid : Prop := Claim7.holds Tryd.pinned (.plain (OpenSpec.ofChange heapActsSpec)) heapActsCard

/-- THE TIED CARD OF 'messuagetop.MessuageKeeps'. -/
def messuageKeepsCard : Claim7 := { stood := { row := messuageKeepsRow, standIns := [], harness := (true, "ddf4090fbc8a72f4577721b68b288de033b0683a9697a12665fc07c3acf5c319"), looks := false }, kinds := [], alts := [], laidByText := true, laidKinds := [.data], laidTests := true, laidLooks := .later }
def MessuageKeepsCardSaid : Prop := Claim7.holds Tryd.pinned (.plain (OpenSpec.ofChange messuageKeepsSpec)) messuageKeepsCard

/-- THE SECOND FORM's CARD OF 'messuagelaw09.HeapActs'. -/
def heapActsUptoCard : Claim7 := { stood := { row := heapActsUptoRow, standIns := [], harness := (true, "ddf4090fbc8a72f4577721b68b288de033b0683a9697a12665fc07c3acf5c319"), looks := false }, kinds := [], alts := [], laidByText := true, laidKinds := [.data, .data], laidTests := true, laidLooks := .later }
def HeapActsUptoCardSaid : Prop := Claim7.holds Tryd.pinned (.plain (OpenSpec.upto heapActsSpec)) heapActsUptoCard

/-- THE SECOND FORM's CARD OF 'messuagetop.MessuageKeeps'. -/
def messuageKeepsUptoCard : Claim7 := { stood := { row := messuageKeepsUptoRow, standIns := [], harness := (true, "ddf4090fbc8a72f4577721b68b288de033b0683a9697a12665fc07c3acf5c319"), looks := false }, kinds := [], alts := [], laidByText := true, laidKinds := [.data], laidTests := true, laidLooks := .later }
def MessuageKeepsUptoCardSaid : Prop := Claim7.holds Tryd.pinned (.plain (OpenSpec.upto messuageKeepsSpec)) messuageKeepsUptoCard
end Rows
end Go.Proofs.YtdgmfcnblaamcabDoor
