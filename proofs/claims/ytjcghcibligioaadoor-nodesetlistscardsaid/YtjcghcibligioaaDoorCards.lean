/-
  DERIVED. GIVEN WITH THE SEED: THE CARDS: each row of YtjcghcibligioaaDoorRows.lean that lists a variable, with what it lists TIED to the program's text (the seventh form; the later family's looks); each row that meets fmt, with fmt's text TOLD by the authors' own Lean function (tested against real Go, not proved from fmt's source: count such statements apart). THE CARD IS WHAT COUNTS. Prove the row's statement (the work); the ties are given (YtjcghcibligioaaDoorTie.lean); close each card by the builder's one call (the guide's Derived/Test/ToyasCard.lean, 'card_holds'). Laid BY PROGRAM, IN A SANDBOX (cutbox-door.mjs). By AI agents, Wed Nov 11 2026. No macro, syntax, notation, axiom, sorry.
-/
import Derived.Test.YtjcghcibligioaaDoorRows
import GoSem.ClaimSeven
namespace Go.Proofs.YtjcghcibligioaaDoor
namespace Rows

/-- THE TIED CARD OF 'messuagelaw01.NodesetLists'. -/
def nodesetListsCard : Claim7 := { stood := { row := nodesetListsRow, standIns := [], harness := (true, "ddfb078c22cc64a3efb4144729f75c37f3c9ae4e7a1e09d53eb8fa0ba47f1cfa"), looks := false }, kinds := [], alts := [], laidByText := true, laidKinds := [.data, .data, .data], laidTests := true, laidLooks := .later }
def NodesetListsCardSaid : Prop := Claim7.holds Tryd.pinned (.plain (OpenSpec.ofChange nodesetListsSpec)) nodesetListsCard

/-- THE TIED CARD OF 'messuagelaw01.NodesetOf'. -/
def nodesetOfCard : Claim7 := { stood := { row := nodesetOfRow, standIns := [], harness := (true, "ddfb078c22cc64a3efb4144729f75c37f3c9ae4e7a1e09d53eb8fa0ba47f1cfa"), looks := false }, kinds := [], alts := [], laidByText := true, laidKinds := [.data, .data, .data], laidTests := true, laidLooks := .later }
def NodesetOfCardSaid : Prop := Claim7.holds Tryd.pinned (.plain (OpenSpec.ofChange nodesetOfSpec)) nodesetOfCard

/-- THE TIED CARD OF 'messuagelaw01.NodesetParses'. -/
def nodesetParsesCard : Claim7 := { stood := { row := nodesetParsesRow, standIns := [], harness := (true, "ddfb078c22cc64a3efb4144729f75c37f3c9ae4e7a1e09d53eb8fa0ba47f1cfa"), looks := false }, kinds := [], alts := [], laidByText := true, laidKinds := [.data, .data, .data], laidTests := true, laidLooks := .later }
def NodesetParsesCardSaid : Prop := Claim7.holds Tryd.pinned (.plain (OpenSpec.ofChange nodesetParsesSpec)) nodesetParsesCard

/-- THE TIED CARD OF 'messuagelaw01.NodesetJoins'. -/
def nodesetJoinsCard : Claim7 := { stood := { row := nodesetJoinsRow, standIns := [], harness := (true, "ddfb078c22cc64a3efb4144729f75c37f3c9ae4e7a1e09d53eb8fa0ba47f1cfa"), looks := false }, kinds := [], alts := [], laidByText := true, laidKinds := [.data, .data, .data], laidTests := true, laidLooks := .later }
def NodesetJoinsCardSaid : Prop := Claim7.holds Tryd.pinned (.plain (OpenSpec.ofChange nodesetJoinsSpec)) nodesetJoinsCard

/-- THE TIED CARD OF 'messuagelaw01.NodesetMore'. -/
def nodesetMoreCard : Claim7 := { stood := { row := nodesetMoreRow, standIns := [], harness := (true, "ddfb078c22cc64a3efb4144729f75c37f3c9ae4e7a1e09d53eb8fa0ba47f1cfa"), looks := false }, kinds := [], alts := [], laidByText := true, laidKinds := [.data, .data, .data], laidTests := true, laidLooks := .later }
def NodesetMoreCardSaid : Prop := Claim7.holds Tryd.pinned (.plain (OpenSpec.ofChange nodesetMoreSpec)) nodesetMoreCard

/-- THE TIED CARD OF 'messuagelaw01.NodesetCuts'. -/
def nodesetCutsCard : Claim7 := { stood := { row := nodesetCutsRow, standIns := [], harness := (true, "ddfb078c22cc64a3efb4144729f75c37f3c9ae4e7a1e09d53eb8fa0ba47f1cfa"), looks := false }, kinds := [], alts := [], laidByText := true, laidKinds := [.data, .data, .data], laidTests := true, laidLooks := .later }
def NodesetCutsCardSaid : Prop := Claim7.holds Tryd.pinned (.plain (OpenSpec.ofChange nodesetCutsSpec)) nodesetCutsCard

/-- THE SECOND FORM's CARD OF 'messuagelaw01.NodesetLists'. -/
def nodesetListsUptoCard : Claim7 := { stood := { row := nodesetListsUptoRow, standIns := [], harness := (true, "ddfb078c22cc64a3efb4144729f75c37f3c9ae4e7a1e09d53eb8fa0ba47f1cfa"), looks := false }, kinds := [], alts := [], laidByText := true, laidKinds := [.data, .data, .data], laidTests := true, laidLooks := .later }
def NodesetListsUptoCardSaid : Prop := Claim7.holds Tryd.pinned (.plain (OpenSpec.upto nodesetListsSpec)) nodesetListsUptoCard

/-- THE SECOND FORM's CARD OF 'messuagelaw01.NodesetOf'. -/
def nodesetOfUptoCard : Claim7 := { stood := { row := nodesetOfUptoRow, standIns := [], harness := (true, "ddfb078c22cc64a3efb4144729f75c37f3c9ae4e7a1e09d53eb8fa0ba47f1cfa"), looks := false }, kinds := [], alts := [], laidByText := true, laidKinds := [.data, .data, .data], laidTests := true, laidLooks := .later }
def NodesetOfUptoCardSaid : Prop := Claim7.holds Tryd.pinned (.plain (OpenSpec.upto nodesetOfSpec)) nodesetOfUptoCard

/-- THE SECOND FORM's CARD OF 'messuagelaw01.NodesetParses'. -/
def nodesetParsesUptoCard : Claim7 := { stood := { row := nodesetParsesUptoRow, standIns := [], harness := (true, "ddfb078c22cc64a3efb4144729f75c37f3c9ae4e7a1e09d53eb8fa0ba47f1cfa"), looks := false }, kinds := [], alts := [], laidByText := true, laidKinds := [.data, .data, .data], laidTests := true, laidLooks := .later }
def NodesetParsesUptoCardSaid : Prop := Claim7.holds Tryd.pinned (.plain (OpenSpec.upto nodesetParsesSpec)) nodesetParsesUptoCard

/-- THE SECOND FORM's CARD OF 'messuagelaw01.NodesetJoins'. -/
def nodesetJoinsUptoCard : Claim7 := { stood := { row := nodesetJoinsUptoRow, standIns := [], harness := (true, "ddfb078c22cc64a3efb4144729f75c37f3c9ae4e7a1e09d53eb8fa0ba47f1cfa"), looks := false }, kinds := [], alts := [], laidByText := true, laidKinds := [.data, .data, .data], laidTests := true, laidLooks := .later }
def NodesetJoinsUptoCardSaid : Prop := Claim7.holds Tryd.pinned (.plain (OpenSpec.upto nodesetJoinsSpec)) nodesetJoinsUptoCard

/-- THE SECOND FORM's CARD OF 'messuagelaw01.NodesetMore'. -/
def nodesetMoreUptoCard : Claim7 := { stood := { row := nodesetMoreUptoRow, standIns := [], harness := (true, "ddfb078c22cc64a3efb4144729f75c37f3c9ae4e7a1e09d53eb8fa0ba47f1cfa"), looks := false }, kinds := [], alts := [], laidByText := true, laidKinds := [.data, .data, .data], laidTests := true, laidLooks := .later }
def NodesetMoreUptoCardSaid : Prop := Claim7.holds Tryd.pinned (.plain (OpenSpec.upto nodesetMoreSpec)) nodesetMoreUptoCard

/-- THE SECOND FORM's CARD OF 'messuagelaw01.NodesetCuts'. -/
def nodesetCutsUptoCard : Claim7 := { stood := { row := nodesetCutsUptoRow, standIns := [], harness := (true, "ddfb078c22cc64a3efb4144729f75c37f3c9ae4e7a1e09d53eb8fa0ba47f1cfa"), looks := false }, kinds := [], alts := [], laidByText := true, laidKinds := [.data, .data, .data], laidTests := true, laidLooks := .later }
def NodesetCutsUptoCardSaid : Prop := Claim7.holds Tryd.pinned (.plain (OpenSpec.upto nodesetCutsSpec)) nodesetCutsUptoCard
end Rows
end Go.Proofs.YtjcghcibligioaaDoor
