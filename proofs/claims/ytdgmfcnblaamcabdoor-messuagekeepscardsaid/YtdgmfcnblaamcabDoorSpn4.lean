
/-
  No statement of the program: the laws' own small check, and the document's span, over this seat's translation.
-/
import Derived.Test.YtdgmfcnblaamcabDoorSpn3
namespace Go.Proofs.YtdgmfcnblaamcabDoor.Sp
open Go.ChangeShapes Go.WideShapes Go.ChangeAt Go.RowKit Cl
section
variable {w : World} {p tb : Nat} {c sz : Int} {n : Nat} {u : Nat → Bool}
theorem take_at (h : SA w p tb c sz n u) (hn : 0 < n ∧ n ≤ 8) (i : Nat) (hi : i < n) (hu : u i = false) (hall : ∀ j, j < i → u j = true) : Calls Tryd.prog 28 #[.pointer (some ⟨p, 0, none⟩)] w fun e w' =>
    e = .returned (.tuple #[.int .i64 i, .int .i64 0]) ∧ SA w' p tb c sz n (up u i true) ∧ Kept [tb] w w' := by
  refine (take_any h hn).mono ?_
  rintro e w' (⟨-, h1, -⟩ | ⟨k, rfl, hk, hk2, hk3, hs, hkk⟩)
  · have := h1 i hi
    rw [hu] at this; cases this
  · have : k = i := by
      by_cases e1 : k < i
      · have := hall k e1
        rw [hk2] at this; cases this
      · by_cases e2 : i < k
        · have := hk3 i e2
          rw [hu] at this; cases this
        · omega
    subst this
    exact ⟨rfl, hs, hkk⟩
theorem take_full (h : SA w p tb c sz n u) (hn : 0 < n ∧ n ≤ 8) (hall : ∀ j, j < n → u j = true) : Calls Tryd.prog 28 #[.pointer (some ⟨p, 0, none⟩)] w fun e w' =>
    e = .returned (.tuple #[.int .i64 0, .int .i64 14]) ∧ w' = w := by
  refine (take_any h hn).mono ?_
  rintro e w' (⟨rfl, -, rfl⟩ | ⟨k, -, hk, hk2, -⟩)
  · exact ⟨rfl, rfl⟩
  · have := hall k hk
    rw [hk2] at this; cases this
theorem give_at (h : SA w p tb c sz n u) (hn : 0 < n ∧ n ≤ 8) (i : Nat) (hi : i < n) (hu : u i = true) : Calls Tryd.prog 33 #[.pointer (some ⟨p, 0, none⟩), .int .i64 i] w fun e w' =>
    e = .returned (.int .i64 0) ∧ SA w' p tb c sz n (up u i false) ∧ Kept [tb] w w' := by
  have hh : hasB n u i = true := by unfold hasB; rw [decide_eq_true (by omega)]; simpa using hu
  refine (give_any h hn i).mono ?_
  rintro e w' (⟨-, h1, -⟩ | ⟨rfl, -, hs, hk⟩)
  · rw [hh] at h1; cases h1
  · exact ⟨rfl, hs, hk⟩
theorem give_no (h : SA w p tb c sz n u) (hn : 0 < n ∧ n ≤ 8) (i : Nat) (hu : u i = false) : Calls Tryd.prog 33 #[.pointer (some ⟨p, 0, none⟩), .int .i64 i] w fun e w' =>
    e = .returned (.int .i64 6) ∧ w' = w := by
  have hh : hasB n u i = false := by unfold hasB; simp [hu]
  refine (give_any h hn i).mono ?_
  rintro e w' (⟨rfl, -, hw⟩ | ⟨-, h1, -⟩)
  · exact ⟨rfl, hw⟩
  · rw [hh] at h1; cases h1
theorem cz1 : CZ 1 4 16 := ⟨by decide, by decide, by decide, by decide, by decide⟩
end
section
variable {w : World} {r rb : Nat} {c : Int} {n : Nat} {u : Nat → Bool}
end
end Go.Proofs.YtdgmfcnblaamcabDoor.Sp
