
/-
  No statement of the program: the calls of no buddy, and of wrong orders and counts, over this seat's translation.
-/
import Derived.Test.YtpljldjdemobbaaDoorBRef4
namespace Go.Proofs.YtpljldjdemobbaaDoor.By
open Go.ChangeShapes Go.WideShapes Go.ChangeAt Go.RowKit
section
theorem take_nil (x : Int) (w : World) : Calls Tryd.prog 18 #[.pointer none, .int .i64 x] w fun e w' => e = .returned (.tuple #[.int .i64 0, .int .i64 1]) ∧ w' = w := by
  go_enter Tryd.func18, Tryd.ntmps18
  go_wp2
  go_ret2
  exact ⟨rfl, rfl⟩
theorem give_nil (x y : Int) (w : World) : Calls Tryd.prog 20 #[.pointer none, .int .i64 x, .int .i64 y] w fun e w' => e = .returned (.int .i64 1) ∧ w' = w := by
  go_enter Tryd.func20, Tryd.ntmps20
  go_wp2
  go_ret
  exact ⟨rfl, rfl⟩
theorem free_nil (w : World) : Calls Tryd.prog 16 #[.pointer none] w fun e w' => e = .returned (.int .i64 0) ∧ w' = w := by
  go_enter Tryd.func16, Tryd.ntmps16
  go_wp2
  go_ret
  exact ⟨rfl, rfl⟩
theorem runs_nil (x : Int) (w : World) : Calls Tryd.prog 24 #[.pointer none, .int .i64 x] w fun e w' => e = .returned (.slice none 0 0) ∧ w' = w := by
  go_enter Tryd.func24, Tryd.ntmps24
  go_wp2
  go_ret
  exact ⟨rfl, rfl⟩
theorem take_bad {p : Nat} {x : Int} (hx : ¬ (0 ≤ x ∧ x ≤ 10)) (w : World) : Calls Tryd.prog 18 #[.pointer (some ⟨p, 0, none⟩), .int .i64 x] w fun e w' => e = .returned (.tuple #[.int .i64 0, .int .i64 1]) ∧ w' = w := by
  have HB := hide hx
  clear hx
  go_enter Tryd.func18, Tryd.ntmps18
  go_wp2_with (go_at_call 29; refine (isOrder_no HB.out _).mono ?_; rintro e w' ⟨rfl, hw⟩; subst w')
  go_ret2
  exact ⟨rfl, rfl⟩
theorem give_ord {p : Nat} {x y : Int} (hx : ¬ (0 ≤ x ∧ x ≤ 10)) (w : World) : Calls Tryd.prog 20 #[.pointer (some ⟨p, 0, none⟩), .int .i64 y, .int .i64 x] w fun e w' => e = .returned (.int .i64 1) ∧ w' = w := by
  have HB := hide hx
  clear hx
  go_enter Tryd.func20, Tryd.ntmps20
  go_wp2_with (go_at_call 29; refine (isOrder_no HB.out _).mono ?_; rintro e w' ⟨rfl, hw⟩; subst w')
  go_ret
  exact ⟨rfl, rfl⟩
/-- n & (n - 1) is 0 for the numbers 1, 2, 4 and so on alone. -/
theorem and_all : ∀ n : Nat, n < 1025 → 1 ≤ n → (bits .and .i64 (n : Int) ((n : Int) - 1) == 0) = twoB n := by decide +kernel
theorem twoB_iff {n : Nat} : twoB n = true ↔ ∃ k, k ≤ 10 ∧ n = 2 ^ k := by
  unfold twoB
  rw [List.any_eq_true]
  constructor
  · rintro ⟨k, h1, h2⟩
    exact ⟨k, by have := List.mem_range.1 h1; omega, by simpa using h2⟩
  · rintro ⟨k, h1, h2⟩
    exact ⟨k, List.mem_range.2 (by omega), by simpa using h2⟩
theorem new_bad {x : Int} (hx : x < 1 ∨ 1024 < x) (w : World) : Calls Tryd.prog 19 #[.int .i64 x] w fun e w' => e = .returned (.tuple #[.pointer none, .int .i64 3]) ∧ w' = w := by
  rcases hx with hx | hx
  · go_enter Tryd.func19, Tryd.ntmps19
    go_wp2
    go_ret2
    exact ⟨rfl, rfl⟩
  · have h2 : ¬ x < 1 := by omega
    go_enter Tryd.func19, Tryd.ntmps19
    go_wp2
    go_ret2
    exact ⟨rfl, rfl⟩
theorem new_odd (n : Nat) (h1 : 1 ≤ n) (h2 : n ≤ 1024) (h3 : twoB n = false) (w : World) : Calls Tryd.prog 19 #[.int .i64 n] w fun e w' => e = .returned (.tuple #[.pointer none, .int .i64 3]) ∧ w' = w := by
  have hp := popF_all n (by omega)
  rw [h3] at hp
  have hne : ¬ popF (n : Int) = 1 := by simpa using hp
  have HO := hide (ones_any n w)
  clear hp h3
  generalize popF (n : Int) = pf at hne HO
  have hb : (pf != 1) = true := by simpa using hne
  go_enter Tryd.func19, Tryd.ntmps19
  go_wp2_with (go_at_call 33; refine HO.out.mono ?_; rintro e w' ⟨rfl, hw⟩; subst w')
  go_ret2
  exact ⟨rfl, rfl⟩
end
end Go.Proofs.YtpljldjdemobbaaDoor.By
