/-
  No statement of the program: the calls of package grid on no table, at one type of things (numbers), over this seat's translation.
-/
import Derived.Test.YtjcghcibligioabSameI
namespace Go.Proofs.Ytjcghcibligioab.GI
open Go.RowKit

set_option maxHeartbeats 400000 in
theorem has_nil (r c : Int) (w : World) :
    Calls Try.prog 28 #[.pointer none, .int .i64 r, .int .i64 c] w fun e w' => e = .returned (.bool false) ∧ w' = w := by
  rcases (show r < 0 ∨ 0 ≤ r from by omega) with h | h
  all_goals
    go_enter Try.func28, Try.ntmps28
    go_wp2_with (go_at_call 11; refine (rows_nil _).mono ?_; rintro e w' ⟨rfl, rfl⟩)
    go_ret
    exact ⟨rfl, rfl⟩
set_option maxHeartbeats 400000 in
theorem put_nil (r c : Int) (x : Int) {w : World} :
    Calls Try.prog 10 #[.pointer none, .int .i64 r, .int .i64 c, .int .i64 x] w fun e w' => e = .returned (.int .i64 1) ∧ w' = w := by
  go_enter Try.func10, Try.ntmps10
  go_wp2_with (go_at_call 28; refine (has_nil r c _).mono ?_; rintro e w' ⟨rfl, rfl⟩)
  go_ret
  exact ⟨rfl, rfl⟩
set_option maxHeartbeats 400000 in
theorem at_nil (r c : Int) {w : World} :
    Calls Try.prog 8 #[.pointer none, .int .i64 r, .int .i64 c] w fun e w' => e = .returned (.tuple #[.int .i64 0, .int .i64 1]) ∧ w' = w := by
  go_enter Try.func8, Try.ntmps8
  go_wp2_with (go_at_call 28; refine (has_nil r c _).mono ?_; rintro e w' ⟨rfl, rfl⟩)
  go_ret2
  exact ⟨rfl, rfl⟩
set_option maxHeartbeats 400000 in
theorem row_nil (r : Int) {w : World} :
    Calls Try.prog 13 #[.pointer none, .int .i64 r] w fun e w' => e = .returned (.slice none 0 0) ∧ w' = w := by
  rcases (show r < 0 ∨ 0 ≤ r from by omega) with h | h
  all_goals
    go_enter Try.func13, Try.ntmps13
    go_wp2_with (go_at_call 11; refine (rows_nil _).mono ?_; rintro e w' ⟨rfl, rfl⟩)
    go_ret
    exact ⟨rfl, rfl⟩
set_option maxHeartbeats 400000 in
theorem turned_nil {w : World} :
    Calls Try.prog 14 #[.pointer none] w fun e w' => e = .returned (.pointer none) ∧ w' = w := by
  go_enter Try.func14, Try.ntmps14
  go_wp2
  go_ret
  exact ⟨rfl, rfl⟩
set_option maxHeartbeats 400000 in
theorem same_nil_nil {w : World} :
    Calls Try.prog 15 #[.pointer none, .pointer none] w fun e w' => e = .returned (.bool true) ∧ Kept [] w w' := by
  go_enter_defers Try.func15, Try.ntmps15
  go_wp2
  simp [bodyPostD, Leaves, results, Try.results15, go_sem]
  exact (Kept.refl _ _).alloc _
set_option maxHeartbeats 400000 in
theorem same_nil (x : Addr) {w : World} :
    Calls Try.prog 15 #[.pointer (some x), .pointer none] w fun e w' => e = .returned (.bool false) ∧ Kept [] w w' := by
  go_enter_defers Try.func15, Try.ntmps15
  go_wp2
  simp [bodyPostD, Leaves, results, Try.results15, go_sem]
  exact (Kept.refl _ _).alloc _
end Go.Proofs.Ytjcghcibligioab.GI
