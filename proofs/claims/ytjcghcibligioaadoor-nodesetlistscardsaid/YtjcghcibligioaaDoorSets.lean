/-
  No statement of the program: the statements' own helper 'sets' answers true, over this seat's translation.
-/
import Derived.Test.YtjcghcibligioaaDoorText
namespace Go.Proofs.YtjcghcibligioaaDoor.ND
open Go.RowKit

theorem ex_or : orTo (fun i => [0, 2, 3, 4].getD i 0) 4 = 29 := by decide
theorem ex_next : nextOf (nodes 29) 4 = (0, true) := by decide
theorem ex_text : textOf 29 = [48, 44, 50, 45, 52] := by decide
theorem ex_count : Lib.onesCount 29 = 4 := by decide

theorem ex_ints (w : World) : IsInts .i64 (w.alloc (.cells #[.int .i64 0, .int .i64 2, .int .i64 3, .int .i64 4] 3)) (some ⟨w.heap.size, 0, none⟩) 4 (fun i => [0, 2, 3, 4].getD i 0) := by
  intro i hi
  refine ⟨w.heap.size, 0, rfl, ?_, ?_⟩
  · match i, hi with
    | 0, _ => simp
    | 1, _ => simp
    | 2, _ => simp
    | 3, _ => simp
  · match i, hi with
    | 0, _ => rfl
    | 1, _ => rfl
    | 2, _ => rfl
    | 3, _ => rfl

set_option maxHeartbeats 1000000 in
theorem sets_true (w : World) : Calls Tryd.prog 15 #[] w fun e w' => e = .returned (.bool true) ∧ Kept [] w w' := by
  go_enter Tryd.func15, Tryd.ntmps15
  go_wp2_with fail
  refine (of_ok (by decide) (ex_ints w) (by intro i hi; match i, hi with | 0, _ => decide | 1, _ => decide | 2, _ => decide | 3, _ => decide)).mono ?_
  rintro e w' ⟨rfl, hw⟩
  subst w'
  rw [ex_or]
  go_wp2_with fail
  refine (next_any 29 4 (by decide) _).mono ?_
  rintro e w1 ⟨rfl, k1⟩
  rw [ex_next]
  have K1 := hide (((Kept.refl [] w).alloc _).next k1)
  clear k1
  go_wp2_with fail
  refine (text_any 29 (by decide) _).mono ?_
  rintro e w2 ⟨rfl, k2⟩
  rw [ex_text]
  have K2 := hide (K1.out.next k2)
  clear k2
  go_wp2_with fail
  refine (count_any 29 (by decide) _).mono ?_
  rintro e w' ⟨rfl, hw⟩
  subst w'
  rw [ex_count]
  go_wp2
  go_ret
  exact ⟨rfl, K2.out⟩
end Go.Proofs.YtjcghcibligioaaDoor.ND
