
/-
  No statement of the program: the document's Take of a space, all of it, over this seat's translation.
-/
import Derived.Test.YtdgmfcnblaamcaaSpc18
import Derived.Test.YtdgmfcnblaamcaaSpc19
import Derived.Test.YtdgmfcnblaamcaaSpc20
namespace Go.Proofs.Ytdgmfcnblaamcaa.Sc
open Go.ChangeShapes Go.WideShapes Go.ChangeAt Go.RowKit
theorem rtake_any {w : World} {q base : Nat} {v : Value} {n : Nat} {F C : Nat → Nat} (h : RQ w q base v n F C) {need k : Nat} (hk : Fit n F C need k) (h1 : 1 ≤ need) (h2 : need ≤ 4095) :
    Calls Try.prog 14 #[.pointer (some ⟨q, 0, none⟩), .int .i64 need] w fun e w' => TakeIs w w' q n F C need k e := by
  by_cases hv : v = .slice none 0 0
  · subst hv
    have hn : n = 0 := by
      rcases h.own.2 with ⟨-, h9⟩ | ⟨g, cap', cur, h9, -⟩
      · exact h9
      · cases h9
    subst hn
    have := hk.1
    obtain rfl : k = 0 := by omega
    exact rtake_nil h h1 h2
  · by_cases hb : k < n
    · exact rtake_lt h hk h1 h2 hv hb
    · exact rtake_eq h hk h1 h2 hv hb
set_option maxHeartbeats 1000000 in
theorem rtake_bad {w : World} {q : Nat} {need : Int} (h : need < 1 ∨ 4095 < need) :
    Calls Try.prog 14 #[.pointer (some ⟨q, 0, none⟩), .int .i64 need] w fun e w' => e = .returned (.tuple #[.int .i64 0, .int .i64 1]) ∧ Kept [] w w' := by
  rcases h with h | h
  · go_enter Try.func14, Try.ntmps14
    go_wp2_with fail
    go_ret2
    exact ⟨rfl, Kept.refl _ _⟩
  · have h2 : ¬ need < 1 := by omega
    go_enter Try.func14, Try.ntmps14
    go_wp2_with fail
    go_ret2
    exact ⟨rfl, Kept.refl _ _⟩
end Go.Proofs.Ytdgmfcnblaamcaa.Sc
