
/-
  No statement of the program: the contracts of the document's own sets (messuageref01: Has, List, Next), and of the statements' helper 'same', over this seat's translation.
-/
import Derived.Test.YtnokpecdkibddabNode2
namespace Go.Proofs.Ytnokpecdkibddab.NR
open Go.RowKit ND

set_option maxHeartbeats 400000 in
theorem has_any (s : Nat) (n : Int) (hs : s < 256) (w : World) : Calls Try.prog 22 #[.int .u8 s, .int .i64 n] w fun e w' => e = .returned (.bool (hasB s n)) ∧ w' = w := by
  rcases (show n < 0 ∨ (0 ≤ n ∧ 8 ≤ n) ∨ (0 ≤ n ∧ n < 8) from by omega) with h | ⟨h, h2⟩ | ⟨h, h2⟩
  · have hb := hasB_out s (n := n) (by omega)
    go_enter Try.func22, Try.ntmps22
    go_wp2
    go_ret
    exact ⟨rfl, rfl⟩
  · have hb := hasB_out s (n := n) (by omega)
    go_enter Try.func22, Try.ntmps22
    go_wp2
    go_ret
    exact ⟨rfl, rfl⟩
  · obtain ⟨i, rfl⟩ := Int.eq_ofNat_of_zero_le h
    have hi : i < 8 := by omega
    clear h h2
    go_enter Try.func22, Try.ntmps22
    go_wp2
    go_ret
    exact ⟨ret_bool ((bit_form s i hs).trans (hasB_in s i hi).symm), rfl⟩

end Go.Proofs.Ytnokpecdkibddab.NR
