
/-
  No statement of the program: the document's least class, and the laws' own small check.
-/
import Derived.Test.YtlmmnkkbgieihaaDoorCls
namespace Go.Proofs.YtlmmnkkbgieihaaDoor.Cl
open Go.ChangeShapes Go.WideShapes Go.ChangeAt Go.RowKit

set_option maxHeartbeats 1000000 in
theorem rclass_ok (n : Int) (hn : 1 ≤ n ∧ n ≤ 64) (w : World) : Calls Tryd.prog 9 #[.int .i64 n] w fun e w' => e = .returned (.int .i64 (ofC n)) ∧ w' = w := by
  obtain ⟨h1, h2⟩ := hn
  have H1 := hide h1
  have H2 := hide h2
  go_enter Tryd.func9, Tryd.ntmps9
  go_wp2
  go_loopw [3, 4] (fun c v wr => ∃ k : Nat, k ≤ 3 ∧ c = .int .i64 k ∧ v = .int .i64 ((8 * 2 ^ k : Nat) : Int) ∧ (k = 1 → 8 < n) ∧ (k = 2 → 16 < n) ∧ (k = 3 → 32 < n) ∧ wr = w) (fun c _ _ => 4 - (intOf c).toNat)
  case atStart => exact ⟨0, by omega, rfl, rfl, by omega, by omega, by omega, by first | rfl | trivial⟩
  case round =>
    obtain ⟨k, hk, rfl, rfl, g1, g2, g3, rfl⟩ := hrel
    have hk5 : k = 0 ∨ k = 1 ∨ k = 2 ∨ k = 3 := by omega
    rcases hk5 with rfl | rfl | rfl | rfl
    · by_cases hn : n ≤ 8
      · have e1 : ofC n = 0 := by unfold ofC; rw [if_pos hn]
        have E1 := hide e1
        clear g1 g2 g3 e1
        go_wp2
        go_ret
        exact ⟨by first | (rw [E1.out]; rfl) | rw [E1.out], rfl⟩
      · have HN := hide hn
        have hn' : (8 : Int) < n := by omega
        clear g1 g2 g3 hn
        go_wp2
        go_roundw
        case rel => have := HN.out; exact ⟨1, by decide, rfl, rfl, by omega, by omega, by omega, by first | rfl | trivial⟩
        case measure => simp [intOf]
    · by_cases hn : n ≤ 16
      · have e1 : ofC n = 1 := by unfold ofC; rw [if_neg (by omega), if_pos hn]
        have E1 := hide e1
        clear g1 g2 g3 e1
        go_wp2
        go_ret
        exact ⟨by first | (rw [E1.out]; rfl) | rw [E1.out], rfl⟩
      · have HN := hide hn
        have hn' : (16 : Int) < n := by omega
        clear g1 g2 g3 hn
        go_wp2
        go_roundw
        case rel => have := HN.out; exact ⟨2, by decide, rfl, rfl, by omega, by omega, by omega, by first | rfl | trivial⟩
        case measure => simp [intOf]
    · by_cases hn : n ≤ 32
      · have e1 : ofC n = 2 := by unfold ofC; rw [if_neg (by omega), if_neg (by omega), if_pos hn]
        have E1 := hide e1
        clear g1 g2 g3 e1
        go_wp2
        go_ret
        exact ⟨by first | (rw [E1.out]; rfl) | rw [E1.out], rfl⟩
      · have HN := hide hn
        have hn' : (32 : Int) < n := by omega
        clear g1 g2 g3 hn
        go_wp2
        go_roundw
        case rel => have := HN.out; exact ⟨3, by decide, rfl, rfl, by omega, by omega, by omega, by first | rfl | trivial⟩
        case measure => simp [intOf]
    · have e1 : ofC n = 3 := by unfold ofC; rw [if_neg (by omega), if_neg (by omega), if_neg (by omega), if_pos h2]
      have E1 := hide e1
      have hn : n ≤ 64 := h2
      clear g1 g2 g3 e1
      go_wp2
      go_ret
      exact ⟨by first | (rw [E1.out]; rfl) | rw [E1.out], rfl⟩

set_option maxHeartbeats 1000000 in
theorem classes_true {w : World} (hT : Tab w) : Calls Tryd.prog 8 #[] w fun e w' => e = .returned (.bool true) ∧ Kept [] w w' := by
  go_enter Tryd.func8, Tryd.ntmps8
  go_wp2_with fail
  refine (of_any 17 hT).mono ?_
  rintro e w1 ⟨rfl, hk⟩
  have e1 : ofC 17 = 2 := by decide
  have e2 : ofE 17 = 0 := by decide
  rw [e1, e2]
  have K := hide hk
  clear hk e1 e2 hT
  go_wp2_with fail
  refine (pages_any 65 w1).mono ?_
  rintro e w2 ⟨rfl, hw⟩
  subst w2
  have e1 : pg 65 = 2 := by decide
  have e2 : pgE 65 = 0 := by decide
  rw [e1, e2]
  clear e1 e2
  go_wp2
  go_ret
  exact ⟨rfl, K.out⟩
end Go.Proofs.YtlmmnkkbgieihaaDoor.Cl
