/-
  No statement of the program: numbers in two slices, held against each other, over this seat's translation.
-/
import Derived.Test.YtkhcopnklfmgcaaDoorNils
namespace Go.Proofs.YtkhcopnklfmgcaaDoor.By
open Go.ChangeShapes Go.WideShapes Go.ChangeAt Go.RowKit
/-- Numbers of a list lie one behind the other. -/
def IsN (w : World) (ao : Option Addr) (l : List Nat) : Prop := ∀ i, i < l.length → ∃ b, ao = some ⟨b, 0, none⟩ ∧ w.cell? ⟨b, i, none⟩ = some (.int .i64 ((l.getD i 0 : Nat) : Int))
theorem IsN.kept {w w' : World} {ao : Option Addr} {l : List Nat} (h : IsN w ao l) (k : Kept [] w w') : IsN w' ao l := fun i hi => by
  obtain ⟨b, h1, h2⟩ := h i hi
  exact ⟨b, h1, k.cell h2 (by simp)⟩
set_option maxHeartbeats 1000000 in
theorem same_ok {w : World} {a1 a2 : Option Addr} {c1 c2 : Nat} {l : List Nat} (h1 : IsN w a1 l) (h2 : IsN w a2 l) (hl : l.length ≤ 4096) :
    Calls Tryd.prog 25 #[.slice a1 l.length c1, .slice a2 l.length c2] w fun e w' => e = .returned (.bool true) ∧ Kept [] w w' := by
  have H1 := hide h1
  have H2 := hide h2
  clear h1 h2
  go_enter Tryd.func25, Tryd.ntmps25
  go_wp2_with fail
  go_loopw [5] (fun v wr => ∃ j : Nat, v = .int .i64 j ∧ j ≤ l.length ∧ Kept [] w wr) (fun v _ => l.length - (intOf v).toNat)
  case atStart => exact ⟨0, rfl, by omega, Kept.refl _ _⟩
  case round =>
    obtain ⟨j, rfl, hj, hK⟩ := hrel
    have K := hide hK
    clear hK
    by_cases hlt : j < l.length
    · obtain ⟨b1, rfl, d1⟩ := (H1.out.kept K.out) j hlt
      obtain ⟨b2, rfl, d2⟩ := (H2.out.kept K.out) j hlt
      generalize ((l.getD j 0 : Nat) : Int) = z at d1 d2
      have hj0 : (0 : Int) ≤ (j : Int) := by omega
      have hjn : (j : Int) < (l.length : Int) := by omega
      clear H1 H2
      go_wp2_with fail
      go_quiet (fail)
      go_wp2
      go_roundw
      case rel => exact ⟨j + 1, by go_num, by omega, K.out.drewN _⟩
      case measure => simp [intOf]; omega
    · have hjn : ¬ (j : Int) < (l.length : Int) := by omega
      go_wp2
      go_ret
      exact ⟨rfl, K.out⟩
end Go.Proofs.YtkhcopnklfmgcaaDoor.By
