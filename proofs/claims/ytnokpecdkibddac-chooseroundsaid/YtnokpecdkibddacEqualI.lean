
/-
  No statement of the program: the contract of slices.Equal at one type of things (numbers), over this seat's translation.
-/
import Derived.Test.YtnokpecdkibddacGridI
namespace Go.Proofs.Ytnokpecdkibddac.GI
open Go.RowKit

/-- What Equal tells. -/
def EqIs (b : Bool) (n1 n2 : Nat) (f1 f2 : Nat → Int) : Prop := b = true ↔ n1 = n2 ∧ ∀ i, i < n1 → f1 i = f2 i

set_option maxHeartbeats 400000 in
theorem equal_ok {c1 c2 n1 n2 p1 p2 cap1 cap2 : Nat} {f1 f2 : Nat → Int} {w : World} (h1 : w.rowIs c1 3 p1 (fun i => .int .i64 (f1 i))) (h2 : w.rowIs c2 3 p2 (fun i => .int .i64 (f2 i))) (hp1 : n1 ≤ p1) (hp2 : n2 ≤ p2) (hn : n1 ≤ 4096) (hn2 : n2 ≤ 4096) :
    Calls Try.prog 53 #[.slice (some ⟨c1, 0, none⟩) n1 cap1, .slice (some ⟨c2, 0, none⟩) n2 cap2] w fun e w' => ∃ b : Bool, e = .returned (.bool b) ∧ EqIs b n1 n2 f1 f2 ∧ ∃ q, w' = w.drewN q := by
  by_cases hne : n1 = n2
  · subst hne
    go_enter Try.func53, Try.ntmps53
    go_wp2
    go_loopw [13] (fun i wr => ∃ k q : Nat, k ≤ n1 ∧ i = .int .i64 k ∧ (∀ i, i < k → f1 i = f2 i) ∧ wr = w.drewN q) (fun i _ => n1 - (intOf i).toNat)
    case atStart => exact ⟨0, 0, by omega, rfl, fun i hi => absurd hi (Nat.not_lt_zero _), rfl⟩
    case round =>
      obtain ⟨k, q, hk, rfl, hall, rfl⟩ := hrel
      have HA := hide hall
      clear hall
      by_cases hkn : k < n1
      · have g1 := h1.cell (i := k) (by omega)
        have g2 := h2.cell (i := k) (by omega)
        by_cases hv : f1 k = f2 k
        · rw [← hv] at g2
          have HV := hide hv
          clear hv
          go_wp2
          go_region
          all_goals go_wp2
          all_goals go_roundw
          case rel => exact ⟨k + 1, q + 1, by omega, by go_num, fun i hi => if e : i = k then e ▸ HV.out else HA.out i (by omega), rfl⟩
          case measure => simp [intOf]; omega
        · have hv2 : ((f1 k) != (f2 k)) = true := by rw [bne_iff_ne]; exact hv
          have HV := hide hv
          clear hv
          go_wp2
          go_region
          all_goals go_wp2
          all_goals go_ret
          all_goals exact ⟨false, rfl, ⟨fun h => by simp at h, fun h => absurd (h.2 k hkn) HV.out⟩, _, rfl⟩
      · have e : k = n1 := by omega
        subst e
        go_wp2
        go_ret
        exact ⟨true, rfl, ⟨fun _ => ⟨rfl, HA.out⟩, fun _ => rfl⟩, q, rfl⟩
  · have hb : ((n1 : Int) != (n2 : Int)) = true := by rw [bne_iff_ne]; omega
    have HN := hide hne
    clear hne
    go_enter Try.func53, Try.ntmps53
    go_wp2
    go_ret
    exact ⟨false, rfl, ⟨fun h => by simp at h, fun h => absurd h.1 HN.out⟩, 0, rfl⟩
end Go.Proofs.Ytnokpecdkibddac.GI
