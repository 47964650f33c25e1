
/-
  No statement of the program: package buddy's least, isOrder, Len, Has, over this seat's translation.
-/
import Derived.Test.YtpljldjdemobbaaDoorBud
namespace Go.Proofs.YtpljldjdemobbaaDoor.By
open Go.RowKit
set_option maxHeartbeats 1000000 in
theorem least_ok {w : World} {p n tb : Nat} {tk : Nat → Nat} {L : Nat → List Nat} {V : Nat → Value} (o k : Nat) (h : Bud w p n tk L tb V) (hok : o ≤ k) (hk : k < 11) (hne : L k ≠ []) (hemp : ∀ j, o ≤ j → j < k → L j = []) {oi : Int} (eo : oi = o) :
    Calls Tryd.prog 30 #[.pointer (some ⟨p, 0, none⟩), .int .i64 oi] w fun e w' => e = .returned (.tuple #[.int .i64 k, .bool true]) ∧ w' = w := by
  subst eo
  have H := hide h
  have HE := hide hemp
  have HN := hide hne
  clear h hemp hne
  go_enter Tryd.func30, Tryd.ntmps30
  go_wp2
  go_loop [1] (fun v => ∃ j : Nat, o ≤ j ∧ j ≤ k ∧ v = .int .i64 j) (fun v => 11 - (intOf v).toNat)
  case atStart => exact ⟨o, Nat.le_refl _, hok, rfl⟩
  case round =>
    obtain ⟨j, h1, h2, rfl⟩ := hrel
    have hc := H.out.cell j (by omega)
    obtain ⟨ao, cap, hv, -⟩ := (H.out.list j (by omega)).slice
    rw [hv] at hc
    clear hv
    have hj : (j : Int) ≤ 10 := by omega
    by_cases hjk : j = k
    · have hlen : 0 < (L j).length := by rw [hjk]; exact List.length_pos_iff.2 HN.out
      generalize (L j).length = ln at hc hlen
      have HJ := hide hjk
      clear hjk
      go_wp2
      go_ret2
      exact ⟨by have := HJ.out; subst this; rfl, rfl⟩
    · have hlen : (L j).length = 0 := by rw [HE.out j h1 (by omega)]; rfl
      rw [hlen] at hc
      clear hlen
      go_wp2
      go_round
      case rel => exact ⟨j + 1, by omega, by omega, by go_num⟩
      case measure => simp [intOf]; omega

set_option maxHeartbeats 1000000 in
theorem least_no {w : World} {p n tb : Nat} {tk : Nat → Nat} {L : Nat → List Nat} {V : Nat → Value} (o : Nat) (h : Bud w p n tk L tb V) (ho : o ≤ 11) (hemp : ∀ j, o ≤ j → j < 11 → L j = []) {oi : Int} (eo : oi = o) :
    Calls Tryd.prog 30 #[.pointer (some ⟨p, 0, none⟩), .int .i64 oi] w fun e w' => e = .returned (.tuple #[.int .i64 0, .bool false]) ∧ w' = w := by
  subst eo
  have H := hide h
  have HE := hide hemp
  clear h hemp
  go_enter Tryd.func30, Tryd.ntmps30
  go_wp2
  go_loop [1] (fun v => ∃ j : Nat, o ≤ j ∧ j ≤ 11 ∧ v = .int .i64 j) (fun v => 11 - (intOf v).toNat)
  case atStart => exact ⟨o, Nat.le_refl _, ho, rfl⟩
  case round =>
    obtain ⟨j, h1, h2, rfl⟩ := hrel
    by_cases hj11 : j < 11
    · have hc := H.out.cell j (by omega)
      obtain ⟨ao, cap, hv, -⟩ := (H.out.list j (by omega)).slice
      rw [hv] at hc
      clear hv
      have hj : (j : Int) ≤ 10 := by omega
      have hlen : (L j).length = 0 := by rw [HE.out j h1 (by omega)]; rfl
      rw [hlen] at hc
      clear hlen
      go_wp2
      go_round
      case rel => exact ⟨j + 1, by omega, by omega, by go_num⟩
      case measure => simp [intOf]; omega
    · have hj : ¬ ((j : Int) ≤ 10) := by omega
      go_wp2
      go_ret2
      exact ⟨rfl, rfl⟩

theorem isOrder_yes {x : Int} (h0 : 0 ≤ x) (h1 : x ≤ 10) (w : World) : Calls Tryd.prog 29 #[.int .i64 x] w fun e w' => e = .returned (.bool true) ∧ w' = w := by
  go_enter Tryd.func29, Tryd.ntmps29
  go_wp2
  all_goals go_ret
  all_goals exact ⟨rfl, rfl⟩
theorem isOrder_no {x : Int} (h : ¬ (0 ≤ x ∧ x ≤ 10)) (w : World) : Calls Tryd.prog 29 #[.int .i64 x] w fun e w' => e = .returned (.bool false) ∧ w' = w := by
  rcases (show x < 0 ∨ (0 ≤ x ∧ 10 < x) by omega) with h0 | ⟨h0, h1⟩
  · clear h
    go_enter Tryd.func29, Tryd.ntmps29
    go_wp2
    all_goals go_ret
    all_goals exact ⟨rfl, rfl⟩
  · clear h
    have h2 : decide (x ≤ 10) = false := by simpa using h1
    go_enter Tryd.func29, Tryd.ntmps29
    go_wp2
    all_goals go_ret
    all_goals exact ⟨by first | rfl | exact ret_bool (by simp), rfl⟩

end Go.Proofs.YtpljldjdemobbaaDoor.By
