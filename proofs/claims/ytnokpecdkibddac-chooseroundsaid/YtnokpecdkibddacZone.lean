
/-
  No statement of the program: the contracts of package zone's comparison, and of the sort that it hands it to, over this seat's translation.
-/
import Derived.Test.YtnokpecdkibddacTopo2
import Derived.Test.YtnokpecdkibddacShelf
import Derived.Deep.RegionHeld3
namespace Go.Proofs.Ytnokpecdkibddac.ZN
open Go.RowKit TP

/-- Which of two nodes comes first, by their distances. -/
def kf (D : Nat → Int) (a b : Nat) : Int := if Lib.compareInt (D a) (D b) = 0 then Lib.compareInt a b else Lib.compareInt (D a) (D b)
set_option maxHeartbeats 400000 in
theorem or_two {b : Nat} {x y : Int} {w : World} (c0 : w.cell? ⟨b, 0, none⟩ = some (.int .i64 x)) (c1 : w.cell? ⟨b, 1, none⟩ = some (.int .i64 y)) (cap : Nat) :
    Calls Try.prog 57 #[.slice (some ⟨b, 0, none⟩) 2 cap] w fun e w' => e = .returned (.int .i64 (if x = 0 then y else x)) ∧ w' = w := by
  by_cases hx : x = 0
  · subst hx
    rw [if_pos rfl]
    by_cases hy : y = 0
    · subst hy
      go_enter Try.func57, Try.ntmps57
      go_wp2
      refine wp_loop_rounds 3 ?_
      rw [rounds_succ]
      go_wp2
      rw [rounds_succ]
      go_wp2
      rw [rounds_succ]
      go_wp2
      go_ret
      exact ⟨rfl, rfl⟩
    · have hy' : (y != 0) = true := by simpa using hy
      go_enter Try.func57, Try.ntmps57
      go_wp2
      refine wp_loop_rounds 2 ?_
      rw [rounds_succ]
      go_wp2
      rw [rounds_succ]
      go_wp2
      go_ret
      exact ⟨rfl, rfl⟩
  · rw [if_neg hx]
    have hx' : (x != 0) = true := by simpa using hx
    go_enter Try.func57, Try.ntmps57
    go_wp2
    refine wp_loop_rounds 1 ?_
    rw [rounds_succ]
    go_wp2
    go_ret
    exact ⟨rfl, rfl⟩

theorem or_is {b : Nat} {x y r : Int} {w : World} (hr : r = if x = 0 then y else x) (c0 : w.cell? ⟨b, 0, none⟩ = some (.int .i64 x)) (c1 : w.cell? ⟨b, 1, none⟩ = some (.int .i64 y)) (cap : Nat) :
    Calls Try.prog 57 #[.slice (some ⟨b, 0, none⟩) 2 cap] w fun e w' => e = .returned (.int .i64 r) ∧ w' = w := by rw [hr]; exact or_two c0 c1 cap
set_option maxHeartbeats 1000000 in
theorem cmp_any {q : Nat} {A : Option Addr} {len C : Nat} {D : Nat → Int} {w : World} (hq : w.cell? ⟨q, 0, none⟩ = some (.slice A len C)) (hI : IsInts .i64 w A len D) (_hl : len ≤ 8) (a b : Nat) (ha : a < len) (hb : b < len) :
    Calls Try.prog 56 #[.int .i64 a, .int .i64 b, .pointer (some ⟨q, 0, none⟩)] w fun e w' => e = .returned (.int .i64 (kf D a b)) ∧ Kept [] w w' := by
  obtain ⟨b0, off, hA, ca, -⟩ := hI a ha
  subst hA
  obtain ⟨b1, off1, hA1, cb, -⟩ := hI b hb
  obtain ⟨rfl, rfl⟩ : b0 = b1 ∧ off = off1 := by simpa using hA1
  have hqn := World.new_ne w _ hq
  have han := World.new_ne w _ ca
  have hbn := World.new_ne w _ cb
  have hcmp := Try.cmp_Compare_int
  obtain ⟨r, hr⟩ : ∃ r, r = kf D a b := ⟨_, rfl⟩
  rw [← hr]
  have HR := hide hr
  clear hr
  go_enter Try.func56, Try.ntmps56
  go_wp2_with fail
  go_region_held3 (fun w' => w'.cell? ⟨q, 0, none⟩ = some (.slice (some ⟨b0, off, none⟩) len C) ∧ w'.cell? ⟨b0, off + a, none⟩ = some (.int .i64 (D a)) ∧ w'.cell? ⟨b0, off + b, none⟩ = some (.int .i64 (D b))) (go_keep) (first
    | (go_at_call 58; refine (hcmp _ _ _).mono ?_; rintro e w' ⟨rfl, hw⟩; subst w')
    | (go_at_call 57; refine (or_is HR.out (by simp) (by simp) _).mono ?_; rintro e w' ⟨rfl, hw⟩; subst w'))
  go_wp2
  go_ret
  exact ⟨rfl, ((Kept.refl [] w).alloc _).drew⟩
end Go.Proofs.Ytnokpecdkibddac.ZN
