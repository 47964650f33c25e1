
/-
  No statement of the program: the contracts of package topo's Check (countsFit, isPowerOfTwo, cpusFit, distanceFits), over this seat's translation.
-/
import Derived.Test.YtnokpecdkibddacHeap2
import Derived.Test.YtnokpecdkibddacRows
namespace Go.Proofs.Ytnokpecdkibddac.TP
open Go.RowKit

theorem IsRows.kept {k : IntKind} {w w' : World} {ao : Option Addr} {len : Nat} {L : Nat → Nat} {Z : Nat → Nat → Int} (h : IsRows k w ao len L Z) (hk : Kept [] w w') : IsRows k w' ao len L Z := by
  intro r hr
  obtain ⟨b, off, A, C, rfl, hc, h1, h2, h3⟩ := h r hr
  exact ⟨b, off, A, C, rfl, hk.cell hc (by simp), h1, h2, IsInts.kept h3 hk⟩

/-- A machine's lists: the CPUs' nodes cz, and the rows of distances. -/
structure At (w : World) (cA : Option Addr) (cL : Nat) (cz : Nat → Int) (dA : Option Addr) (dL : Nat) (L : Nat → Nat) (Z : Nat → Nat → Int) : Prop where
  cl : cL ≤ maxLen
  dl : dL ≤ maxLen
  cpus : IsInts .i64 w cA cL cz
  rows : IsRows .i64 w dA dL L Z
theorem At.kept {w w' : World} {cA : Option Addr} {cL : Nat} {cz : Nat → Int} {dA : Option Addr} {dL : Nat} {L : Nat → Nat} {Z : Nat → Nat → Int} (h : At w cA cL cz dA dL L Z) (hk : Kept [] w w') : At w' cA cL cz dA dL L Z :=
  ⟨h.cl, h.dl, IsInts.kept h.cpus hk, IsRows.kept h.rows hk⟩

/-- A machine, as a value. -/
def tval (n fr : Int) (cA : Option Addr) (cL cC : Nat) (dA : Option Addr) (dL dC : Nat) : Value := .agg #[.int .i64 n, .int .i64 fr, .slice cA cL cC, .slice dA dL dC]

/-- Is it 1, 2, 4 .. 1024? -/
def powB (fr : Int) : Bool := decide (0 < fr ∧ fr ≤ 1024) && (fr.toNat &&& (fr.toNat - 1) == 0)
theorem and_pow : ∀ j : Fin 1024, (bits BinOp.and IntKind.i64 ((j.val : Int) + 1) (j.val : Int) == 0) = ((j.val + 1) &&& j.val == 0) := by decide +kernel
set_option maxHeartbeats 400000 in
theorem pow_any (fr : Int) (h1 : 1 ≤ fr) (h2 : fr ≤ 1024) (w : World) : Calls Try.prog 38 #[.int .i64 fr] w fun e w' => e = .returned (.bool (powB fr)) ∧ w' = w := by
  obtain ⟨k, rfl⟩ := Int.eq_ofNat_of_zero_le (show 0 ≤ fr by omega)
  obtain ⟨j, rfl⟩ : ∃ j, k = j + 1 := ⟨k - 1, by omega⟩
  have hj : j < 1024 := by omega
  have hb : powB ((j + 1 : Nat) : Int) = ((j + 1) &&& j == 0) := by
    unfold powB
    rw [decide_eq_true (by omega)]
    simp
  go_enter Try.func38, Try.ntmps38
  go_wp2
  go_ret
  exact ⟨ret_bool ((and_pow ⟨j, hj⟩).trans hb.symm), rfl⟩

def countsP (n fr : Int) (cL : Nat) : Prop := (1 ≤ n ∧ n ≤ 8) ∧ (1 ≤ fr ∧ fr ≤ 1024) ∧ powB fr = true ∧ 1 ≤ cL ∧ cL ≤ 16
instance (n fr : Int) (cL : Nat) : Decidable (countsP n fr cL) := by unfold countsP; infer_instance
set_option maxHeartbeats 1000000 in
set_option maxRecDepth 20000 in
theorem counts_any (n fr : Int) (cA : Option Addr) (cL cC : Nat) (dA : Option Addr) (dL dC : Nat) (w : World) :
    Calls Try.prog 28 #[tval n fr cA cL cC dA dL dC] w fun e w' => e = .returned (.bool (decide (countsP n fr cL))) ∧ Kept [] w w' := by
  unfold tval
  by_cases h : countsP n fr cL
  · rw [decide_eq_true h]
    obtain ⟨⟨h1, h2⟩, ⟨h3, h4⟩, h5, h6, h7⟩ := h
    have hp := pow_any fr h3 h4
    rw [h5] at hp
    go_enter Try.func28, Try.ntmps28
    go_wp2_with (go_at_call 38; refine (hp _).mono ?_; rintro e w' ⟨rfl, hw⟩; subst w')
    go_ret
    exact ⟨by first | rfl | exact ret_bool (by simp; omega), (Kept.refl _ _).alloc _⟩
  · rw [decide_eq_false h]
    by_cases h1 : 1 ≤ n
    · by_cases h2 : n ≤ 8
      · by_cases h3 : 1 ≤ fr
        · by_cases h4 : fr ≤ 1024
          · have hp := pow_any fr h3 h4
            by_cases h5 : powB fr = true
            · rw [h5] at hp
              have h6 : cL < 1 ∨ (1 ≤ cL ∧ 16 < cL) := by
                by_cases h6 : 1 ≤ cL
                · by_cases h7 : cL ≤ 16
                  · exact absurd ⟨⟨h1, h2⟩, ⟨h3, h4⟩, h5, h6, h7⟩ h
                  · omega
                · omega
              rcases h6 with h6 | ⟨h6, h7⟩
              all_goals
                clear h
                go_enter Try.func28, Try.ntmps28
                go_wp2_with (go_at_call 38; refine (hp _).mono ?_; rintro e w' ⟨rfl, hw⟩; subst w')
                go_ret
                exact ⟨by first | rfl | exact ret_bool (by simp; omega), (Kept.refl _ _).alloc _⟩
            · have h5 : powB fr = false := by simpa using h5
              rw [h5] at hp
              clear h
              go_enter Try.func28, Try.ntmps28
              go_wp2_with (go_at_call 38; refine (hp _).mono ?_; rintro e w' ⟨rfl, hw⟩; subst w')
              go_ret
              exact ⟨by first | rfl | exact ret_bool (by simp; omega), (Kept.refl _ _).alloc _⟩
          · clear h
            go_enter Try.func28, Try.ntmps28
            go_wp2_with fail
            go_ret
            exact ⟨by first | rfl | exact ret_bool (by simp; omega), (Kept.refl _ _).alloc _⟩
        · clear h
          go_enter Try.func28, Try.ntmps28
          go_wp2_with fail
          go_ret
          exact ⟨by first | rfl | exact ret_bool (by simp; omega), (Kept.refl _ _).alloc _⟩
      · clear h
        go_enter Try.func28, Try.ntmps28
        go_wp2_with fail
        go_ret
        exact ⟨by first | rfl | exact ret_bool (by simp; omega), (Kept.refl _ _).alloc _⟩
    · clear h
      go_enter Try.func28, Try.ntmps28
      go_wp2_with fail
      go_ret
      exact ⟨by first | rfl | exact ret_bool (by simp; omega), (Kept.refl _ _).alloc _⟩

def cpusP (n : Int) (cL : Nat) (cz : Nat → Int) : Prop := ∀ i, i < cL → 0 ≤ cz i ∧ cz i < n
instance (n : Int) (cL : Nat) (cz : Nat → Int) : Decidable (cpusP n cL cz) := by unfold cpusP; infer_instance
set_option maxHeartbeats 1000000 in
set_option maxRecDepth 20000 in
theorem cpus_any (n fr : Int) (cA : Option Addr) (cL cC : Nat) (cz : Nat → Int) (dA : Option Addr) (dL dC : Nat) (w : World) (hl : cL ≤ maxLen) (hc : IsInts .i64 w cA cL cz) :
    Calls Try.prog 29 #[tval n fr cA cL cC dA dL dC] w fun e w' => e = .returned (.bool (decide (cpusP n cL cz))) ∧ Kept [] w w' := by
  unfold tval
  unfold maxLen at hl
  obtain ⟨r, hr⟩ : ∃ r, r = decide (cpusP n cL cz) := ⟨_, rfl⟩
  rw [← hr]
  have HR := hide hr
  have HC := hide (IsInts.kept hc ((Kept.refl [] w).alloc (.cells #[.int .i64 n, .int .i64 fr, .slice cA cL cC, .slice dA dL dC] 37)))
  clear hr hc
  go_enter Try.func29, Try.ntmps29
  go_wp2
  go_loopw [8] (fun i wr => ∃ k : Nat, k ≤ cL ∧ i = .int .i64 k ∧ wr = w.alloc (.cells #[.int .i64 n, .int .i64 fr, .slice cA cL cC, .slice dA dL dC] 37) ∧ ∀ j, j < k → 0 ≤ cz j ∧ cz j < n) (fun i _ => cL - (intOf i).toNat)
  case atStart => exact ⟨0, by omega, rfl, rfl, fun j hj => absurd hj (Nat.not_lt_zero _)⟩
  case round =>
    obtain ⟨k, hk, rfl, rfl, hf⟩ := hrel
    have HF := hide hf
    clear hf
    by_cases hkl : k < cL
    · obtain ⟨b, off, hao, hcc, -⟩ := HC.out k hkl
      subst hao
      obtain ⟨y, hy⟩ : ∃ y, y = cz k := ⟨_, rfl⟩
      rw [← hy] at hcc
      have HY := hide hy
      clear hy
      have hki : (k : Int) < (cL : Int) := by omega
      rcases (show y < 0 ∨ (0 ≤ y ∧ n ≤ y) ∨ (0 ≤ y ∧ y < n) from by omega) with h1 | ⟨h1, h2⟩ | ⟨h1, h2⟩
      · have R := hide (show r = false from by rw [HR.out]; exact decide_eq_false (fun h => by have := h k hkl; rw [← HY.out] at this; omega))
        go_wp2
        go_ret
        exact ⟨ret_bool R.out.symm, (Kept.refl _ _).alloc _⟩
      · have R := hide (show r = false from by rw [HR.out]; exact decide_eq_false (fun h => by have := h k hkl; rw [← HY.out] at this; omega))
        go_wp2
        go_ret
        exact ⟨ret_bool R.out.symm, (Kept.refl _ _).alloc _⟩
      · go_wp2
        go_roundw
        case rel =>
          refine ⟨k + 1, by omega, by go_num, trivial, fun j hj => ?_⟩
          by_cases e : j = k
          · rw [e, ← HY.out]; exact ⟨h1, h2⟩
          · exact HF.out j (by omega)
        case measure => simp [intOf]; omega
    · have e : k = cL := by omega
      subst e
      have R := hide (show r = true from by rw [HR.out]; exact decide_eq_true (fun i hi => HF.out i hi))
      go_wp2
      go_ret
      exact ⟨ret_bool R.out.symm, (Kept.refl _ _).alloc _⟩

/-- May the distance be d? -/
def fitP (a b : Nat) (d : Int) : Prop := (a = b → d = 10) ∧ (a ≠ b → 11 ≤ d ∧ d ≤ 255)
instance (a b : Nat) (d : Int) : Decidable (fitP a b d) := by unfold fitP; infer_instance
set_option maxHeartbeats 400000 in
theorem fits_any (a b : Nat) (d : Int) (w : World) : Calls Try.prog 40 #[.int .i64 a, .int .i64 b, .int .i64 d] w fun e w' => e = .returned (.bool (decide (fitP a b d))) ∧ w' = w := by
  by_cases hab : a = b
  · subst hab
    go_enter Try.func40, Try.ntmps40
    go_wp2
    go_ret
    refine ⟨ret_bool ?_, rfl⟩
    by_cases h : d = 10
    · rw [decide_eq_true (show fitP a a d from ⟨fun _ => h, fun e => absurd rfl e⟩)]; simp [h]
    · rw [decide_eq_false (fun hf : fitP a a d => h (hf.1 rfl))]; simp [h]
  · have hab' : ¬ ((a : Int) = b) := by omega
    rcases (show d ≤ 10 ∨ (10 < d ∧ d ≤ 255) ∨ (10 < d ∧ 255 < d) from by omega) with h | ⟨h1, h2⟩ | ⟨h1, h2⟩
    · rw [decide_eq_false (fun hf : fitP a b d => by have := hf.2 hab; omega)]
      go_enter Try.func40, Try.ntmps40
      go_wp2
      go_ret
      exact ⟨by first | rfl | exact ret_bool (by simp; omega), rfl⟩
    · rw [decide_eq_true (show fitP a b d from ⟨fun e => absurd e hab, fun _ => by omega⟩)]
      go_enter Try.func40, Try.ntmps40
      go_wp2
      go_ret
      exact ⟨by first | rfl | exact ret_bool (by simp; omega), rfl⟩
    · rw [decide_eq_false (fun hf : fitP a b d => by have := hf.2 hab; omega)]
      go_enter Try.func40, Try.ntmps40
      go_wp2
      go_ret
      exact ⟨by first | rfl | exact ret_bool (by simp; omega), rfl⟩
end Go.Proofs.Ytnokpecdkibddac.TP
