
/-
  No statement of the program: the contracts of package space's find, gap, Free and New, over this seat's translation.
-/
import Derived.Test.YtdgmfcnblaamcaaSpc
import Derived.Test.YtdgmfcnblaamcaaShelf
import Derived.Lib.Walk
namespace Go.Proofs.Ytdgmfcnblaamcaa.Sc
open Go.ChangeShapes Go.WideShapes Go.ChangeAt Go.RowKit

set_option maxHeartbeats 400000 in
theorem cmpf_any (f c : Nat) (page : Int) (w : World) : Calls Try.prog 24 #[.agg #[.int .i64 f, .int .i64 c], .int .i64 page] w fun e w' => e = .returned (.int .i64 (Lib.compareInt f page)) ∧ Kept [] w w' := by
  have hcmp := Try.cmp_Compare_int
  go_enter Try.func24, Try.ntmps24
  go_wp2_with (go_at_call 25; refine (hcmp _ _ _).mono ?_; rintro e w' ⟨rfl, hw⟩; subst w')
  go_ret
  exact ⟨rfl, (Kept.refl [] w).alloc _⟩
theorem cmp_lt (a b : Int) : Lib.compareInt a b < 0 ↔ a < b := by
  unfold Lib.compareInt
  by_cases h1 : a < b
  · simp [h1]
  · by_cases h2 : a > b <;> simp [h1, h2]
theorem cmp_eq (a b : Int) : Lib.compareInt a b = 0 ↔ a = b := by
  unfold Lib.compareInt
  by_cases h1 : a < b
  · simp [h1]; omega
  · by_cases h2 : a > b
    · simp [h1, h2]; omega
    · simp [h1, h2]; omega
/-- Does a run begin at the page? -/
def hitB (F : Nat → Nat) (n : Nat) (page : Int) : Bool := decide (kOf F n page < n ∧ (F (kOf F n page) : Int) = page)
set_option maxHeartbeats 2000000 in
set_option maxRecDepth 100000 in
theorem bsf_any {w : World} {r : Nat} {ao : Option Addr} {n cap : Nat} {F C : Nat → Nat} (h : RW w r ao n cap F C) (hm : ∀ i j, i < j → j < n → F i < F j) (page : Int) :
    Calls Try.prog 23 #[.slice ao n cap, .int .i64 page, .func (.func 24) #[] #[]] w fun e w' => e = .returned (.tuple #[.int .i64 (kOf F n page : Nat), .bool (hitB F n page)]) ∧ Kept [] w w' := by
  have hle := h.le
  have h8 := h.m
  have HR := hide h
  have HK := hide (fun i (hi : i < n) => kOf_iff (page := page) hm i hi)
  have hkn := kOf_le F n page
  obtain ⟨k, hk⟩ : ∃ k, k = kOf F n page := ⟨_, rfl⟩
  have HKE := hide hk
  rw [← hk] at hkn ⊢
  clear h hm hk
  go_enter Try.func23, Try.ntmps23
  go_wp2
  go_loopw [9, 10] (fun x y wr => ∃ i j : Nat, x = .int .i64 i ∧ y = .int .i64 j ∧ i ≤ k ∧ k ≤ j ∧ j ≤ n ∧ Kept [] w wr) (fun x y _ => (intOf y).toNat - (intOf x).toNat)
  case atStart => exact ⟨0, n, rfl, rfl, by omega, hkn, by omega, Kept.refl _ _⟩
  case round =>
    obtain ⟨i, j, rfl, rfl, hik, hkj, hjn, hKk⟩ := hrel
    have K := hide hKk
    by_cases hij : i < j
    · have hiji : (i : Int) < (j : Int) := by omega
      obtain ⟨b, rfl, c0, c1⟩ := (HR.out.kept hKk (by simp) (fun _ _ => by simp)).cell (i := (i + j) / 2) (by omega)
      unfold iv at c0 c1
      have hcl := cmpf_any (F ((i + j) / 2)) (C ((i + j) / 2)) page wr
      have hdec := HK.out ((i + j) / 2) (by omega)
      rw [← HKE.out] at hdec
      have hcl2 := cmp_lt (F ((i + j) / 2)) page
      generalize F ((i + j) / 2) = f at c0 hcl hdec hcl2
      generalize C ((i + j) / 2) = cc at c1 hcl
      generalize Lib.compareInt (f : Int) page = cm at hcl hcl2
      have hh2 : (((i + j) / 2 : Nat) : Int) < (n : Int) := by omega
      have HM := hide (show i ≤ (i + j) / 2 ∧ (i + j) / 2 < j from by omega)
      clear hKk
      by_cases hlt : (f : Int) < page
      · have hc0 : cm < 0 := hcl2.2 hlt
        have hk2 : (i + j) / 2 < k := hdec.1 hlt
        have HE := hide hk2
        clear hdec hcl2 hlt hk2
        go_wp2_with (go_at_call 24; refine hcl.mono ?_; rintro e w2 ⟨rfl, hK2⟩; have K2 := hide (K.out.next hK2); clear hK2 hcl)
        go_roundw
        case rel => exact ⟨(i + j) / 2 + 1, j, by rw [show ((i : Int) + (j : Int)) / 2 + 1 = (((i + j) / 2 + 1 : Nat) : Int) by omega], rfl, HE.out, hkj, hjn, K2.out⟩
        case measure =>
          have := HM.out
          simp [intOf]; omega
      · have hc0 : ¬ cm < 0 := fun h => hlt (hcl2.1 h)
        have hk2 : k ≤ (i + j) / 2 := by
          rcases Nat.lt_or_ge ((i + j) / 2) k with h | h
          · exact absurd (hdec.2 h) hlt
          · exact h
        have HE := hide hk2
        clear hdec hcl2 hlt hk2
        go_wp2_with (go_at_call 24; refine hcl.mono ?_; rintro e w2 ⟨rfl, hK2⟩; have K2 := hide (K.out.next hK2); clear hK2 hcl)
        go_roundw
        case rel => exact ⟨i, (i + j) / 2, rfl, by rw [show ((i : Int) + (j : Int)) / 2 = (((i + j) / 2 : Nat) : Int) by omega], hik, HE.out, by have := HM.out; omega, K2.out⟩
        case measure =>
          have := HM.out
          simp [intOf]; omega
    · have e1 : i = k := by omega
      have e2 : j = k := by omega
      subst e1 e2
      have hiji : ¬ (j : Int) < (j : Int) := by omega
      by_cases hin : j < n
      · have hini : (j : Int) < (n : Int) := by omega
        obtain ⟨b, rfl, c0, c1⟩ := (HR.out.kept hKk (by simp) (fun _ _ => by simp)).cell (i := j) hin
        unfold iv at c0 c1
        have hcl : ∀ W, Calls Try.prog 24 #[.agg #[.int .i64 (F j : Nat), .int .i64 (C j : Nat)], .int .i64 page] W fun e w' => e = .returned (.int .i64 (Lib.compareInt (F j : Nat) page)) ∧ Kept [] W w' := fun W => cmpf_any (F j : Nat) (C j : Nat) page W
        have hce := cmp_eq (F j) page
        have hhit : hitB F n page = (Lib.compareInt (F j : Int) page == 0) := by
          unfold hitB
          rw [← HKE.out]
          by_cases h : (F j : Int) = page
          · rw [decide_eq_true ⟨hin, h⟩, hce.2 h]; rfl
          · rw [decide_eq_false (fun h2 => h h2.2)]
            have : ¬ Lib.compareInt (F j : Int) page = 0 := fun h3 => h (hce.1 h3)
            simpa using this
        have HH := hide hhit
        clear hhit hce
        generalize F j = f at c0 hcl HH
        generalize C j = cc at c1 hcl
        generalize Lib.compareInt (f : Int) page = cm at hcl HH
        clear hKk
        go_wp2_with (go_at_call 24; refine (hcl _).mono ?_; rintro e w2 ⟨rfl, hK2⟩; have K2 := hide (K.out.next hK2); clear hK2)
        go_ret2
        exact ⟨by rw [HH.out]; first | rfl | simp, K2.out⟩
      · have hini : decide (j < n) = false := decide_eq_false hin
        have hini2 : decide ((j : Int) < (n : Int)) = false := decide_eq_false (by omega)
        have hhit : hitB F n page = false := by
          unfold hitB
          rw [← HKE.out]
          exact decide_eq_false (fun h => hin h.1)
        have HH := hide hhit
        clear hKk hhit
        go_wp2
        go_ret2
        exact ⟨by rw [HH.out]; first | rfl | simp, K.out⟩
end Go.Proofs.Ytdgmfcnblaamcaa.Sc
