
/-
  No statement of the program: the contracts of package space's find, gap, Free, Runs and New, over this seat's translation.
-/
import Derived.Test.YtdgmfcnblaamcaaSpc2
import Derived.Test.YtdgmfcnblaamcaaHeap3
namespace Go.Proofs.Ytdgmfcnblaamcaa.Sc
open Go.ChangeShapes Go.WideShapes Go.ChangeAt Go.RowKit

set_option maxHeartbeats 400000 in
theorem find_any {w : World} {r : Nat} {ao : Option Addr} {n cap : Nat} {F C : Nat → Nat} (h : RW w r ao n cap F C) (hm : ∀ i j, i < j → j < n → F i < F j) (page : Int) :
    Calls Try.prog 19 #[.pointer (some ⟨r, 0, none⟩), .int .i64 page] w fun e w' => e = .returned (.tuple #[.int .i64 (kOf F n page : Nat), .bool (hitB F n page)]) ∧ Kept [] w w' := by
  have hb := bsf_any h hm page
  have hc := h.c
  generalize kOf F n page = k at hb ⊢
  generalize hitB F n page = b at hb ⊢
  clear h hm
  go_enter Try.func19, Try.ntmps19
  go_wp2_with (go_at_call 23; refine hb.mono ?_; rintro e w2 ⟨rfl, hK2⟩; have K2 := hide hK2; clear hK2 hb)
  go_ret2
  exact ⟨rfl, K2.out⟩
/-- Where the pages ahead of run k begin that are free. -/
def fstAt (F C : Nat → Nat) : Nat → Nat
  | 0 => 1
  | k + 1 => F k + C k
set_option maxHeartbeats 2000000 in
set_option maxRecDepth 100000 in
theorem gap_any {w : World} {r : Nat} {ao : Option Addr} {n cap : Nat} {F C : Nat → Nat} (h : RW w r ao n cap F C) (hF : ∀ i, i < n → F i + C i ≤ 4096) (need : Int) :
    Calls Try.prog 17 #[.pointer (some ⟨r, 0, none⟩), .int .i64 need] w fun e w' => ∃ k : Nat, k ≤ n ∧ e = .returned (.tuple #[.int .i64 k, .int .i64 (fstAt F C k : Nat)]) ∧
      (k < n → need ≤ (F k : Int) - (fstAt F C k : Int)) ∧ (∀ i, i < k → ¬ need ≤ (F i : Int) - (fstAt F C i : Int)) ∧ Kept [] w w' := by
  have hc := h.c
  have hle := h.le
  have h8 := h.m
  have HR := hide h
  have HF := hide hF
  clear h hF
  go_enter Try.func17, Try.ntmps17
  go_wp2
  go_loopw [6, 14] (fun x i wr => ∃ k : Nat, k ≤ n ∧ x = .int .i64 (fstAt F C k : Nat) ∧ i = .int .i64 k ∧ (∀ j, j < k → ¬ need ≤ (F j : Int) - (fstAt F C j : Int)) ∧ Kept [] w wr) (fun _ i _ => n - (intOf i).toNat)
  case atStart => exact ⟨0, by omega, rfl, rfl, fun j hj => absurd hj (Nat.not_lt_zero _), Kept.refl _ _⟩
  case round =>
    obtain ⟨k, hk, rfl, rfl, hno, hKk⟩ := hrel
    have K := hide hKk
    have HN := hide hno
    have hc' := hKk.cell hc (by simp)
    have hf4 : fstAt F C k ≤ 4096 := by
      cases k with
      | zero => show 1 ≤ 4096; omega
      | succ j => exact HF.out j (by omega)
    by_cases hkn : k < n
    · have hki : (k : Int) < (n : Int) := by omega
      obtain ⟨b, rfl, c0, c1⟩ := (HR.out.kept hKk (by simp) (fun _ _ => by simp)).cell (i := k) hkn
      unfold iv at c0 c1
      have hfk := HF.out k hkn
      have hnx : fstAt F C (k + 1) = F k + C k := rfl
      have HX := hide hnx
      have hbn := World.new_ne wr _ c0
      obtain ⟨f, hf⟩ : ∃ f, f = F k := ⟨_, rfl⟩
      obtain ⟨cc, hcc⟩ : ∃ c, c = C k := ⟨_, rfl⟩
      obtain ⟨a, ha⟩ : ∃ a, a = fstAt F C k := ⟨_, rfl⟩
      rw [← hf] at c0 hfk
      rw [← hcc] at c1 hfk
      rw [← ha] at hf4
      have HE := hide (And.intro hf (And.intro hcc ha))
      rw [← ha]
      have hw1 : IntKind.i64.wrap ((f : Int) - (a : Int)) = (f : Int) - (a : Int) := by rw [IntKind.wrap_i64]; omega
      have hw2 : IntKind.i64.wrap ((f : Int) + (cc : Int)) = ((f + cc : Nat) : Int) := by rw [wrap_small _ (by omega) (by omega)]; omega
      clear hf hcc ha hno hKk hnx
      by_cases hnd : need ≤ (f : Int) - (a : Int)
      · go_wp2
        go_ret2
        refine ⟨k, hk, by rw [← HE.out.2.2]; first | rfl | simp, fun _ => by rw [← HE.out.1, ← HE.out.2.2]; exact hnd, HN.out, ?_⟩
        exact (K.out.alloc _)
      · have HD := hide hnd
        go_wp2
        go_roundw
        case rel =>
          refine ⟨k + 1, by omega, ?_, by go_num, fun j hj => ?_, K.out.alloc _⟩
          · rw [HX.out, ← HE.out.1, ← HE.out.2.1]
            first | rfl | (congr 1; omega)
          · by_cases e : j = k
            · rw [e, ← HE.out.1, ← HE.out.2.2]; exact HD.out
            · exact HN.out j (by omega)
        case measure => simp [intOf]; omega
    · have e : k = n := by omega
      subst e
      have hki : ¬ (k : Int) < (k : Int) := by omega
      clear hno hKk
      go_wp2
      go_ret2
      exact ⟨k, Nat.le_refl _, rfl, fun h => absurd h hkn, HN.out, K.out⟩
/-- The pages that are free. -/
def sumC (C : Nat → Nat) : Nat → Nat
  | 0 => 0
  | k + 1 => sumC C k + C k
set_option maxHeartbeats 2000000 in
set_option maxRecDepth 100000 in
theorem free_any {w : World} {r : Nat} {ao : Option Addr} {n cap : Nat} {F C : Nat → Nat} (h : RW w r ao n cap F C) (hs : ∀ k, k ≤ n → sumC C k ≤ 4095) :
    Calls Try.prog 12 #[.pointer (some ⟨r, 0, none⟩)] w fun e w' => e = .returned (.int .i64 (4095 - sumC C n : Nat)) ∧ Kept [] w w' := by
  have hc := h.c
  have hle := h.le
  have h8 := h.m
  have HR := hide h
  have HS := hide hs
  clear h hs
  go_enter Try.func12, Try.ntmps12
  go_wp2
  go_loopw [3, 13] (fun x i wr => ∃ k : Nat, k ≤ n ∧ x = .int .i64 (4095 - sumC C k : Nat) ∧ i = .int .i64 k ∧ Kept [] w wr) (fun _ i _ => n - (intOf i).toNat)
  case atStart => exact ⟨0, by omega, rfl, rfl, Kept.refl _ _⟩
  case round =>
    obtain ⟨k, hk, rfl, rfl, hKk⟩ := hrel
    have K := hide hKk
    have hsk := HS.out k hk
    by_cases hkn : k < n
    · have hki : (k : Int) < (n : Int) := by omega
      obtain ⟨b, rfl, c0, c1⟩ := (HR.out.kept hKk (by simp) (fun _ _ => by simp)).cell (i := k) hkn
      unfold iv at c0 c1
      have hsk1 := HS.out (k + 1) hkn
      have hnx : sumC C (k + 1) = sumC C k + C k := rfl
      rw [hnx] at hsk1
      have HX := hide hnx
      obtain ⟨cc, hcc⟩ : ∃ c, c = C k := ⟨_, rfl⟩
      obtain ⟨a, ha⟩ : ∃ a, a = sumC C k := ⟨_, rfl⟩
      rw [← hcc] at c1
      rw [← hcc, ← ha] at hsk1
      rw [← ha] at hsk
      have HE := hide (And.intro hcc ha)
      rw [← ha]
      generalize F k = f at c0
      have hw1 : IntKind.i64.wrap (((4095 - a : Nat) : Int) - (cc : Int)) = ((4095 - (a + cc) : Nat) : Int) := by rw [wrap_small _ (by omega) (by omega)]; omega
      clear hcc ha hKk hnx
      go_wp2
      go_roundw
      case rel =>
        refine ⟨k + 1, by omega, ?_, by go_num, K.out.alloc _⟩
        rw [HX.out, ← HE.out.1, ← HE.out.2]
      case measure => simp [intOf]; omega
    · have e : k = n := by omega
      subst e
      have hki : ¬ (k : Int) < (k : Int) := by omega
      clear hKk
      go_wp2
      go_ret
      exact ⟨rfl, K.out⟩
end Go.Proofs.Ytdgmfcnblaamcaa.Sc
