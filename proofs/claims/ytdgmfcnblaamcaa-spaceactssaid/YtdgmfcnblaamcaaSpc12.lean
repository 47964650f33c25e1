
/-
  No statement of the program: Of of package space, over this seat's translation.
-/
import Derived.Test.YtdgmfcnblaamcaaSpc11
import Derived.OwnWalk
import Derived.BigRegion
import Derived.BigQuiet
namespace Go.Proofs.Ytdgmfcnblaamcaa.Sc
open Go.ChangeShapes Go.WideShapes Go.ChangeAt Go.RowKit
set_option maxHeartbeats 4000000 in
set_option maxRecDepth 100000 in
theorem of_hit {w : World} {r : Nat} {ao : Option Addr} {n cap : Nat} {F C : Nat → Nat} (h : RW w r ao n cap F C) (hA : Apart n F C) {page : Int} {i : Nat} (hi : i < n) (h1 : (F i : Int) ≤ page) (h2 : page < (F i : Int) + (C i : Int)) :
    Calls Try.prog 9 #[.pointer (some ⟨r, 0, none⟩), .int .i64 page] w fun e w' => e = .returned (.tuple #[.int .i64 (F i), .int .i64 (C i), .bool true]) ∧ Kept [] w w' := by
  have hc := h.c
  have hle := h.le
  have h8 := h.m
  obtain ⟨b, hao, q0, q1⟩ := h.cell hi
  subst hao
  unfold iv at q0 q1
  have hA3 := hA i hi
  have hF := find_any h hA.mono page
  have hkk : (hitB F n page = true ∧ kOf F n page = i ∧ (F i : Int) = page) ∨ (hitB F n page = false ∧ kOf F n page = i + 1) := by
    have hk := fun j hj => kOf_iff (page := page) hA.mono j hj
    have hl := kOf_le F n page
    by_cases e : (F i : Int) = page
    · obtain ⟨a1, a2⟩ := hit_at hA hi
      rw [e] at a1 a2
      exact .inl ⟨a2, a1, e⟩
    · have a1 := (hk i hi).1 (by omega)
      have a2 : kOf F n page = i + 1 := by
        by_cases a3 : i + 1 < kOf F n page
        · have a4 := (hk (i + 1) (by omega)).2 a3
          have a5 := hA.far (i := i) (i + 1) (by omega) (by omega)
          omega
        · omega
      refine .inr ⟨decide_eq_false (fun hh => ?_), a2⟩
      rw [a2] at hh
      have a5 := hA.far (i := i) (i + 1) (by omega) hh.1
      omega
  obtain ⟨f, hf⟩ : ∃ f, f = F i := ⟨_, rfl⟩
  obtain ⟨c, hcc⟩ : ∃ c, c = C i := ⟨_, rfl⟩
  rw [← hf] at q0 h1 h2 hA3 hkk
  rw [← hcc] at q1 h2 hA3
  rw [← hf, ← hcc]
  have hw1 : IntKind.i64.wrap (page - (f : Int)) = page - (f : Int) := by rw [wrap_small _ (by omega) (by omega)]
  have hfF := hide hF
  have hii : (i : Int) < (n : Int) := by omega
  have hi0 : ¬ (i : Int) < 0 := by omega
  clear h hA hF hf hcc
  rcases hkk with ⟨g1, g2, g3⟩ | ⟨g1, g2⟩
  · have hfF2 := hfF.out
    rw [g1, g2] at hfF2
    have hx : ¬ (c : Int) ≤ page - (f : Int) := by omega
    have hd : decide ((c : Int) ≤ page - (f : Int)) = false := decide_eq_false hx
    have hd0 : decide ((i : Int) < 0) = false := decide_eq_false hi0
    clear hfF g1 g2
    go_enter Try.func9, Try.ntmps9
    go_wp2_with fail
    refine hfF2.mono ?_
    rintro e w1 ⟨rfl, k1⟩
    have c1 := k1.cell hc (by simp)
    have d0 := k1.cell q0 (by simp)
    have d1 := k1.cell q1 (by simp)
    have K1 := hide k1
    clear hfF2 hc q0 q1 k1
    go_wp2_with fail
    go_big_region
    go_wp2_with fail
    go_big_region
    go_wp2_with fail
    go_ret3
    exact ⟨by first | rfl | (rw [g3]; rfl), by first | exact (K1.out.drewN _).drewN _ | exact K1.out.drew.drew | exact K1.out | exact K1.out.drew | exact K1.out.drewN _⟩
  · have hfF2 := hfF.out
    rw [g1, g2] at hfF2
    have hx : ¬ (c : Int) ≤ page - (f : Int) := by omega
    have hd : decide ((c : Int) ≤ page - (f : Int)) = false := decide_eq_false hx
    have hd0 : decide ((i : Int) < 0) = false := decide_eq_false hi0
    have hw2 : IntKind.i64.wrap (((i + 1 : Nat) : Int) - 1) = (i : Int) := by rw [wrap_small _ (by omega) (by omega)]; omega
    clear hfF g1 g2
    go_enter Try.func9, Try.ntmps9
    go_wp2_with fail
    refine hfF2.mono ?_
    rintro e w1 ⟨rfl, k1⟩
    have c1 := k1.cell hc (by simp)
    have d0 := k1.cell q0 (by simp)
    have d1 := k1.cell q1 (by simp)
    have K1 := hide k1
    clear hfF2 hc q0 q1 k1
    go_wp2_with fail
    go_big_region
    go_wp2_with fail
    go_big_region
    go_wp2_with fail
    go_ret3
    exact ⟨rfl, by first | exact (K1.out.drewN _).drewN _ | exact K1.out.drew.drew | exact K1.out | exact K1.out.drew | exact K1.out.drewN _⟩
set_option maxHeartbeats 4000000 in
set_option maxRecDepth 100000 in
theorem of_none {w : World} {r : Nat} {ao : Option Addr} {n cap : Nat} {F C : Nat → Nat} (h : RW w r ao n cap F C) (hA : Apart n F C) {page : Int} (hp : page ≤ 9223372036854775807) (hn : ∀ i, i < n → ¬ ((F i : Int) ≤ page ∧ page < (F i : Int) + (C i : Int))) :
    Calls Try.prog 9 #[.pointer (some ⟨r, 0, none⟩), .int .i64 page] w fun e w' => e = .returned (.tuple #[.int .i64 0, .int .i64 0, .bool false]) ∧ Kept [] w w' := by
  have hc := h.c
  have hle := h.le
  have h8 := h.m
  have hF := find_any h hA.mono page
  have hkk : hitB F n page = false := by
    cases e : hitB F n page with
    | false => rfl
    | true =>
      obtain ⟨a1, a2⟩ := hit_get e
      have a3 := hA _ a1
      exact absurd ⟨by omega, by omega⟩ (hn _ a1)
  rw [hkk] at hF
  have hl := kOf_le F n page
  have hk := fun j hj => kOf_iff (page := page) hA.mono j hj
  obtain ⟨k, hke⟩ : ∃ k, k = kOf F n page := ⟨_, rfl⟩
  rw [← hke] at hF hl hk
  have hfF := hide hF
  by_cases h0 : k = 0
  · subst h0
    have hw2 : IntKind.i64.wrap (((0 : Nat) : Int) - 1) = -1 := by decide
    have hw3 : IntKind.i64.wrap (-1) = -1 := by decide
    clear h hA hF hke hk hn
    go_enter Try.func9, Try.ntmps9
    go_wp2_with fail
    refine hfF.out.mono ?_
    rintro e w1 ⟨rfl, k1⟩
    have K1 := hide k1
    clear hfF hc k1
    go_wp2_with fail
    go_big_region
    go_wp2_with fail
    go_ret3
    exact ⟨rfl, by first | exact K1.out | exact K1.out.drew | exact K1.out.drewN _⟩
  · obtain ⟨i, rfl⟩ : ∃ i, k = i + 1 := ⟨k - 1, by omega⟩
    have hi : i < n := by omega
    obtain ⟨b, hao, q0, q1⟩ := h.cell hi
    subst hao
    unfold iv at q0 q1
    have hA3 := hA i hi
    have h1 := (hk i hi).2 (by omega)
    have h2 := hn i hi
    obtain ⟨f, hf⟩ : ∃ f, f = F i := ⟨_, rfl⟩
    obtain ⟨c, hcc⟩ : ∃ c, c = C i := ⟨_, rfl⟩
    rw [← hf] at q0 h1 h2 hA3
    rw [← hcc] at q1 h2 hA3
    have hw1 : IntKind.i64.wrap (page - (f : Int)) = page - (f : Int) := by rw [wrap_small _ (by omega) (by omega)]
    have hii : (i : Int) < (n : Int) := by omega
    have hi0 : ¬ (i : Int) < 0 := by omega
    have hx : (c : Int) ≤ page - (f : Int) := by omega
    have hd : decide ((c : Int) ≤ page - (f : Int)) = true := decide_eq_true hx
    have hd0 : decide ((i : Int) < 0) = false := decide_eq_false hi0
    have hw2 : IntKind.i64.wrap (((i + 1 : Nat) : Int) - 1) = (i : Int) := by rw [wrap_small _ (by omega) (by omega)]; omega
    clear h hA hF hf hcc hke hk hn h2
    go_enter Try.func9, Try.ntmps9
    go_wp2_with fail
    refine hfF.out.mono ?_
    rintro e w1 ⟨rfl, k1⟩
    have c1 := k1.cell hc (by simp)
    have d0 := k1.cell q0 (by simp)
    have d1 := k1.cell q1 (by simp)
    have K1 := hide k1
    clear hfF hc q0 q1 k1
    go_wp2_with fail
    go_big_region
    go_wp2_with fail
    go_ret3
    exact ⟨rfl, by first | exact K1.out | exact K1.out.drew | exact K1.out.drewN _⟩
end Go.Proofs.Ytdgmfcnblaamcaa.Sc
