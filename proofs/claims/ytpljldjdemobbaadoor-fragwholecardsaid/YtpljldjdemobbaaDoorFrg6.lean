
/-
  No statement of the program: a buddy of which all frames, and then every second one, are used; powers of two as the walk meets them, over this seat's translation.
-/
import Derived.Test.YtpljldjdemobbaaDoorFrg5
namespace Go.Proofs.YtpljldjdemobbaaDoor.By
open Go.ChangeShapes Go.WideShapes Go.ChangeAt Go.RowKit
theorem top_of {K : Nat} {u : Nat → Bool} (hK : K ≤ 10) (hout : ∀ i, 2 ^ K ≤ i → u i = true) (i : Nat) : ∀ d j, j + d = 11 → Fr u (i / 2 ^ j) j → ∃ j' b, j ≤ j' ∧ j' ≤ 10 ∧ Top u j' b
  | 0, j, e, h => by
    have h1 := block_in hout h
    obtain rfl : j = 11 := by omega
    have h2 := n1024 hK
    have h3 : 2 ^ 11 ≤ (i / 2 ^ 11 + 1) * 2 ^ 11 := Nat.le_mul_of_pos_left _ (by omega)
    have : (2 : Nat) ^ 11 = 2048 := rfl
    omega
  | d + 1, j, e, h => by
    by_cases h2 : Fr u (i / 2 ^ (j + 1)) (j + 1)
    · obtain ⟨j', b, h3, h4, h5⟩ := top_of hK hout i d (j + 1) (by omega) h2
      exact ⟨j', b, by omega, h4, h5⟩
    · exact ⟨j, i / 2 ^ j, Nat.le_refl _, by omega, h, by rw [div_one]; exact h2⟩
theorem BS.full {w : World} {p K : Nat} {u : Nat → Bool} {tk : Nat → Nat} {F : List Nat} (h : BS w p K u tk 0 F) : ∀ i, u i = true := fun i => by
  by_cases hi : 2 ^ K ≤ i
  · exact h.out i hi
  · cases hu : u i with
    | true => rfl
    | false =>
      have hfr : Fr u (i / 2 ^ 0) 0 := fun j hj => by
        have : j = i := by simpa using hj
        rw [this]; exact hu
      obtain ⟨j, b, -, h1, h2⟩ := top_of h.k10 h.out i 11 0 rfl hfr
      have hn := (h.nun_iff (o := 0) (by omega)).2 (by
        have h3 := h.tsum
        rw [tsum_fit (o := 0) (by omega)] at h3
        simp at h3; exact h3.2)
      exact absurd h2 (hn j b (by omega) h1)
theorem BS.ones {w : World} {p K : Nat} {u : Nat → Bool} {tk : Nat → Nat} {F : List Nat} (h : BS w p K u tk 0 F) (h1 : ∀ a, a < 2 ^ K → tk a ≤ 1) : ∀ a, a < 2 ^ K → tk a = 1 := fun a ha => by
  obtain ⟨b, o, hb, ht, he⟩ := h.tok.cov a ha (h.full a)
  have := h1 b hb
  obtain rfl : o = 0 := by omega
  obtain rfl : a = b := by simpa using he
  exact ht
/-- All used but the even ones below 2 m. -/
def ev (m : Nat) : Nat → Bool := fun i => !(decide (i < 2 * m) && i % 2 == 0)
theorem ev_next (m : Nat) : upd (ev m) (2 * m / 2 ^ 0) 0 false = ev (m + 1) := by
  funext i
  unfold upd ev
  simp only [Nat.pow_zero, Nat.div_one]
  by_cases h : i = 2 * m
  · subst h; simp
  · rw [if_neg h]
    by_cases h2 : i % 2 = 0
    · have : decide (i < 2 * m) = decide (i < 2 * (m + 1)) := by
        by_cases h3 : i < 2 * m
        · rw [decide_eq_true h3, decide_eq_true (by omega)]
        · rw [decide_eq_false h3, decide_eq_false (by omega)]
      rw [this]
    · have : (i % 2 == 0) = false := by simpa using h2
      simp [this]
theorem ev_zero : (fun _ => true) = ev 0 := by
  funext i
  simp [ev]
theorem ev_top {m j b : Nat} (hj : 1 ≤ j) : ¬ Top (ev m) j b := fun h => by
  have h1 := h.1 (b * 2 ^ j + 1) (by
    have h2 : 2 ≤ 2 ^ j := by
      have := pow_le hj
      simpa using this
    rw [blk_iff]
    omega)
  have h3 : (b * 2 ^ j + 1) % 2 = 1 := by
    obtain ⟨d, rfl⟩ : ∃ d, j = d + 1 := ⟨j - 1, by omega⟩
    rw [Nat.pow_succ, ← Nat.mul_assoc]
    omega
  simp [ev, h3] at h1
theorem tsum_zero {u : Nat → Bool} : ∀ {k}, (∀ j, j < k → tops u j = 0) → tsum u k = 0
  | 0, _ => rfl
  | k + 1, h => by rw [tsum_succ, tsum_zero (fun j hj => h j (by omega)), h k (by omega)]; simp
theorem best_at {T : Nat → Nat} {k : Nat} (h0 : 0 < T k) : ∀ n, k < n → (∀ j, k < j → j < n → T j = 0) → best T n = (k : Int)
  | 0, h, _ => by omega
  | n + 1, h, hz => by
    unfold best
    by_cases e : k = n
    · subst e; rw [if_pos h0]
    · rw [if_neg (by have := hz n (by omega) (by omega); omega)]
      exact best_at h0 n (by omega) (fun j h1 h2 => hz j h1 (by omega))
theorem shl2 {k : Nat} (hk : k ≤ 10) : IntKind.i64.wrap ((2 : Int) ^ k) = ((2 ^ k : Nat) : Int) := by
  have e1 : (2 : Int) ^ k = ((2 ^ k : Nat) : Int) := by simp
  rw [e1]
  have hp := n1024 hk
  generalize 2 ^ k = y at hp ⊢
  rw [IntKind.wrap_i64]; omega
theorem nums {k k0 m : Nat} (hE : k = k0 + 1) (hH : m = 2 ^ k0) (h : k0 < 8) : (k = 1 ∧ m = 1) ∨ (k = 2 ∧ m = 2) ∨ (k = 3 ∧ m = 4) ∨ (k = 4 ∧ m = 8) ∨ (k = 5 ∧ m = 16) ∨ (k = 6 ∧ m = 32) ∨ (k = 7 ∧ m = 64) ∨ (k = 8 ∧ m = 128) := by
  subst hE hH
  rcases (show k0 = 0 ∨ k0 = 1 ∨ k0 = 2 ∨ k0 = 3 ∨ k0 = 4 ∨ k0 = 5 ∨ k0 = 6 ∨ k0 = 7 by omega) with e | e | e | e | e | e | e | e <;> subst e <;> decide
theorem tops0 {K : Nat} (hK : K ≤ 10) (j : Nat) (hj : j < 11) : tops (u0 K) j = if j = K then 1 else 0 := by
  rw [((ls0 hK).lo j hj).tops]
  by_cases e : j = K
  · rw [if_pos e, if_pos e]; rfl
  · rw [if_neg e, if_neg e]; rfl
theorem ev_facts {w : World} {p k m : Nat} {tk : Nat → Nat} {G : List Nat} (h : BS w p k (ev m) tk m G) (hm : m ≠ 0) (o : Nat) (h1 : 1 ≤ o) (h10 : o ≤ 10) :
    tsum (ev m) o * 1000 / m = 1000 ∧ tsum (ev m) 0 * 1000 / m = 0 ∧ best (tops (ev m)) 11 = 0 ∧ fits (tops (ev m)) 0 (11 - 0) = m ∧ fits (tops (ev m)) o (11 - o) = 0 := by
  have hz : ∀ j, 1 ≤ j → j < 11 → tops (ev m) j = 0 := fun j h1 h2 => by
    obtain ⟨l, hl⟩ := h.list (j := j) (by omega)
    rw [hl.tops, hl.nil (fun b => ev_top h1)]; rfl
  have hs := h.tsum
  have t0 : tsum (ev m) 0 = 0 := rfl
  have t1 : tsum (ev m) 1 = tops (ev m) 0 := by rw [tsum_succ, t0]; simp
  have e1 : tsum (ev m) 1 = m := by
    have h2 := tsum_fits (ev m) 1 10
    rw [(fits_zero (d := 10)).2 (fun j h3 h4 => hz j h3 (by omega))] at h2
    have h3 : tsum (ev m) (1 + 10) = m := hs
    omega
  have es : tsum (ev m) o = m := by
    obtain ⟨d, hd⟩ : ∃ d, o = 1 + d := ⟨o - 1, by omega⟩
    rw [hd, tsum_fits, (fits_zero (d := d)).2 (fun j h3 h4 => hz j h3 (by omega)), e1]
    simp
  have hb := best_at (T := tops (ev m)) (k := 0) (by rw [← t1, e1]; omega) 11 (by omega) (fun j h3 h4 => hz j (by omega) h4)
  refine ⟨?_, ?_, ?_, ?_, (fits_zero (d := 11 - o)).2 (fun j h3 h4 => hz j (by omega) (by omega))⟩
  · rw [es]
    exact Nat.mul_div_cancel_left _ (by omega)
  · rw [t0]; simp
  · rw [hb]; rfl
  · have h2 := tsum_fits (ev m) 0 11
    have h3 : tsum (ev m) (0 + 11) = m := by rw [Nat.zero_add]; exact hs
    rw [h3, t0] at h2
    simp at h2
    exact h2.symm
end Go.Proofs.YtpljldjdemobbaaDoor.By
