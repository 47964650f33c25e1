
/-
  No statement of the program: facts on runs that are rising and apart, as functions; where a run finds room, and what is told of a page.
-/
import Derived.Test.YtdgmfcnblaamcaaSpc10
namespace Go.Proofs.Ytdgmfcnblaamcaa.Sc

/-- Runs that are rising and apart, of pages from 1 to 4095. -/
def Apart (n : Nat) (F C : Nat → Nat) : Prop := ∀ i, i < n → fstAt F C i ≤ F i ∧ 1 ≤ C i ∧ F i + C i ≤ 4096
theorem Apart.low {n : Nat} {F C : Nat → Nat} (h : Apart n F C) : ∀ k, k ≤ n → k + 1 ≤ fstAt F C k
  | 0, _ => Nat.le_refl _
  | k + 1, hk => by
    have h1 := h k (by omega)
    have h2 := h.low k (by omega)
    show k + 1 + 1 ≤ F k + C k
    omega
theorem Apart.high {n : Nat} {F C : Nat → Nat} (h : Apart n F C) : ∀ k, k ≤ n → fstAt F C k ≤ 4096
  | 0, _ => by show 1 ≤ 4096; omega
  | k + 1, hk => (h k (by omega)).2.2
theorem Apart.le {n : Nat} {F C : Nat → Nat} (h : Apart n F C) : n ≤ 4095 := by
  have := h.low n (Nat.le_refl _)
  have := h.high n (Nat.le_refl _)
  omega
theorem Apart.far {n : Nat} {F C : Nat → Nat} (h : Apart n F C) {i : Nat} : ∀ j, i < j → j < n → F i + C i ≤ F j
  | 0, h1, _ => by omega
  | j + 1, h1, h2 => by
    have h3 := (h (j + 1) h2).1
    have h5 : fstAt F C (j + 1) = F j + C j := rfl
    rw [h5] at h3
    by_cases e : i = j
    · subst e; exact h3
    · have := h.far (i := i) j (by omega) (by omega); have := (h j (by omega)).2.1; omega
theorem Apart.mono {n : Nat} {F C : Nat → Nat} (h : Apart n F C) : ∀ i j, i < j → j < n → F i < F j := fun i j h1 h2 => by
  have := h.far j h1 h2
  have := (h i (by omega)).2.1
  omega
theorem Apart.sum {n : Nat} {F C : Nat → Nat} (h : Apart n F C) : ∀ k, k ≤ n → sumC C k + 1 ≤ fstAt F C k
  | 0, _ => Nat.le_refl _
  | k + 1, hk => by
    have h1 := h k (by omega)
    have h2 := h.sum k (by omega)
    show sumC C k + C k + 1 ≤ F k + C k
    omega
theorem Apart.few {n : Nat} {F C : Nat → Nat} (h : Apart n F C) : ∀ k, k ≤ n → sumC C k ≤ 4095 := fun k hk => by
  have := h.sum k hk
  have := h.high k hk
  omega
/-- k is where so many pages find room first. -/
def Fit (n : Nat) (F C : Nat → Nat) (need k : Nat) : Prop := k ≤ n ∧ (k < n → fstAt F C k + need ≤ F k) ∧ ∀ i, i < k → ¬ fstAt F C i + need ≤ F i
theorem Fit.only {n need k k' : Nat} {F C : Nat → Nat} (h : Fit n F C need k) (h' : Fit n F C need k') : k = k' := by
  obtain ⟨a1, a2, a3⟩ := h
  obtain ⟨b1, b2, b3⟩ := h'
  by_cases h1 : k < k'
  · exact absurd (a2 (by omega)) (b3 k h1)
  · by_cases h2 : k' < k
    · exact absurd (b2 (by omega)) (a3 k' h2)
    · omega
theorem Fit.some (n : Nat) (F C : Nat → Nat) (need : Nat) : ∃ k, Fit n F C need k := by
  have key : ∀ m, m ≤ n → (∃ k, k < m ∧ Fit n F C need k) ∨ ∀ i, i < m → ¬ fstAt F C i + need ≤ F i := by
    intro m
    induction m with
    | zero => exact fun _ => .inr (fun i hi => absurd hi (Nat.not_lt_zero _))
    | succ m ih =>
      intro hm
      rcases ih (by omega) with ⟨k, h1, h2⟩ | h
      · exact .inl ⟨k, by omega, h2⟩
      · by_cases hf : fstAt F C m + need ≤ F m
        · exact .inl ⟨m, by omega, by omega, fun _ => hf, h⟩
        · refine .inr (fun i hi => ?_)
          by_cases e : i = m
          · subst e; exact hf
          · exact h i (by omega)
  rcases key n (Nat.le_refl _) with ⟨k, -, h⟩ | h
  · exact ⟨k, h⟩
  · exact ⟨n, Nat.le_refl _, fun h => absurd h (Nat.lt_irrefl _), h⟩
theorem fstAt_ins {F C : Nat → Nat} {k q c : Nat} (j : Nat) : fstAt (ins F k q) (ins C k c) j = if j ≤ k then fstAt F C j else if j = k + 1 then q + c else fstAt F C (j - 1) := by
  cases j with
  | zero => rfl
  | succ j =>
    show ins F k q j + ins C k c j = _
    unfold ins
    by_cases h1 : j < k
    · rw [if_pos h1, if_pos h1, if_pos (by omega)]; rfl
    · rw [if_neg h1, if_neg h1]
      by_cases h2 : j = k
      · rw [if_pos h2, if_pos h2, if_neg (by omega), if_pos (by omega)]
      · rw [if_neg h2, if_neg h2, if_neg (by omega), if_neg (by omega)]
        obtain ⟨i, rfl⟩ : ∃ i, j = i + 1 := ⟨j - 1, by omega⟩
        rfl
theorem fstAt_del {F C : Nat → Nat} {k : Nat} (j : Nat) : fstAt (del F k) (del C k) j = if j ≤ k then fstAt F C j else fstAt F C (j + 1) := by
  cases j with
  | zero => rfl
  | succ j =>
    show del F k j + del C k j = _
    unfold del
    by_cases h1 : j < k
    · rw [if_pos h1, if_pos h1, if_pos (by omega)]; rfl
    · rw [if_neg h1, if_neg h1, if_neg (by omega)]; rfl
theorem Apart.put {n need k : Nat} {F C : Nat → Nat} (h : Apart n F C) (hk : Fit n F C need k) (h1 : 1 ≤ need) (hr : fstAt F C k + need ≤ 4096) : Apart (n + 1) (ins F k (fstAt F C k)) (ins C k need) := by
  intro i hi
  obtain ⟨a1, a2, a3⟩ := hk
  rw [fstAt_ins]
  unfold ins
  by_cases e1 : i < k
  · rw [if_pos e1, if_pos e1, if_pos (by omega)]; exact h i (by omega)
  · rw [if_neg e1, if_neg e1]
    by_cases e2 : i = k
    · rw [if_pos e2, if_pos e2, if_pos (by omega), e2]; exact ⟨Nat.le_refl _, h1, hr⟩
    · rw [if_neg e2, if_neg e2, if_neg (by omega)]
      have h3 := h (i - 1) (by omega)
      refine ⟨?_, h3.2⟩
      by_cases e3 : i = k + 1
      · rw [if_pos e3]
        subst e3
        exact a2 (by omega)
      · rw [if_neg e3]; exact h3.1
theorem Apart.drop {n k : Nat} {F C : Nat → Nat} (h : Apart n F C) (hk : k < n) : Apart (n - 1) (del F k) (del C k) := by
  intro i hi
  rw [fstAt_del]
  unfold del
  by_cases e1 : i < k
  · rw [if_pos e1, if_pos e1, if_pos (by omega)]; exact h i (by omega)
  · rw [if_neg e1, if_neg e1]
    have h1 := h (i + 1) (by omega)
    by_cases e2 : i ≤ k
    · rw [if_pos e2]
      have e3 : i = k := by omega
      subst e3
      have h2 := h i (by omega)
      have h3 := h.far (i := i) (i + 1) (by omega) (show i + 1 < n by omega)
      exact ⟨by omega, h1.2⟩
    · rw [if_neg e2]; exact h1
/-- A run that begins at the page is found, and no other one. -/
theorem hit_at {n k : Nat} {F C : Nat → Nat} (h : Apart n F C) (hk : k < n) : kOf F n (F k) = k ∧ hitB F n (F k) = true := by
  have hi := fun i hi => kOf_iff (page := (F k : Int)) h.mono i hi
  have h0 := kOf_le F n (F k)
  have e : kOf F n (F k) = k := by
    have a2 : ¬ k < kOf F n (F k) := fun h => by have := (hi k hk).2 h; omega
    by_cases h3 : kOf F n (F k) < k
    · have a4 := (hi _ (show kOf F n (F k) < n by omega)).1 (by have := h.mono _ _ h3 hk; omega)
      omega
    · omega
  refine ⟨e, ?_⟩
  unfold hitB
  rw [e]
  exact decide_eq_true ⟨hk, rfl⟩
theorem hit_none {n : Nat} {F : Nat → Nat} {page : Int} (h : ∀ i, i < n → (F i : Int) ≠ page) : hitB F n page = false := decide_eq_false (fun hh => h _ hh.1 hh.2)
theorem hit_get {n : Nat} {F : Nat → Nat} {page : Int} (h : hitB F n page = true) : kOf F n page < n ∧ (F (kOf F n page) : Int) = page := of_decide_eq_true h
end Go.Proofs.Ytdgmfcnblaamcaa.Sc
