
/-
  No statement of the program: frames in runs, halved and put together, as plain numbers. 'u i': frame i is used (so is every frame that there isn't). Block q of order j is the frames i with i / 2 ^ j = q.
-/
import Derived.WalkKit
namespace Go.Proofs.YtpljldjdemobbaaDoor.By

def Fr (u : Nat → Bool) (q j : Nat) : Prop := ∀ i, i / 2 ^ j = q → u i = false
def Top (u : Nat → Bool) (j q : Nat) : Prop := Fr u q j ∧ ¬ Fr u (q / 2) (j + 1)
def upd (u : Nat → Bool) (a o : Nat) (b : Bool) : Nat → Bool := fun i => if i / 2 ^ o = a then b else u i
def sib (a : Nat) : Nat := if a % 2 = 0 then a + 1 else a - 1
def Full (u : Nat → Bool) (a o : Nat) : Prop := ∀ i, i / 2 ^ o = a → u i = true

theorem two_pos (j : Nat) : 0 < 2 ^ j := Nat.pow_pos (by decide)
theorem div_up {i j o : Nat} (h : j ≤ o) : i / 2 ^ j / 2 ^ (o - j) = i / 2 ^ o := by
  rw [Nat.div_div_eq_div_mul, ← Nat.pow_add, Nat.add_sub_cancel' h]
theorem div_one (i j : Nat) : i / 2 ^ j / 2 = i / 2 ^ (j + 1) := by
  rw [Nat.div_div_eq_div_mul, ← Nat.pow_succ]
theorem mul_div (q j : Nat) : q * 2 ^ j / 2 ^ j = q := Nat.mul_div_cancel _ (two_pos j)
theorem sib_div (a : Nat) : sib a / 2 = a / 2 := by unfold sib; split <;> omega
theorem sib_ne (a : Nat) : sib a ≠ a := by unfold sib; split <;> omega
theorem sib_sib (a : Nat) : sib (sib a) = a := by unfold sib; split <;> (split <;> omega)
theorem Fr.of_up {u : Nat → Bool} {q j : Nat} (h : Fr u (q / 2) (j + 1)) : Fr u q j := fun i hi => h i (by rw [← div_one, hi])
theorem Fr.not_full {u : Nat → Bool} {q j : Nat} (h : Fr u q j) (f : Full u q j) : False := by
  have h1 := h (q * 2 ^ j) (mul_div q j)
  have h2 := f (q * 2 ^ j) (mul_div q j)
  rw [h1] at h2; cases h2
theorem Fr.up {u : Nat → Bool} {q j o : Nat} (ho : j ≤ o) (h : Fr u (q / 2 ^ (o - j)) o) : Fr u q j := fun i hi => h i (by rw [← div_up ho, hi])
theorem Full.up {u : Nat → Bool} {q j o : Nat} (ho : j ≤ o) (h : Full u (q / 2 ^ (o - j)) o) : Full u q j := fun i hi => h i (by rw [← div_up ho, hi])

theorem upd_in {u : Nat → Bool} {a o i : Nat} {b : Bool} (h : i / 2 ^ o = a) : upd u a o b i = b := by unfold upd; rw [if_pos h]
theorem upd_out {u : Nat → Bool} {a o i : Nat} {b : Bool} (h : ¬ i / 2 ^ o = a) : upd u a o b i = u i := by unfold upd; rw [if_neg h]
theorem upd_full (u : Nat → Bool) (a o : Nat) : Full (upd u a o true) a o := fun _ h => upd_in h
theorem upd_fr (u : Nat → Bool) (a o : Nat) : Fr (upd u a o false) a o := fun _ h => upd_in h
theorem upd_back {u : Nat → Bool} {a o : Nat} (h : Full u a o) : upd (upd u a o false) a o true = u := by
  funext i
  by_cases hi : i / 2 ^ o = a
  · rw [upd_in hi, h i hi]
  · rw [upd_out hi, upd_out hi]
theorem upd_forth {u : Nat → Bool} {a o : Nat} (h : Fr u a o) : upd (upd u a o true) a o false = u := by
  funext i
  by_cases hi : i / 2 ^ o = a
  · rw [upd_in hi, h i hi]
  · rw [upd_out hi, upd_out hi]

theorem fr_upd {u : Nat → Bool} {a o : Nat} (hs : ¬ Fr u (sib a) o) (q j : Nat) : Fr (upd u a o false) q j ↔ Fr u q j ∨ (j ≤ o ∧ q / 2 ^ (o - j) = a) := by
  constructor
  · intro h
    by_cases hsub : j ≤ o ∧ q / 2 ^ (o - j) = a
    · exact .inr hsub
    · refine .inl fun i hi => ?_
      by_cases hia : i / 2 ^ o = a
      · exfalso
        have hjo : ¬ j ≤ o := fun hjo => hsub ⟨hjo, by rw [← hi, div_up hjo]; exact hia⟩
        apply hs
        intro k hk
        have hkq : k / 2 ^ j = q := by
          rw [← hi, ← div_up (show o + 1 ≤ j by omega), ← div_up (i := i) (show o + 1 ≤ j by omega), ← div_one, ← div_one, hk, hia, sib_div]
        have := h k hkq
        rwa [upd_out (by rw [hk]; exact sib_ne a)] at this
      · have := h i hi
        rwa [upd_out hia] at this
  · rintro (h | ⟨hjo, h⟩)
    · intro i hi
      by_cases hia : i / 2 ^ o = a
      · exact upd_in hia
      · rw [upd_out hia]; exact h i hi
    · intro i hi
      exact upd_in (by rw [← div_up hjo, hi]; exact h)

theorem top_upd {u : Nat → Bool} {a o : Nat} (hf : Full u a o) (hs : ¬ Fr u (sib a) o) (j q : Nat) : Top (upd u a o false) j q ↔ Top u j q ∨ (j = o ∧ q = a) := by
  unfold Top
  rw [fr_upd hs, fr_upd hs]
  by_cases hsub : j ≤ o ∧ q / 2 ^ (o - j) = a
  · have hnf : ¬ Fr u q j := fun h => h.not_full (Full.up hsub.1 (by rw [hsub.2]; exact hf))
    have hnp : ¬ Fr u (q / 2) (j + 1) := fun h => hnf h.of_up
    by_cases hjo : j = o
    · subst hjo
      have : q = a := by simpa using hsub.2
      subst this
      have : ¬ (j + 1 ≤ j ∧ q / 2 / 2 ^ (j - (j + 1)) = q) := by omega
      simp only [hnf, hnp, hsub, this, or_false, false_or, not_false_eq_true, and_true]
    · have h2 : j + 1 ≤ o ∧ q / 2 / 2 ^ (o - (j + 1)) = a := by
        refine ⟨by omega, ?_⟩
        rw [Nat.div_div_eq_div_mul, show 2 * 2 ^ (o - (j + 1)) = 2 ^ (o - j) by rw [← Nat.pow_succ']; congr 1; omega]
        exact hsub.2
      constructor
      · rintro ⟨_, h⟩; exact absurd (.inr h2) h
      · rintro (⟨h, _⟩ | ⟨h, _⟩)
        · exact absurd h hnf
        · exact absurd h hjo
  · have h2 : ¬ (j + 1 ≤ o ∧ q / 2 / 2 ^ (o - (j + 1)) = a) := by
      rintro ⟨h3, h4⟩
      apply hsub
      refine ⟨by omega, ?_⟩
      rw [Nat.div_div_eq_div_mul, show 2 * 2 ^ (o - (j + 1)) = 2 ^ (o - j) by rw [← Nat.pow_succ']; congr 1; omega] at h4
      exact h4
    have h3 : ¬ (j = o ∧ q = a) := by
      rintro ⟨rfl, rfl⟩
      exact hsub ⟨Nat.le_refl _, by simp⟩
    simp only [hsub, h2, h3, or_false]

/-- The sorted list of the first frames of the free runs of an order. -/
structure Lo (u : Nat → Bool) (j : Nat) (l : List Nat) : Prop where
  sorted : l.Pairwise (· < ·)
  mem : ∀ x, x ∈ l ↔ ∃ q, x = q * 2 ^ j ∧ Top u j q

theorem sorted_ext : ∀ {l m : List Nat}, l.Pairwise (· < ·) → m.Pairwise (· < ·) → (∀ x, x ∈ l ↔ x ∈ m) → l = m
  | [], [], _, _, _ => rfl
  | [], y :: m, _, _, h => absurd ((h y).2 (by simp)) (by simp)
  | x :: l, [], _, _, h => absurd ((h x).1 (by simp)) (by simp)
  | x :: l, y :: m, hl, hm, h => by
    have hl' := List.pairwise_cons.1 hl
    have hm' := List.pairwise_cons.1 hm
    have exy : x = y := by
      rcases List.mem_cons.1 ((h x).1 (by simp)) with e | e
      · exact e
      · rcases List.mem_cons.1 ((h y).2 (by simp)) with e2 | e2
        · exact e2.symm
        · have := hm'.1 x e; have := hl'.1 y e2; omega
    subst exy
    congr 1
    refine sorted_ext hl'.2 hm'.2 fun z => ⟨fun hz => ?_, fun hz => ?_⟩
    · rcases List.mem_cons.1 ((h z).1 (List.mem_cons_of_mem _ hz)) with e | e
      · subst e; exact absurd (hl'.1 z hz) (Nat.lt_irrefl _)
      · exact e
    · rcases List.mem_cons.1 ((h z).2 (List.mem_cons_of_mem _ hz)) with e | e
      · subst e; exact absurd (hm'.1 z hz) (Nat.lt_irrefl _)
      · exact e
theorem Lo.unique {u : Nat → Bool} {j : Nat} {l m : List Nat} (h : Lo u j l) (k : Lo u j m) : l = m :=
  sorted_ext h.sorted k.sorted fun x => (h.mem x).trans (k.mem x).symm
theorem mul_inj {q a j : Nat} (h : q * 2 ^ j = a * 2 ^ j) : q = a := Nat.eq_of_mul_eq_mul_right (two_pos j) h

/-- What becomes of the lists when a used block is free again and the other half of its parent isn't. -/
theorem Lo.put {u : Nat → Bool} {a o : Nat} (hf : Full u a o) (hs : ¬ Fr u (sib a) o) {l l' : List Nat} (h : Lo u o l) (hs' : l'.Pairwise (· < ·)) (hm : ∀ x, x ∈ l' ↔ x = a * 2 ^ o ∨ x ∈ l) : Lo (upd u a o false) o l' := by
  refine ⟨hs', fun x => ?_⟩
  rw [hm, h.mem]
  constructor
  · rintro (rfl | ⟨q, rfl, hq⟩)
    · exact ⟨a, rfl, (top_upd hf hs _ _).2 (.inr ⟨rfl, rfl⟩)⟩
    · exact ⟨q, rfl, (top_upd hf hs _ _).2 (.inl hq)⟩
  · rintro ⟨q, rfl, hq⟩
    rcases (top_upd hf hs _ _).1 hq with hq | ⟨_, rfl⟩
    · exact .inr ⟨q, rfl, hq⟩
    · exact .inl rfl
theorem Lo.other {u : Nat → Bool} {a o : Nat} (hf : Full u a o) (hs : ¬ Fr u (sib a) o) {j : Nat} (hj : j ≠ o) {l : List Nat} : Lo (upd u a o false) j l ↔ Lo u j l := by
  have key : ∀ q, Top (upd u a o false) j q ↔ Top u j q := fun q => by rw [top_upd hf hs]; simp [hj]
  constructor
  · intro h
    exact ⟨h.sorted, fun x => (h.mem x).trans ⟨fun ⟨q, e, t⟩ => ⟨q, e, (key q).1 t⟩, fun ⟨q, e, t⟩ => ⟨q, e, (key q).2 t⟩⟩⟩
  · intro h
    exact ⟨h.sorted, fun x => (h.mem x).trans ⟨fun ⟨q, e, t⟩ => ⟨q, e, (key q).2 t⟩, fun ⟨q, e, t⟩ => ⟨q, e, (key q).1 t⟩⟩⟩
/-- .. and when a free run is used. -/
theorem Lo.cut {u : Nat → Bool} {a o : Nat} (ht : Top u o a) {l l' : List Nat} (h : Lo u o l) (hs' : l'.Pairwise (· < ·)) (hm : ∀ x, x ∈ l' ↔ x ∈ l ∧ x ≠ a * 2 ^ o) : Lo (upd u a o true) o l' := by
  have hsib : ¬ Fr (upd u a o true) (sib a) o := by
    intro hf
    apply ht.2
    intro i hi
    by_cases hia : i / 2 ^ o = a
    · exact ht.1 i hia
    · have hi2 : i / 2 ^ o = sib a := by
        rw [← div_one] at hi
        unfold sib; split <;> omega
      have := hf i hi2
      rwa [upd_out hia] at this
  refine ⟨hs', fun x => ?_⟩
  have key := fun q => top_upd (upd_full u a o) hsib o q
  rw [upd_forth ht.1] at key
  rw [hm, h.mem]
  constructor
  · rintro ⟨⟨q, rfl, hq⟩, hne⟩
    refine ⟨q, rfl, ?_⟩
    rcases (key q).1 hq with h1 | ⟨_, rfl⟩
    · exact h1
    · exact absurd rfl hne
  · rintro ⟨q, rfl, hq⟩
    refine ⟨⟨q, rfl, (key q).2 (.inl hq)⟩, fun e => ?_⟩
    have := mul_inj e
    subst this
    exact hq.1.not_full (upd_full u q o)
theorem Lo.cut_other {u : Nat → Bool} {a o : Nat} (ht : Top u o a) {j : Nat} (hj : j ≠ o) {l : List Nat} : Lo (upd u a o true) j l ↔ Lo u j l := by
  have hsib : ¬ Fr (upd u a o true) (sib a) o := by
    intro hf
    apply ht.2
    intro i hi
    by_cases hia : i / 2 ^ o = a
    · exact ht.1 i hia
    · have hi2 : i / 2 ^ o = sib a := by
        rw [← div_one] at hi
        unfold sib; split <;> omega
      have := hf i hi2
      rwa [upd_out hia] at this
  have := Lo.other (upd_full u a o) hsib hj (l := l)
  rw [upd_forth ht.1] at this
  exact this.symm
end Go.Proofs.YtpljldjdemobbaaDoor.By
