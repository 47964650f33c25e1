
/-
  No statement of the program: how many free runs of each order a buddy has, as numbers: their sum, and what a Take leaves of them, over this seat's translation.
-/
import Derived.Test.YtpljldjdemobbaaDoorBBoth
namespace Go.Proofs.YtpljldjdemobbaaDoor.By
open Go.RowKit
open Classical in
/-- How many free runs of an order there are. -/
noncomputable def tops (u : Nat → Bool) (j : Nat) : Nat := if h : ∃ l, Lo u j l then h.choose.length else 0
theorem Lo.tops {u : Nat → Bool} {j : Nat} {l : List Nat} (h : Lo u j l) : tops u j = l.length := by
  unfold By.tops
  have hx : ∃ l, Lo u j l := ⟨l, h⟩
  rw [dif_pos hx]
  exact congrArg _ (hx.choose_spec.unique h)
/-- The frames in free runs of orders below k. -/
noncomputable def tsum (u : Nat → Bool) : Nat → Nat
  | 0 => 0
  | k + 1 => tsum u k + tops u k * 2 ^ k
theorem tsum_succ (u : Nat → Bool) (k : Nat) : tsum u (k + 1) = tsum u k + tops u k * 2 ^ k := rfl
theorem Ls.tsum {K f : Nat} {u : Nat → Bool} {L : Nat → List Nat} (h : Ls K u f L) : ∀ k, k ≤ 11 → tsum u k = sumTo L k
  | 0, _ => rfl
  | k + 1, hk => by
    show By.tsum u k + By.tops u k * 2 ^ k = sumTo L k + (L k).length * 2 ^ k
    rw [Ls.tsum h k (by omega), (h.lo k (by omega)).tops]
theorem tsum_mono (u : Nat → Bool) {a : Nat} : ∀ d, tsum u a ≤ tsum u (a + d)
  | 0 => Nat.le_refl _
  | d + 1 => Nat.le_trans (tsum_mono u d) (Nat.le_add_right _ _)
/-- How many runs of order o there may be, of the first d orders from it on. -/
def fits (T : Nat → Nat) (o : Nat) : Nat → Nat
  | 0 => 0
  | d + 1 => fits T o d + T (o + d) * 2 ^ d
theorem fits_succ (T : Nat → Nat) (o d : Nat) : fits T o (d + 1) = fits T o d + T (o + d) * 2 ^ d := rfl
theorem fits_le (T : Nat → Nat) (o : Nat) (hT : ∀ j, j < 11 → T j ≤ 1024) : ∀ d, o + d ≤ 11 → fits T o d + 1024 ≤ 1024 * 2 ^ d
  | 0, _ => by simp [fits]
  | d + 1, h => by
    have ih := fits_le T o hT d (by omega)
    have h1 : T (o + d) * 2 ^ d ≤ 1024 * 2 ^ d := Nat.mul_le_mul_right _ (hT _ (by omega))
    rw [fits_succ, Nat.pow_succ, ← Nat.mul_assoc, Nat.mul_two]
    omega
theorem tsum_fits (u : Nat → Bool) (o : Nat) : ∀ d, tsum u (o + d) = tsum u o + fits (tops u) o d * 2 ^ o
  | 0 => by simp [fits]
  | d + 1 => by
    show tsum u (o + d) + tops u (o + d) * 2 ^ (o + d) = _
    rw [tsum_fits u o d, fits_succ, Nat.add_mul, Nat.add_assoc]
    congr 2
    rw [Nat.pow_add, Nat.mul_assoc, Nat.mul_comm (2 ^ d)]
theorem fits_down (T : Nat → Nat) (o : Nat) : ∀ d, fits T o (d + 1) = T o + 2 * fits T (o + 1) d
  | 0 => by simp [fits]
  | d + 1 => by
    rw [fits_succ, fits_down T o d, fits_succ, show o + (d + 1) = o + 1 + d by omega, Nat.pow_succ, Nat.mul_add, ← Nat.mul_assoc, Nat.mul_comm _ 2, Nat.add_assoc]
/-- How many runs of order o can be taken. -/
noncomputable def fit (u : Nat → Bool) (o : Nat) : Nat := fits (tops u) o (11 - o)
theorem tsum_fit {u : Nat → Bool} {o : Nat} (ho : o ≤ 11) : tsum u 11 = tsum u o + fit u o * 2 ^ o := by
  have := tsum_fits u o (11 - o)
  rwa [show o + (11 - o) = 11 by omega] at this
theorem fit_half {u : Nat → Bool} {o : Nat} (ho : o ≤ 10) : fit u o = tops u o + 2 * fit u (o + 1) := by
  unfold fit
  rw [show 11 - o = 10 - o + 1 by omega, fits_down, show 11 - (o + 1) = 10 - o by omega]
section
variable {w : World} {p K f : Nat} {u : Nat → Bool} {tk : Nat → Nat} {F : List Nat}
theorem BS.tsum (h : BS w p K u tk f F) : By.tsum u 11 = f := by
  obtain ⟨L, tb, V, hB, hL, hT, rfl⟩ := h
  rw [hL.tsum 11 (by omega), hL.sum]
theorem BS.tops_le (h : BS w p K u tk f F) {j : Nat} (hj : j ≤ 10) : tops u j ≤ 1024 := by
  obtain ⟨L, tb, V, hB, hL, hT, rfl⟩ := h
  have hn := n1024 hL.k10
  rw [(hL.lo j (by omega)).tops]
  have := (hL.lo j (by omega)).len hL.out
  omega
theorem BS.list (h : BS w p K u tk f F) {j : Nat} (hj : j ≤ 10) : ∃ l, Lo u j l := by
  obtain ⟨L, tb, V, hB, hL, hT, rfl⟩ := h
  exact ⟨_, hL.lo j (by omega)⟩
theorem fits_zero {T : Nat → Nat} {o : Nat} : ∀ {d}, fits T o d = 0 ↔ ∀ j, o ≤ j → j < o + d → T j = 0
  | 0 => by simp [fits]; intro j h1 h2; omega
  | d + 1 => by
    rw [fits_succ, Nat.add_eq_zero_iff, fits_zero, Nat.mul_eq_zero]
    have := two_pos d
    constructor
    · rintro ⟨h1, h2⟩ j h3 h4
      by_cases e : j = o + d
      · rw [e]; omega
      · exact h1 j h3 (by omega)
    · intro h
      exact ⟨fun j h1 h2 => h j h1 (by omega), .inl (h _ (by omega) (by omega))⟩
theorem BS.nun_iff (h : BS w p K u tk f F) {o : Nat} (ho : o ≤ 10) : Nun u o ↔ fit u o = 0 := by
  unfold fit
  rw [fits_zero]
  constructor
  · intro hn j h1 h2
    obtain ⟨l, hl⟩ := h.list (j := j) (by omega)
    rw [hl.tops, hl.nil (fun b => hn j b h1 (by omega))]; rfl
  · intro hn j b h1 h2 ht
    obtain ⟨l, hl⟩ := h.list (j := j) h2
    have := hn j h1 (by omega)
    rw [hl.tops] at this
    have h0 : l = [] := List.eq_nil_of_length_eq_zero this
    have := (hl.mem (b * 2 ^ j)).2 ⟨b, rfl, ht⟩
    rw [h0] at this; simp at this
theorem BS.take_tops (h : BS w p K u tk f F) {o A : Nat} (hA : Finds u o A) : ∀ j, j < o → tops (upd u (A / 2 ^ o) o true) j = tops u j := by
  obtain ⟨k, a, hl, rfl⟩ := hA
  obtain ⟨L, tb, V, hB, hL, hT, rfl⟩ := h
  obtain ⟨r, hr⟩ := (hL.lo k (by have := hl.k10; omega)).head hl.top hl.low
  obtain ⟨f', -, hL'⟩ := hL.take hl hr
  intro j hj
  have h1 := hl.ok
  have h2 := hl.k10
  rw [(hL'.lo j (by omega)).tops, (hL.lo j (by omega)).tops]
  unfold Lh
  rw [if_neg (by omega), if_neg (by omega)]
theorem tsum_congr {u v : Nat → Bool} : ∀ {k}, (∀ j, j < k → tops u j = tops v j) → tsum u k = tsum v k
  | 0, _ => rfl
  | k + 1, h => by rw [tsum_succ, tsum_succ, tsum_congr (fun j hj => h j (by omega)), h k (by omega)]
/-- A Take of order o leaves room for one less. -/
theorem BS.take_fit {w' : World} {tk' : Nat → Nat} {f' : Nat} {F' : List Nat} (h : BS w p K u tk f F) {o A : Nat} (ho : o ≤ 10) (hA : Finds u o A) (h' : BS w' p K (upd u (A / 2 ^ o) o true) tk' f' F') (hf : f = f' + 2 ^ o) :
    fit u o = fit (upd u (A / 2 ^ o) o true) o + 1 := by
  have h1 := h.tsum
  have h2 := h'.tsum
  rw [tsum_fit (o := o) (by omega)] at h1 h2
  rw [tsum_congr (h.take_tops hA)] at h2
  have h3 := two_pos o
  have h4 : fit u o * 2 ^ o = (fit (upd u (A / 2 ^ o) o true) o + 1) * 2 ^ o := by
    rw [Nat.add_mul, Nat.one_mul]; omega
  exact Nat.eq_of_mul_eq_mul_right h3 h4
theorem BS.fit_le (h : BS w p K u tk f F) {o : Nat} (ho : o ≤ 11) : fit u o ≤ 4194304 := by
  have h1 := h.tsum
  have h2 := h.fle
  rw [tsum_fit ho] at h1
  have := Nat.mul_le_mul_left (fit u o) (two_pos o)
  omega
theorem BS.finds_of (h : BS w p K u tk f F) {o : Nat} (ho : o ≤ 10) (hf : fit u o ≠ 0) : ∃ A, Finds u o A :=
  (h.finds o).resolve_right (fun hn => hf ((h.nun_iff ho).1 hn))
end
end Go.Proofs.YtpljldjdemobbaaDoor.By
