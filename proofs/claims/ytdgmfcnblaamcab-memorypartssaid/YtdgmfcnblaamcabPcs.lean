
/-
  No statement of the program: how bytes by their addresses lie on frames, as lists: plain mathematics.
-/
import Derived.Test.YtdgmfcnblaamcabBytes
namespace Go.Proofs.Ytdgmfcnblaamcab.Me

/-- The pieces of n bytes from a on, page q standing on frame F q. -/
def pcs (F : Nat → Nat) (a n : Nat) : List (Nat × Nat × Nat) :=
  if _h : n = 0 then [] else (F (a / 64), a % 64, min n (64 - a % 64)) :: pcs F (a + min n (64 - a % 64)) (n - min n (64 - a % 64))
termination_by n
decreasing_by omega
theorem pcs_nil (F : Nat → Nat) (a : Nat) : pcs F a 0 = [] := by rw [pcs]; simp
theorem pcs_cons (F : Nat → Nat) (a n : Nat) (h : 0 < n) : pcs F a n = (F (a / 64), a % 64, min n (64 - a % 64)) :: pcs F (a + min n (64 - a % 64)) (n - min n (64 - a % 64)) := by
  rw [pcs]; simp; omega
/-- Where byte a lies. -/
def pos (F : Nat → Nat) (a : Nat) : Nat := F (a / 64) * 64 + a % 64
/-- The bytes of the pieces one behind the other. -/
def rd (f : Nat → UInt8) : List (Nat × Nat × Nat) → List UInt8
  | [] => []
  | (k, at_, m) :: l => bl m (fun i => f (k * 64 + at_ + i)) ++ rd f l
theorem rd_append (f : Nat → UInt8) (l1 l2 : List (Nat × Nat × Nat)) : rd f (l1 ++ l2) = rd f l1 ++ rd f l2 := by
  induction l1 with
  | nil => rfl
  | cons x l ih => obtain ⟨k, a, m⟩ := x; simp [rd, ih]
theorem bl_split (m n : Nat) (z : Nat → UInt8) (h : m ≤ n) : bl n z = bl m z ++ bl (n - m) (fun i => z (m + i)) := by
  unfold bl
  apply List.ext_getElem?
  intro i
  by_cases h1 : i < m
  · rw [List.getElem?_append_left (by simpa using h1)]; simp [h1, show i < n by omega]
  · rw [List.getElem?_append_right (by simp; omega)]
    by_cases h2 : i < n
    · simp [h2, show i - m < n - m by omega]; congr 1; omega
    · rw [List.getElem?_eq_none (by simp; omega), List.getElem?_eq_none (by simp; omega)]
theorem rd_pcs (F : Nat → Nat) (f : Nat → UInt8) : ∀ (k a n : Nat), n ≤ k → rd f (pcs F a n) = bl n (fun i => f (pos F (a + i)))
  | 0, a, n, h => by
    obtain rfl : n = 0 := by omega
    rw [pcs_nil]; rfl
  | k + 1, a, n, h => by
    by_cases h0 : n = 0
    · subst h0; rw [pcs_nil]; rfl
    · rw [pcs_cons F a n (by omega)]
      obtain ⟨m, hm⟩ : ∃ m, m = min n (64 - a % 64) := ⟨_, rfl⟩
      rw [← hm]
      show bl m _ ++ rd f _ = _
      rw [rd_pcs F f k (a + m) (n - m) (by omega), bl_split m n _ (by omega)]
      congr 1
      · refine bl_congr (fun i hi => ?_)
        unfold pos
        rw [show (a + i) / 64 = a / 64 by omega, show (a + i) % 64 = a % 64 + i by omega, Nat.add_assoc]
      · refine bl_congr (fun i _ => ?_)
        rw [Nat.add_assoc]
/-- The store behind the pieces' being written with z. -/
def wrt : List (Nat × Nat × Nat) → (Nat → UInt8) → (Nat → UInt8) → Nat → UInt8
  | [], f, _ => f
  | (k, at_, m) :: l, f, z => wrt l (over f (k * 64 + at_) m z) (fun i => z (m + i))
/-- What is read behind a write. F is one to one on the pages that are looked at. -/
theorem wrt_pcs (F : Nat → Nat) (D : Nat → Prop) (inj : ∀ p q, D p → D q → F p = F q → p = q) : ∀ (k a n : Nat) (f z : Nat → UInt8), n ≤ k → (∀ p, a / 64 ≤ p → p * 64 < a + n → D p) → ∀ x, D (x / 64) →
    wrt (pcs F a n) f z (pos F x) = if a ≤ x ∧ x < a + n then z (x - a) else f (pos F x)
  | 0, a, n, f, z, h, _, x, _ => by
    obtain rfl : n = 0 := by omega
    rw [pcs_nil, if_neg (by omega)]; rfl
  | k + 1, a, n, f, z, h, hD, x, hx => by
    by_cases h0 : n = 0
    · subst h0; rw [pcs_nil, if_neg (by omega)]; rfl
    · rw [pcs_cons F a n (by omega)]
      obtain ⟨m, hm⟩ : ∃ m, m = min n (64 - a % 64) := ⟨_, rfl⟩
      rw [← hm]
      show wrt _ (over f (F (a / 64) * 64 + a % 64) m z) (fun i => z (m + i)) _ = _
      rw [wrt_pcs F D inj k (a + m) (n - m) _ _ (by omega) (fun p h1 h2 => hD p (by omega) (by omega)) x hx]
      by_cases h1 : a + m ≤ x ∧ x < a + n
      · rw [if_pos (by omega), if_pos (by omega)]
        show z (m + (x - (a + m))) = _
        congr 1; omega
      · rw [if_neg (by omega)]
        by_cases h2 : a ≤ x ∧ x < a + m
        · rw [if_pos (by omega)]
          have e1 : x / 64 = a / 64 := by omega
          have e2 : pos F x = F (a / 64) * 64 + a % 64 + (x - a) := by unfold pos; rw [e1]; omega
          rw [e2, over_in (by omega)]
        · rw [if_neg (by omega)]
          apply over_out
          unfold pos
          by_cases e : F (x / 64) = F (a / 64)
          · have e1 := inj _ _ hx (hD (a / 64) (by omega) (by omega)) e
            rw [e]; omega
          · have : x % 64 < 64 := Nat.mod_lt _ (by decide)
            have : m ≤ 64 - a % 64 := by omega
            omega
/-- A frame that none of the pages stands on keeps its bytes. -/
theorem wrt_other (F : Nat → Nat) (q : Nat) : ∀ (k a n : Nat) (f z : Nat → UInt8), n ≤ k → (∀ p, a / 64 ≤ p → p * 64 < a + n → F p ≠ q) → ∀ i, i < 64 → wrt (pcs F a n) f z (q * 64 + i) = f (q * 64 + i)
  | 0, a, n, f, z, h, _, i, _ => by
    obtain rfl : n = 0 := by omega
    rw [pcs_nil]; rfl
  | k + 1, a, n, f, z, h, hD, i, hi => by
    by_cases h0 : n = 0
    · subst h0; rw [pcs_nil]; rfl
    · rw [pcs_cons F a n (by omega)]
      obtain ⟨m, hm⟩ : ∃ m, m = min n (64 - a % 64) := ⟨_, rfl⟩
      rw [← hm]
      show wrt _ (over f (F (a / 64) * 64 + a % 64) m z) (fun i => z (m + i)) _ = _
      rw [wrt_other F q k (a + m) (n - m) _ _ (by omega) (fun p h1 h2 => hD p (by omega) (by omega)) i hi]
      apply over_out
      have := hD (a / 64) (by omega) (by omega)
      omega
theorem pcs_ok (F : Nat → Nat) (t : Nat) : ∀ (k a n : Nat), n ≤ k → (∀ p, a / 64 ≤ p → p * 64 < a + n → F p < t) → ∀ x ∈ pcs F a n, x.1 < t ∧ x.2.1 + x.2.2 ≤ 64
  | 0, a, n, h, _, x, hx => by
    obtain rfl : n = 0 := by omega
    rw [pcs_nil] at hx; cases hx
  | k + 1, a, n, h, hF, x, hx => by
    by_cases h0 : n = 0
    · subst h0; rw [pcs_nil] at hx; cases hx
    · rw [pcs_cons F a n (by omega)] at hx
      rcases List.mem_cons.1 hx with rfl | hx
      · exact ⟨hF _ (by omega) (by omega), by show a % 64 + min n (64 - a % 64) ≤ 64; omega⟩
      · exact pcs_ok F t k _ _ (by omega) (fun p h1 h2 => hF p (by omega) (by omega)) x hx
def total : List (Nat × Nat × Nat) → Nat
  | [] => 0
  | (_, _, m) :: l => m + total l
theorem total_pcs (F : Nat → Nat) : ∀ (k a n : Nat), n ≤ k → total (pcs F a n) = n
  | 0, a, n, h => by obtain rfl : n = 0 := by omega
                     rw [pcs_nil]; rfl
  | k + 1, a, n, h => by
    by_cases h0 : n = 0
    · subst h0; rw [pcs_nil]; rfl
    · rw [pcs_cons F a n (by omega)]
      show min n (64 - a % 64) + total _ = n
      rw [total_pcs F k _ _ (by omega)]; omega
theorem total_append (l1 l2 : List (Nat × Nat × Nat)) : total (l1 ++ l2) = total l1 + total l2 := by
  induction l1 with
  | nil => simp [total]
  | cons x l ih => obtain ⟨k, a, m⟩ := x; simp [total, ih, Nat.add_assoc]
theorem rd_length (f : Nat → UInt8) : ∀ l, (rd f l).length = total l
  | [] => rfl
  | (k, a, m) :: l => by simp [rd, total, bl_length, rd_length f l]
theorem len_pcs (F : Nat → Nat) : ∀ (k a n : Nat), n ≤ k → (pcs F a n).length ≤ n
  | 0, a, n, h => by obtain rfl : n = 0 := by omega
                     rw [pcs_nil]; exact Nat.zero_le _
  | k + 1, a, n, h => by
    by_cases h0 : n = 0
    · subst h0; rw [pcs_nil]; exact Nat.zero_le _
    · rw [pcs_cons F a n (by omega)]
      have := len_pcs F k (a + min n (64 - a % 64)) (n - min n (64 - a % 64)) (by omega)
      simp; omega
end Go.Proofs.Ytdgmfcnblaamcab.Me
