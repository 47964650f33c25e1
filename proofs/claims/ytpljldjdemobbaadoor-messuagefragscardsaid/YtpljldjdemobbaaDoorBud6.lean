
/-
  No statement of the program: a buddy by what is used and what is marked as taken: what each call answers and leaves, over this seat's translation.
-/
import Derived.Test.YtpljldjdemobbaaDoorBud5
namespace Go.Proofs.YtpljldjdemobbaaDoor.By
open Go.RowKit
theorem blk_iff {i k a : Nat} : i / 2 ^ k = a ↔ a * 2 ^ k ≤ i ∧ i < a * 2 ^ k + 2 ^ k := by
  constructor
  · intro h
    have h1 := Nat.div_add_mod i (2 ^ k)
    have h2 := Nat.mod_lt i (two_pos k)
    rw [h, Nat.mul_comm] at h1
    omega
  · rintro ⟨h1, h2⟩
    exact Nat.div_eq_of_lt_le h1 (by rw [Nat.add_mul]; omega)
/-- The lists are those of u. -/
structure Ls (K : Nat) (u : Nat → Bool) (f : Nat) (L : Nat → List Nat) : Prop where
  lo : ∀ j, j < 11 → Lo u j (L j)
  out : ∀ i, 2 ^ K ≤ i → u i = true
  sum : sumTo L 11 = f
  k10 : K ≤ 10
/-- What is marked as taken is used, apart, and all that is used. -/
structure TkOk (K : Nat) (tk : Nat → Nat) (u : Nat → Bool) : Prop where
  ok : ∀ a o, a < 2 ^ K → tk a = o + 1 → o ≤ 10 ∧ a / 2 ^ o * 2 ^ o = a ∧ Full u (a / 2 ^ o) o ∧ (a / 2 ^ o + 1) * 2 ^ o ≤ 2 ^ K
  apart : ∀ a o b o', a < 2 ^ K → b < 2 ^ K → tk a = o + 1 → tk b = o' + 1 → a ≠ b → ∀ i, i / 2 ^ o = a / 2 ^ o → ¬ i / 2 ^ o' = b / 2 ^ o'
  cov : ∀ i, i < 2 ^ K → u i = true → ∃ a o, a < 2 ^ K ∧ tk a = o + 1 ∧ i / 2 ^ o = a / 2 ^ o
structure Least (u : Nat → Bool) (o k a : Nat) : Prop where
  ok : o ≤ k
  k10 : k ≤ 10
  top : Top u k a
  low : ∀ b, Top u k b → a ≤ b
  none : ∀ j b, o ≤ j → j < k → ¬ Top u j b
def Nun (u : Nat → Bool) (o : Nat) : Prop := ∀ j b, o ≤ j → j ≤ 10 → ¬ Top u j b

theorem Lo.nil {u : Nat → Bool} {j : Nat} {l : List Nat} (h : Lo u j l) (hn : ∀ b, ¬ Top u j b) : l = [] := by
  cases l with
  | nil => rfl
  | cons x r =>
    obtain ⟨q, _, ht⟩ := (h.mem x).1 (by simp)
    exact absurd ht (hn q)
theorem Lo.head {u : Nat → Bool} {j a : Nat} {l : List Nat} (h : Lo u j l) (ht : Top u j a) (hl : ∀ b, Top u j b → a ≤ b) : ∃ r, l = a * 2 ^ j :: r := by
  have hm := (h.mem (a * 2 ^ j)).2 ⟨a, rfl, ht⟩
  cases l with
  | nil => simp at hm
  | cons x r =>
    refine ⟨r, ?_⟩
    obtain ⟨q, rfl, hq⟩ := (h.mem x).1 (by simp)
    have h1 := hl q hq
    rcases List.mem_cons.1 hm with e | e
    · rw [e]
    · have h2 := (List.pairwise_cons.1 h.sorted).1 _ e
      have := Nat.mul_le_mul_right (2 ^ j) h1
      omega
theorem Lo.cons {u : Nat → Bool} {j x : Nat} {r : List Nat} (h : Lo u j (x :: r)) : ∃ a, x = a * 2 ^ j ∧ Top u j a ∧ ∀ b, Top u j b → a ≤ b := by
  obtain ⟨a, rfl, ht⟩ := (h.mem x).1 (by simp)
  refine ⟨a, rfl, ht, fun b hb => ?_⟩
  rcases List.mem_cons.1 ((h.mem _).2 ⟨b, rfl, hb⟩) with e | e
  · exact Nat.le_of_eq (mul_inj e).symm
  · have := (List.pairwise_cons.1 h.sorted).1 _ e
    exact Nat.le_of_lt (Nat.lt_of_mul_lt_mul_right this)
theorem Ls.or {K f : Nat} {u : Nat → Bool} {L : Nat → List Nat} (h : Ls K u f L) (o : Nat) : (∃ k a, Least u o k a) ∨ Nun u o := by
  have key : ∀ d, (∃ k a, o ≤ k ∧ k < o + d ∧ k ≤ 10 ∧ Least u o k a) ∨ (∀ j b, o ≤ j → j < o + d → j ≤ 10 → ¬ Top u j b) := by
    intro d
    induction d with
    | zero => exact .inr fun j b h1 h2 => by omega
    | succ d ih =>
      rcases ih with ⟨k, a, h1, h2, h3, h4⟩ | ih
      · exact .inl ⟨k, a, h1, by omega, h3, h4⟩
      · by_cases hd : o + d ≤ 10
        · cases hL : L (o + d) with
          | nil =>
            refine .inr fun j b h1 h2 h3 ht => ?_
            by_cases hj : j = o + d
            · subst hj
              have := ((h.lo _ (by omega)).mem _).2 ⟨b, rfl, ht⟩
              rw [hL] at this; simp at this
            · exact ih j b h1 (by omega) h3 ht
          | cons x r =>
            have hlo := h.lo (o + d) (by omega)
            rw [hL] at hlo
            obtain ⟨a, -, ht, hl⟩ := hlo.cons
            exact .inl ⟨o + d, a, by omega, by omega, hd, ⟨by omega, hd, ht, hl, fun j b h1 h2 => ih j b h1 h2 (by omega)⟩⟩
        · exact .inr fun j b h1 h2 h3 => ih j b h1 (by omega) h3
  rcases key 11 with ⟨k, a, -, -, -, h4⟩ | h1
  · exact .inl ⟨k, a, h4⟩
  · exact .inr fun j b h2 h3 => h1 j b h2 (by omega) h3

def vh (u : Nat → Bool) (at_ o k h : Nat) : Nat → Bool := fun i => if at_ ≤ i ∧ i < at_ + 2 ^ o then true else if at_ + 2 ^ h ≤ i ∧ i < at_ + 2 ^ k then true else u i
theorem pow_le {a b : Nat} (h : a ≤ b) : 2 ^ a ≤ 2 ^ b := Nat.pow_le_pow_right (by decide) h
theorem vh_first {u : Nat → Bool} {a o k : Nat} (hok : o ≤ k) : vh u (a * 2 ^ k) o k o = upd u a k true := by
  funext i
  unfold vh upd
  have := pow_le hok
  have := two_pos o
  by_cases h : i / 2 ^ k = a
  · rw [if_pos h]
    have h2 := blk_iff.1 h
    by_cases h3 : a * 2 ^ k ≤ i ∧ i < a * 2 ^ k + 2 ^ o
    · rw [if_pos h3]
    · rw [if_neg h3, if_pos (by omega)]
  · rw [if_neg h]
    have h2 : ¬ (a * 2 ^ k ≤ i ∧ i < a * 2 ^ k + 2 ^ k) := fun x => h (blk_iff.2 x)
    rw [if_neg (by omega), if_neg (by omega)]
theorem vh_last {u : Nat → Bool} {a o k : Nat} (hok : o ≤ k) : vh u (a * 2 ^ k) o k k = upd u (a * 2 ^ k / 2 ^ o) o true := by
  funext i
  unfold vh upd
  have e : a * 2 ^ k / 2 ^ o * 2 ^ o = a * 2 ^ k := Nat.div_mul_cancel (Nat.dvd_mul_left_of_dvd (Nat.pow_dvd_pow 2 hok) a)
  by_cases h : i / 2 ^ o = a * 2 ^ k / 2 ^ o
  · rw [if_pos h]
    have h2 := blk_iff.1 h
    rw [e] at h2
    rw [if_pos h2]
  · rw [if_neg h]
    have h2 : ¬ (a * 2 ^ k / 2 ^ o * 2 ^ o ≤ i ∧ i < a * 2 ^ k / 2 ^ o * 2 ^ o + 2 ^ o) := fun x => h (blk_iff.2 x)
    rw [e] at h2
    rw [if_neg h2, if_neg (by omega)]
theorem vh_step {u : Nat → Bool} {a o k h : Nat} (hoh : o ≤ h) (hhk : h < k) (hf : Fr u a k) :
    Full (vh u (a * 2 ^ k) o k h) (a * 2 ^ k / 2 ^ h + 1) h ∧ ¬ Fr (vh u (a * 2 ^ k) o k h) (sib (a * 2 ^ k / 2 ^ h + 1)) h ∧ upd (vh u (a * 2 ^ k) o k h) (a * 2 ^ k / 2 ^ h + 1) h false = vh u (a * 2 ^ k) o k (h + 1) ∧ (a * 2 ^ k / 2 ^ h + 1) * 2 ^ h = a * 2 ^ k + 2 ^ h := by
  have e : a * 2 ^ k / 2 ^ h * 2 ^ h = a * 2 ^ k := Nat.div_mul_cancel (Nat.dvd_mul_left_of_dvd (Nat.pow_dvd_pow 2 (Nat.le_of_lt hhk)) a)
  have hev : a * 2 ^ k / 2 ^ h % 2 = 0 := by
    have : a * 2 ^ k / 2 ^ h = a * 2 ^ (k - h - 1) * 2 := by
      have e2 : a * 2 ^ k = a * 2 ^ (k - h - 1) * 2 * 2 ^ h := by
        rw [Nat.mul_assoc, Nat.mul_assoc, ← Nat.pow_succ', ← Nat.pow_add]; congr 2; omega
      rw [e2, Nat.mul_div_cancel _ (two_pos h)]
    rw [this]; omega
  have hpo := two_pos o
  have hp1 := pow_le hoh
  have hp2 := pow_le (show h + 1 ≤ k by omega)
  have hs : 2 ^ (h + 1) = 2 ^ h + 2 ^ h := by rw [Nat.pow_succ]; omega
  have hq0 : a * 2 ^ k / 2 ^ h = a * 2 ^ k / 2 ^ h := rfl
  revert hq0
  generalize a * 2 ^ k / 2 ^ h = q at e hev ⊢
  intro hq0
  have hsib : sib (q + 1) = q := by unfold sib; rw [if_neg (by omega), Nat.add_sub_cancel]
  have e1 : (q + 1) * 2 ^ h = a * 2 ^ k + 2 ^ h := by rw [Nat.add_mul, e, Nat.one_mul]
  have hfk : ∀ i, a * 2 ^ k ≤ i → i < a * 2 ^ k + 2 ^ k → u i = false := fun i h1 h2 => hf i (blk_iff.2 ⟨h1, h2⟩)
  have hbq : a * 2 ^ k / 2 ^ h = q := by rw [← e]; exact mul_div q h
  have hblk : ∀ i, i / 2 ^ h = q + 1 ↔ a * 2 ^ k + 2 ^ h ≤ i ∧ i < a * 2 ^ k + 2 ^ h + 2 ^ h := fun i => by rw [blk_iff, e1]
  clear hf
  generalize a * 2 ^ k = A at e1 hfk hbq hblk e ⊢
  refine ⟨fun i hi => ?_, fun hfr => ?_, ?_, e1⟩
  · have h2 := (hblk i).1 hi
    unfold vh
    rw [if_neg (by omega), if_pos (by omega)]
  · rw [hsib] at hfr
    have := hfr A hbq
    unfold vh at this
    rw [if_pos (by omega)] at this
    cases this
  · funext i
    by_cases hi : i / 2 ^ h = q + 1
    · rw [upd_in hi]
      have h2 := (hblk i).1 hi
      unfold vh
      rw [if_neg (by omega), if_neg (by omega)]
      exact (hfk i (by omega) (by omega)).symm
    · rw [upd_out hi]
      have h2 : ¬ (A + 2 ^ h ≤ i ∧ i < A + 2 ^ h + 2 ^ h) := fun x => hi ((hblk i).2 x)
      unfold vh
      by_cases h3 : A ≤ i ∧ i < A + 2 ^ o
      · rw [if_pos h3, if_pos h3]
      · rw [if_neg h3, if_neg h3]
        by_cases h4 : A + 2 ^ (h + 1) ≤ i ∧ i < A + 2 ^ k
        · rw [if_pos h4, if_pos (by omega)]
        · rw [if_neg h4, if_neg (by omega)]
theorem Ls.take {K f o k a : Nat} {u : Nat → Bool} {L : Nat → List Nat} {r : List Nat} (h : Ls K u f L) (hl : Least u o k a) (hr : L k = a * 2 ^ k :: r) :
    ∃ f', f = f' + 2 ^ o ∧ Ls K (upd u (a * 2 ^ k / 2 ^ o) o true) f' (Lh L o k (a * 2 ^ k) r k) := by
  have hk := hl.k10
  have hok := hl.ok
  have hlo := h.lo k (by omega)
  have hsr : r.Pairwise (· < ·) := by have := hlo.sorted; rw [hr] at this; exact (List.pairwise_cons.1 this).2
  have hmr : ∀ x, x ∈ r ↔ x ∈ L k ∧ x ≠ a * 2 ^ k := by
    intro x
    have h2 := hlo.sorted
    rw [hr] at h2 ⊢
    have h3 := (List.pairwise_cons.1 h2).1
    simp only [List.mem_cons]
    constructor
    · intro hx; exact ⟨.inr hx, fun e => by have := h3 x hx; omega⟩
    · rintro ⟨e | e, hne⟩
      · exact absurd e hne
      · exact e
  have hemp : ∀ j, o ≤ j → j < k → L j = [] := fun j h1 h2 => (h.lo j (by omega)).nil (fun b => hl.none j b h1 h2)
  have key : ∀ d, o + d ≤ k → (∀ j, j < 11 → Lo (vh u (a * 2 ^ k) o k (o + d)) j (Lh L o k (a * 2 ^ k) r (o + d) j)) ∧ sumTo (Lh L o k (a * 2 ^ k) r (o + d)) 11 + 2 ^ k + 2 ^ o = f + 2 ^ (o + d) := by
    intro d
    induction d with
    | zero =>
      intro _
      refine ⟨fun j hj => ?_, ?_⟩
      · rw [Nat.add_zero, vh_first hok]
        unfold Lh
        by_cases hjk : j = k
        · rw [if_pos hjk]; subst hjk; exact hlo.cut hl.top hsr hmr
        · rw [if_neg hjk, if_neg (by omega)]; exact (Lo.cut_other hl.top hjk).2 (h.lo j hj)
      · have hs : sumTo L 11 = sumTo (Lh L o k (a * 2 ^ k) r o) 11 + 2 ^ k := by
          refine sumTo_add (o := k) ?_ (fun j hj => ?_) 11 (by omega)
          · unfold Lh; rw [if_pos rfl, hr]; rfl
          · unfold Lh; rw [if_neg hj, if_neg (by omega)]
        have := h.sum
        rw [Nat.add_zero]; omega
    | succ d ih =>
      intro hd
      obtain ⟨i1, i2⟩ := ih (by omega)
      obtain ⟨s1, s2, s3, s4⟩ := vh_step (u := u) (a := a) (o := o) (k := k) (h := o + d) (by omega) (by omega) hl.top.1
      have hLd : Lh L o k (a * 2 ^ k) r (o + d) (o + d) = [] := by unfold Lh; rw [if_neg (by omega), if_neg (by omega)]; exact hemp _ (by omega) (by omega)
      have hLd' : Lh L o k (a * 2 ^ k) r (o + (d + 1)) (o + d) = [a * 2 ^ k + 2 ^ (o + d)] := by unfold Lh; rw [if_neg (by omega), if_pos (by omega)]
      have hLo : ∀ j, j ≠ o + d → Lh L o k (a * 2 ^ k) r (o + (d + 1)) j = Lh L o k (a * 2 ^ k) r (o + d) j := fun j hj => by
        unfold Lh
        by_cases hjk : j = k
        · rw [if_pos hjk, if_pos hjk]
        · rw [if_neg hjk, if_neg hjk]
          by_cases h5 : o ≤ j ∧ j < o + d
          · rw [if_pos h5, if_pos (by omega)]
          · rw [if_neg h5, if_neg (by omega)]
      refine ⟨fun j hj => ?_, ?_⟩
      · rw [show o + (d + 1) = o + d + 1 by omega, ← s3, show o + d + 1 = o + (d + 1) by omega]
        by_cases hjd : j = o + d
        · subst hjd
          rw [hLd']
          have i3 := i1 (o + d) hj
          rw [hLd] at i3
          refine i3.put s1 s2 (by simp) (fun x => ?_)
          rw [s4]; simp
        · rw [hLo j hjd]
          exact (Lo.other s1 s2 hjd).2 (i1 j hj)
      · have hs := sumTo_add (L := Lh L o k (a * 2 ^ k) r (o + d)) (L' := Lh L o k (a * 2 ^ k) r (o + (d + 1))) (o := o + d) (by rw [hLd, hLd']; rfl) (fun j hj => by rw [hLo j hj]) 11 (by omega)
        have h2 : 2 ^ (o + (d + 1)) = 2 ^ (o + d) + 2 ^ (o + d) := by rw [show o + (d + 1) = (o + d) + 1 by omega, Nat.pow_succ]; omega
        omega
  obtain ⟨k1, k2⟩ := key (k - o) (by omega)
  rw [show o + (k - o) = k by omega] at k1 k2
  rw [vh_last hok] at k1
  refine ⟨sumTo (Lh L o k (a * 2 ^ k) r k) 11, by omega, k1, fun i hi => ?_, rfl, h.k10⟩
  by_cases h2 : i / 2 ^ o = a * 2 ^ k / 2 ^ o
  · exact upd_in h2
  · rw [upd_out h2]; exact h.out i hi

theorem TkOk.take {K o k a : Nat} {u : Nat → Bool} {tk : Nat → Nat} (h : TkOk K tk u) (hout : ∀ i, 2 ^ K ≤ i → u i = true) (hl : Least u o k a) :
    TkOk K (fun i => if i = a * 2 ^ k then o + 1 else tk i) (upd u (a * 2 ^ k / 2 ^ o) o true) ∧ a * 2 ^ k < 2 ^ K ∧ tk (a * 2 ^ k) = 0 ∧ Fr u (a * 2 ^ k / 2 ^ o) o ∧ (a * 2 ^ k / 2 ^ o + 1) * 2 ^ o ≤ 2 ^ K ∧ a * 2 ^ k / 2 ^ o * 2 ^ o = a * 2 ^ k := by
  have e : a * 2 ^ k / 2 ^ o * 2 ^ o = a * 2 ^ k := Nat.div_mul_cancel (Nat.dvd_mul_left_of_dvd (Nat.pow_dvd_pow 2 hl.ok) a)
  have hfr : Fr u (a * 2 ^ k / 2 ^ o) o := Fr.up hl.ok (by rw [div_up hl.ok, mul_div]; exact hl.top.1)
  have hin := block_in hout hfr
  have hat : a * 2 ^ k < 2 ^ K := by
    have := two_pos o
    rw [Nat.add_mul, e, Nat.one_mul] at hin
    omega
  have hfree := hfr _ (rfl : a * 2 ^ k / 2 ^ o = _)
  have htk : tk (a * 2 ^ k) = 0 := by
    cases ht : tk (a * 2 ^ k) with
    | zero => rfl
    | succ o' =>
      have := (h.ok _ _ hat ht).2.2.1 _ rfl
      rw [hfree] at this; cases this
  generalize a * 2 ^ k = A at e hfr hin hat hfree htk ⊢
  refine ⟨⟨fun b o' hb ht => ?_, fun b o1 c o2 hb hc h1 h2 hbc i hi => ?_, fun i hi hu => ?_⟩, hat, htk, hfr, hin, e⟩
  · by_cases hbA : b = A
    · subst hbA
      simp only [if_true] at ht
      have : o' = o := by omega
      subst this
      exact ⟨Nat.le_trans hl.ok hl.k10, e, upd_full _ _ _, hin⟩
    · simp only [if_neg hbA] at ht
      obtain ⟨k1, k2, k3, k4⟩ := h.ok b o' hb ht
      refine ⟨k1, k2, fun i hi => ?_, k4⟩
      by_cases h2 : i / 2 ^ o = A / 2 ^ o
      · exact upd_in h2
      · rw [upd_out h2]; exact k3 i hi
  · have new : ∀ d o', d < 2 ^ K → tk d = o' + 1 → ∀ i, i / 2 ^ o = A / 2 ^ o → ¬ i / 2 ^ o' = d / 2 ^ o' := fun d o' hd ht i hi h3 => by
      have h4 := (h.ok d o' hd ht).2.2.1 i h3
      rw [hfr i hi] at h4; cases h4
    by_cases hbA : b = A
    · have hcA : c ≠ A := fun e => hbc (by rw [hbA, e])
      subst hbA
      simp only [if_true] at h1
      simp only [if_neg hcA] at h2
      have : o1 = o := by omega
      subst this
      exact new c o2 hc h2 i hi
    · simp only [if_neg hbA] at h1
      by_cases hcA : c = A
      · subst hcA
        simp only [if_true] at h2
        have : o2 = o := by omega
        subst this
        exact fun h3 => new b o1 hb h1 i h3 hi
      · simp only [if_neg hcA] at h2
        exact h.apart b o1 c o2 hb hc h1 h2 hbc i hi
  · by_cases h2 : i / 2 ^ o = A / 2 ^ o
    · exact ⟨A, o, hat, by simp, h2⟩
    · rw [upd_out h2] at hu
      obtain ⟨b, o', hb, ht, hbi⟩ := h.cov i hi hu
      refine ⟨b, o', hb, ?_, hbi⟩
      have : b ≠ A := fun e => by rw [e, htk] at ht; omega
      simp only [if_neg this]; exact ht
theorem TkOk.give {K A o : Nat} {u : Nat → Bool} {tk : Nat → Nat} (h : TkOk K tk u) (hA : A < 2 ^ K) (ht : tk A = o + 1) : TkOk K (fun i => if i = A then 0 else tk i) (upd u (A / 2 ^ o) o false) := by
  refine ⟨fun b o' hb ht' => ?_, fun b o1 c o2 hb hc h1 h2 hbc i hi => ?_, fun i hi hu => ?_⟩
  · by_cases hbA : b = A
    · simp only [if_pos hbA] at ht'; omega
    · simp only [if_neg hbA] at ht'
      obtain ⟨k1, k2, k3, k4⟩ := h.ok b o' hb ht'
      refine ⟨k1, k2, fun i hi => ?_, k4⟩
      rw [upd_out (h.apart b o' A o hb hA ht' ht hbA i hi)]
      exact k3 i hi
  · by_cases hbA : b = A
    · simp only [if_pos hbA] at h1; omega
    · by_cases hcA : c = A
      · simp only [if_pos hcA] at h2; omega
      · simp only [if_neg hbA] at h1
        simp only [if_neg hcA] at h2
        exact h.apart b o1 c o2 hb hc h1 h2 hbc i hi
  · by_cases h2 : i / 2 ^ o = A / 2 ^ o
    · rw [upd_in h2] at hu; cases hu
    · rw [upd_out h2] at hu
      obtain ⟨b, o', hb, ht', hbi⟩ := h.cov i hi hu
      have hbA : b ≠ A := fun e => by
        subst e
        have : o' = o := by omega
        subst this
        exact h2 hbi
      exact ⟨b, o', hb, by simp only [if_neg hbA]; exact ht', hbi⟩
/-- A buddy of 2 ^ K frames at p: u is used, tk is marked, f frames are free; F is where it lies. -/
def BS (w : World) (p K : Nat) (u : Nat → Bool) (tk : Nat → Nat) (f : Nat) (F : List Nat) : Prop :=
  ∃ L tb V, Bud w p (2 ^ K) tk L tb V ∧ Ls K u f L ∧ TkOk K tk u ∧ F = foot p tb V
namespace BS
variable {w w' : World} {p K f : Nat} {u : Nat → Bool} {tk : Nat → Nat} {F G : List Nat}
theorem kept (h : BS w p K u tk f F) (k : Kept G w w') (hd : ∀ x, x ∈ F → x ∉ G) : BS w' p K u tk f F := by
  obtain ⟨L, tb, V, hB, hL, hT, rfl⟩ := h
  exact ⟨L, tb, V, hB.kept k hd, hL, hT, rfl⟩
theorem kept0 (h : BS w p K u tk f F) (k : Kept [] w w') : BS w' p K u tk f F := h.kept k (fun _ _ => by simp)
theorem lt (h : BS w p K u tk f F) : ∀ x, x ∈ F → x < w.heap.size := by
  obtain ⟨L, tb, V, hB, hL, hT, rfl⟩ := h
  exact hB.lt
theorem or (h : BS w p K u tk f F) (o : Nat) : (∃ k a, Least u o k a) ∨ Nun u o := by
  obtain ⟨L, tb, V, hB, hL, hT, rfl⟩ := h
  exact hL.or o
theorem tok (h : BS w p K u tk f F) : TkOk K tk u := by
  obtain ⟨L, tb, V, hB, hL, hT, rfl⟩ := h
  exact hT
theorem out (h : BS w p K u tk f F) : ∀ i, 2 ^ K ≤ i → u i = true := by
  obtain ⟨L, tb, V, hB, hL, hT, rfl⟩ := h
  exact hL.out
end BS
theorem n1024 {K : Nat} (h : K ≤ 10) : 2 ^ K ≤ 1024 := pow_le h
theorem bs_take {w : World} {p K f : Nat} {u : Nat → Bool} {tk : Nat → Nat} {F : List Nat} (o k a : Nat) (h : BS w p K u tk f F) (hl : Least u o k a) {oi : Int} (eo : oi = o) :
    Calls Tryd.prog 18 #[.pointer (some ⟨p, 0, none⟩), .int .i64 oi] w fun e w' => ∃ f' F', e = .returned (.tuple #[.int .i64 ((a * 2 ^ k : Nat) : Int), .int .i64 0]) ∧ f = f' + 2 ^ o ∧ BS w' p K (upd u (a * 2 ^ k / 2 ^ o) o true) (fun i => if i = a * 2 ^ k then o + 1 else tk i) f' F' ∧ Kept F w w' ∧ ∀ x, x ∈ F' → x ∈ F ∨ w.heap.size ≤ x := by
  obtain ⟨L, tb, V, hB, hL, hT, rfl⟩ := h
  obtain ⟨r, hr⟩ := (hL.lo k (by have := hl.k10; omega)).head hl.top hl.low
  have hlo := hL.lo k (by have := hl.k10; omega)
  have hlen := hlo.len hL.out
  have hn := n1024 hL.k10
  have hso := hlo.sorted
  obtain ⟨t1, t2, -⟩ := hT.take hL.out hl
  obtain ⟨f', hf', hL'⟩ := hL.take hl hr
  rw [hr] at hlen hso
  simp only [List.length_cons] at hlen
  refine (take_walk o k (a * 2 ^ k) r hB hn hl.ok hl.k10 hr (fun j h1 h2 => (hL.lo j (by have := hl.k10; omega)).nil (fun b => hl.none j b h1 h2)) hso (by omega) t2 eo).mono ?_
  rintro e w' ⟨V', rfl, hB', hk, hg⟩
  refine ⟨f', foot p tb V', rfl, hf', ⟨_, tb, V', hB', hL', t1, rfl⟩, hk, fun x hx => ?_⟩
  rcases mem_foot.1 hx with e | e | ⟨j, hj, hb⟩
  · exact .inl (mem_foot.2 (.inl e))
  · exact .inl (mem_foot.2 (.inr (.inl e)))
  · exact (hg j x hj hb).imp (fun h => mem_foot.2 (.inr (.inr ⟨j, hj, h⟩))) id
theorem bs_none {w : World} {p K f : Nat} {u : Nat → Bool} {tk : Nat → Nat} {F : List Nat} (o : Nat) (h : BS w p K u tk f F) (ho : o ≤ 10) (hl : Nun u o) {oi : Int} (eo : oi = o) :
    Calls Tryd.prog 18 #[.pointer (some ⟨p, 0, none⟩), .int .i64 oi] w fun e w' => e = .returned (.tuple #[.int .i64 0, .int .i64 5]) ∧ w' = w := by
  obtain ⟨L, tb, V, hB, hL, hT, rfl⟩ := h
  exact take_no o hB ho (fun j h1 h2 => (hL.lo j h2).nil (fun b => hl j b h1 (by omega))) eo
theorem bs_give {w : World} {p K f : Nat} {u : Nat → Bool} {tk : Nat → Nat} {F : List Nat} (A o : Nat) (h : BS w p K u tk f F) (hA : A < 2 ^ K) (ht : tk A = o + 1) {ai oi : Int} (ea : ai = A) (eo : oi = o) :
    Calls Tryd.prog 20 #[.pointer (some ⟨p, 0, none⟩), .int .i64 ai, .int .i64 oi] w fun e w' => ∃ F', e = .returned (.int .i64 0) ∧ BS w' p K (upd u (A / 2 ^ o) o false) (fun i => if i = A then 0 else tk i) (f + 2 ^ o) F' ∧ Kept F w w' ∧ ∀ x, x ∈ F' → x ∈ F ∨ w.heap.size ≤ x := by
  obtain ⟨L, tb, V, hB, hL, hT, rfl⟩ := h
  obtain ⟨k1, k2, k3, k4⟩ := hT.ok A o hA ht
  have hm : Mid K (upd u (A / 2 ^ o) o false) (f + 2 ^ o) u L (A / 2 ^ o) o := ⟨hL.lo, k3, rfl, by rw [hL.sum], k4, hL.out⟩
  refine (give_walk A o (A / 2 ^ o) hB rfl hL.k10 hA ht k2.symm hm ea eo).mono ?_
  rintro e w' ⟨V', L', rfl, hB', hlo', hs', hk, hg⟩
  refine ⟨foot p tb V', rfl, ⟨L', tb, V', hB', ⟨hlo', fun i hi => ?_, hs', hL.k10⟩, hT.give hA ht, rfl⟩, hk, fun x hx => ?_⟩
  · rw [upd_out (fun e => ?_)]
    · exact hL.out i hi
    · have := blk_iff.1 e
      rw [Nat.add_mul, Nat.one_mul] at k4
      omega
  rcases mem_foot.1 hx with e | e | ⟨j, hj, hb⟩
  · exact .inl (mem_foot.2 (.inl e))
  · exact .inl (mem_foot.2 (.inr (.inl e)))
  · exact (hg j x hj hb).imp (fun h => mem_foot.2 (.inr (.inr ⟨j, hj, h⟩))) id
theorem bs_bad {w : World} {p K f : Nat} {u : Nat → Bool} {tk : Nat → Nat} {F : List Nat} (o : Nat) (h : BS w p K u tk f F) (ho : o ≤ 10) {ai oi : Int} (eo : oi = o) (hb : ∀ a : Nat, ai = a → a < 2 ^ K → tk a ≠ o + 1) :
    Calls Tryd.prog 20 #[.pointer (some ⟨p, 0, none⟩), .int .i64 ai, .int .i64 oi] w fun e w' => e = .returned (.int .i64 6) ∧ Kept [] w w' := by
  obtain ⟨L, tb, V, hB, hL, hT, rfl⟩ := h
  refine give_bad hB o ho eo hb (fun a ha => ?_)
  cases hc : tk a with
  | zero => omega
  | succ o' => have := (hT.ok a o' ha hc).1; omega
theorem bs_free {w : World} {p K f : Nat} {u : Nat → Bool} {tk : Nat → Nat} {F : List Nat} (h : BS w p K u tk f F) :
    Calls Tryd.prog 16 #[.pointer (some ⟨p, 0, none⟩)] w fun e w' => e = .returned (.int .i64 f) ∧ w' = w := by
  obtain ⟨L, tb, V, hB, hL, hT, rfl⟩ := h
  have hn := n1024 hL.k10
  have := free_ok hB (fun j hj => by have := (hL.lo j hj).len hL.out; omega)
  rw [hL.sum] at this
  exact this
/-- Runs: the sorted list of the first frames. -/
theorem bs_runs {w : World} {p K f : Nat} {u : Nat → Bool} {tk : Nat → Nat} {F : List Nat} (o : Nat) (h : BS w p K u tk f F) (ho : o ≤ 10) {oi : Int} (eo : oi = o) :
    Calls Tryd.prog 24 #[.pointer (some ⟨p, 0, none⟩), .int .i64 oi] w fun e w' => ∃ v l, e = .returned v ∧ NL w' v l ∧ Lo u o l ∧ l.length ≤ 1024 ∧ (∀ b, v.ownBlock = some b → w.heap.size ≤ b) ∧ Kept [] w w' := by
  obtain ⟨L, tb, V, hB, hL, hT, rfl⟩ := h
  have hn := n1024 hL.k10
  have hlo := hL.lo o (by omega)
  have hlen := hlo.len hL.out
  refine (runs_ok o hB (by omega) (by omega) eo).mono ?_
  rintro e w' ⟨v, rfl, h1, h2, h3⟩
  exact ⟨v, _, rfl, h1, hlo, by omega, h2, h3⟩
/-- All frames free. -/
def u0 (K : Nat) : Nat → Bool := fun i => decide (2 ^ K ≤ i)
theorem u0_fr {K j q : Nat} : Fr (u0 K) q j ↔ (q + 1) * 2 ^ j ≤ 2 ^ K := by
  constructor
  · exact block_in (fun i hi => by simp [u0, hi])
  · intro h i hi
    have := blk_iff.1 hi
    rw [Nat.add_mul, Nat.one_mul] at h
    simp only [u0, decide_eq_false_iff_not]; omega
theorem u0_top {K j q : Nat} : Top (u0 K) j q ↔ j = K ∧ q = 0 := by
  unfold Top
  rw [u0_fr, u0_fr]
  constructor
  · rintro ⟨h1, h2⟩
    have hj := order_in h1
    by_cases hjk : j = K
    · subst hjk
      refine ⟨rfl, ?_⟩
      have := two_pos j
      by_cases hq : q = 0
      · exact hq
      · have : 2 * 2 ^ j ≤ (q + 1) * 2 ^ j := Nat.mul_le_mul_right _ (by omega)
        omega
    · exfalso
      apply h2
      obtain ⟨d, hd⟩ : ∃ d, K = j + 1 + d := ⟨K - j - 1, by omega⟩
      have e : 2 ^ K = 2 ^ d * 2 ^ (j + 1) := by rw [hd, Nat.pow_add, Nat.mul_comm]
      have e2 : 2 ^ K = 2 * 2 ^ d * 2 ^ j := by rw [e, Nat.pow_succ, Nat.mul_comm (2 ^ j) 2, ← Nat.mul_assoc, Nat.mul_comm 2]
      rw [e2] at h1
      have h3 := Nat.le_of_mul_le_mul_right h1 (two_pos j)
      rw [e]
      exact Nat.mul_le_mul_right _ (by omega)
  · rintro ⟨rfl, rfl⟩
    refine ⟨by simp, fun h => ?_⟩
    have := two_pos j
    rw [Nat.pow_succ] at h
    omega
theorem bs_new (K n : Nat) (hk : K ≤ 10) (hn : n = 2 ^ K) {w : World} (hT : Tab w) {ni : Int} (en : ni = n) :
    Calls Tryd.prog 19 #[.int .i64 ni] w fun e w' => ∃ p F, e = .returned (.tuple #[.pointer (some ⟨p, 0, none⟩), .int .i64 0]) ∧ BS w' p K (u0 K) (fun _ => 0) (2 ^ K) F ∧ p ∈ F ∧ (∀ x, x ∈ F → w.heap.size ≤ x) ∧ Kept [] w w' := by
  subst en
  refine (new_ok K n hk hn hT).mono ?_
  rintro e w' ⟨p, tb, V, rfl, hB, hf, hK⟩
  refine ⟨p, foot p tb V, rfl, ⟨_, tb, V, by rw [← hn]; exact hB, ⟨fun j hj => ⟨?_, fun x => ?_⟩, fun i hi => by simp [u0, hi], ?_, hk⟩, ⟨fun a o _ h => by simp at h, fun a o b o' _ _ h => by simp at h, fun i hi h => ?_⟩, rfl⟩, mem_foot.2 (.inl rfl), hf, hK⟩
  · by_cases h : j = K <;> simp [h]
  · constructor
    · intro hx
      by_cases h : j = K
      · rw [if_pos h] at hx
        simp at hx
        exact ⟨0, by omega, u0_top.2 ⟨h, rfl⟩⟩
      · rw [if_neg h] at hx; simp at hx
    · rintro ⟨q, rfl, hq⟩
      obtain ⟨h1, h2⟩ := u0_top.1 hq
      rw [if_pos h1, h2]; simp
  · have h0 : sumTo (fun _ => ([] : List Nat)) 11 = 0 := rfl
    have := sumTo_add (L := fun _ => []) (L' := fun j => if j = K then [0] else []) (o := K) (by simp) (fun j hj => by simp [hj]) 11 (by omega)
    omega
  · simp only [u0, decide_eq_true_eq] at h; omega
end Go.Proofs.YtpljldjdemobbaaDoor.By
