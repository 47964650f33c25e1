
/-
  No statement of the program: slices.Insert of one run into the runs of a space, in all its ways, over this seat's translation.
-/
import Derived.Test.YtdgmfcnblaamcaaSpc7
namespace Go.Proofs.Ytdgmfcnblaamcaa.Sc
open Go.ChangeShapes Go.WideShapes Go.ChangeAt Go.RowKit

/-- A list of values with one more at i. -/
def ins (F : Nat → Nat) (i x j : Nat) : Nat := if j < i then F j else if j = i then x else F (j - 1)

theorem ins_lay {n i x y : Nat} {f g : Nat → Value} {F C : Nat → Nat} (hf : ∀ i, i < n → f (i * 2) = iv (F i) ∧ f (i * 2 + 1) = iv (C i)) (hi : i ≤ n)
    (hg : ∀ t, t < (n + 1) * 2 → g t = if t < i * 2 then f t else if t = i * 2 then iv x else if t = i * 2 + 1 then iv y else f (t - 2)) :
    ∀ j, j < n + 1 → g (j * 2) = iv (ins F i x j) ∧ g (j * 2 + 1) = iv (ins C i y j) := by
  intro j hj
  have e0 := hg (j * 2) (by omega)
  have e1 := hg (j * 2 + 1) (by omega)
  unfold ins
  by_cases h : j < i
  · rw [if_pos (show j * 2 < i * 2 by omega)] at e0
    rw [if_pos (show j * 2 + 1 < i * 2 by omega)] at e1
    rw [e0, e1, if_pos h, if_pos h]
    exact hf j (by omega)
  · rw [if_neg (show ¬ j * 2 < i * 2 by omega)] at e0
    rw [if_neg (show ¬ j * 2 + 1 < i * 2 by omega), if_neg (show ¬ j * 2 + 1 = i * 2 by omega)] at e1
    by_cases h0 : j = i
    · rw [if_pos (show j * 2 = i * 2 by omega)] at e0
      rw [if_pos (show j * 2 + 1 = i * 2 + 1 by omega)] at e1
      rw [e0, e1, if_neg h, if_neg h, if_pos h0, if_pos h0]
      exact ⟨rfl, rfl⟩
    · rw [if_neg (show ¬ j * 2 = i * 2 by omega), if_neg (show ¬ j * 2 = i * 2 + 1 by omega), show j * 2 - 2 = (j - 1) * 2 by omega] at e0
      rw [if_neg (show ¬ j * 2 + 1 = i * 2 + 1 by omega), show j * 2 + 1 - 2 = (j - 1) * 2 + 1 by omega] at e1
      rw [e0, e1, if_neg h, if_neg h, if_neg h0, if_neg h0]
      exact hf (j - 1) (by omega)

theorem insert_any {w : World} {r n cap i vb x y : Nat} {ao : Option Addr} {F C : Nat → Nat} (h : RW w r ao n cap F C) (hi : i ≤ n)
    (hv : w.heap[vb]? = some (.cells #[iv x, iv y] 51)) (hvb : ∀ b, ao = some ⟨b, 0, none⟩ → vb ≠ b) :
    Calls Try.prog 18 #[.slice ao n cap, .int .i64 i, .slice (some ⟨vb, 0, none⟩) 1 1] w fun e w' => ∃ b' G g, e = .returned (.slice (some ⟨b', 0, none⟩) (n + 1) G) ∧ n + 1 ≤ G ∧ G ≤ maxLen ∧
      w'.rowIs b' 51 (G * 2) g ∧ (∀ j, j < n + 1 → g (j * 2) = iv (ins F i x j) ∧ g (j * 2 + 1) = iv (ins C i y j)) ∧ (b' = w.heap.size ∨ ao = some ⟨b', 0, none⟩) ∧ Kept ((Value.slice ao n cap).ownBlock.toList) w w' := by
  have hle := h.le
  have hm := h.m
  by_cases hin : i < n
  · obtain ⟨b, f, rfl, -, hR, hf⟩ := h.at_ (by omega)
    have h1 : ∀ t, t < n * 2 → (f t).oneCell' = true := by
      intro t ht
      obtain ⟨h0, h1⟩ := hf (t / 2) (by omega)
      rcases Nat.mod_two_eq_zero_or_one t with hh | hh
      · rw [show t = t / 2 * 2 by omega, h0]; rfl
      · rw [show t = t / 2 * 2 + 1 by omega, h1]; rfl
    by_cases hc : n + 1 ≤ cap
    · refine (insert_shift hR hc hin h.cm h1 hv (hvb b rfl)).mono ?_
      rintro e w' ⟨rfl, hk, g, hg, hgt⟩
      exact ⟨b, cap, g, rfl, hc, h.cm, hg, ins_lay hf hi hgt, .inr rfl, hk⟩
    · obtain rfl : cap = n := by omega
      refine (insert_grow hR hin hm h1 hv).mono ?_
      rintro e w' ⟨G, hG, hGm, rfl, hk, g, hg, hgt⟩
      exact ⟨w.heap.size, G, g, rfl, hG, hGm, hg, ins_lay hf hi hgt, .inl rfl, hk.mono (by simp)⟩
  · obtain rfl : i = n := by omega
    have hO : ∃ xs : List Value, w.ownsRow 0 51 2 (.slice ao i cap) i xs ∧ ∀ j, j < i → xs[j * 2]? = some (iv (F j)) ∧ xs[j * 2 + 1]? = some (iv (C j)) := by
      by_cases hc : cap = 0
      · obtain rfl : i = 0 := by omega
        subst hc
        rw [h.non rfl]
        exact ⟨[], ⟨rfl, .inl ⟨rfl, rfl⟩⟩, fun j hj => by omega⟩
      · obtain ⟨b, f, rfl, -, ⟨cur, hb, hsz, hcur⟩, hf⟩ := h.at_ (by omega)
        refine ⟨cur.toList.take (i * 2), ⟨by simp [hsz]; omega, .inr ⟨b, cap, cur, rfl, Nat.zero_le _, hb, hle, h.cm, hsz, rfl⟩⟩, fun j hj => ?_⟩
        obtain ⟨h0, h1⟩ := hf j hj
        rw [List.getElem?_take_of_lt (by omega), List.getElem?_take_of_lt (by omega), Array.getElem?_toList, Array.getElem?_toList, hcur _ (by omega), hcur _ (by omega), h0, h1]
        exact ⟨rfl, rfl⟩
    obtain ⟨xs, hO, hx⟩ := hO
    have hl : xs.length = i * 2 := hO.1
    refine (insert_end (v := .slice ao i cap) rfl hO hv hm).mono ?_
    rintro e w' ⟨v', rfl, ho, hg, hb⟩
    have hk : Kept ((Value.slice ao i cap).ownBlock.toList) w w' := Kept.of_grownBy hg (fun k hk _ => by simp [hk])
    rcases ho.2 with ⟨-, hz⟩ | ⟨b', G, cur, rfl, -, hc, hG, hGm, hs, ht⟩
    · omega
    refine ⟨b', G, fun t => cur.getD t undef, rfl, hG, hGm, ⟨cur, hc, hs, fun t ht => ?_⟩, fun j hj => ?_, ?_, hk⟩
    · have : t < cur.size := by omega
      simp [Array.getD, this]
    · have hcell : ∀ t, t < (i + 1) * 2 → cur.getD t undef = ((xs ++ [iv x, iv y])[t]?).getD undef := by
        intro t hlt
        rw [← ht, List.getElem?_take_of_lt hlt, Array.getElem?_toList, Array.getD_eq_getD_getElem?]
      show cur.getD (j * 2) undef = _ ∧ cur.getD (j * 2 + 1) undef = _
      rw [hcell (j * 2) (by omega), hcell (j * 2 + 1) (by omega)]
      unfold ins
      by_cases hji : j < i
      · obtain ⟨h0, h1⟩ := hx j hji
        rw [List.getElem?_append_left (by omega), List.getElem?_append_left (by omega), h0, h1, if_pos hji, if_pos hji]
        exact ⟨rfl, rfl⟩
      · obtain rfl : j = i := by omega
        rw [List.getElem?_append_right (by omega), List.getElem?_append_right (by omega), hl, Nat.sub_self, show j * 2 + 1 - j * 2 = 1 by omega, if_neg hji, if_neg hji, if_pos rfl, if_pos rfl]
        exact ⟨rfl, rfl⟩
    · rcases hb with hb | hb
      · right
        have hb2 : (Value.slice ao i cap).ownBlock = some b' := hb.symm
        by_cases hc0 : cap = 0
        · rw [h.non hc0] at hb2; cases hb2
        · obtain ⟨b, f, rfl, -⟩ := h.at_ (by omega)
          cases hb2
          rfl
      · left
        cases hb
        rfl
end Go.Proofs.Ytdgmfcnblaamcaa.Sc
