
/-
  No statement of the program: the contracts of the document's own sets (messuageref01: Has, List, Next), and of the statements' helper 'same', over this seat's translation.
-/
import Derived.Test.YtnokpecdkibddacNode2
namespace Go.Proofs.Ytnokpecdkibddac.NR
open Go.RowKit ND

set_option maxHeartbeats 400000 in
theorem has_any (s : Nat) (n : Int) (hs : s < 256) (w : World) : Calls Try.prog 25 #[.int .u8 s, .int .i64 n] w fun e w' => e = .returned (.bool (hasB s n)) ∧ w' = w := by
  rcases (show n < 0 ∨ (0 ≤ n ∧ 8 ≤ n) ∨ (0 ≤ n ∧ n < 8) from by omega) with h | ⟨h, h2⟩ | ⟨h, h2⟩
  · have hb := hasB_out s (n := n) (by omega)
    go_enter Try.func25, Try.ntmps25
    go_wp2
    go_ret
    exact ⟨rfl, rfl⟩
  · have hb := hasB_out s (n := n) (by omega)
    go_enter Try.func25, Try.ntmps25
    go_wp2
    go_ret
    exact ⟨rfl, rfl⟩
  · obtain ⟨i, rfl⟩ := Int.eq_ofNat_of_zero_le h
    have hi : i < 8 := by omega
    clear h h2
    go_enter Try.func25, Try.ntmps25
    go_wp2
    go_ret
    exact ⟨ret_bool ((bit_form s i hs).trans (hasB_in s i hi).symm), rfl⟩

set_option maxHeartbeats 1000000 in
set_option maxRecDepth 20000 in
theorem list_any (s : Nat) (hs : s < 256) (w : World) : Calls Try.prog 35 #[.int .u8 s] w fun e w' => ∃ v, e = .returned v ∧ Ints w' w.heap.size 3 v (nodes s) ∧ Kept [] w w' := by
  obtain ⟨i0, hi, hz0, hz1, hz2⟩ := info_parts info3
  go_enter Try.func35, Try.ntmps35
  go_wp2
  go_loopw [3, 4] (fun v i wr => ∃ k : Nat, k ≤ 8 ∧ i = .int .i64 k ∧ Ints wr w.heap.size 3 v (pre s k) ∧ Kept [] w wr) (fun _ i _ => 8 - (intOf i).toNat)
  case atStart => exact ⟨0, by omega, rfl, World.ownsRow_nil _ _ _ _, Kept.refl _ _⟩
  case round =>
    obtain ⟨k, hk, rfl, hown, hK⟩ := hrel
    have hle := pre_le s k
    by_cases hk8 : k < 8
    · have hB := hasB_in s k hk8
      by_cases hb : s.testBit k = true
      · rw [hb] at hB
        have hsz := hK.size
        go_wp2_with (first
          | (go_at_call 25; refine (has_any s k hs _).mono ?_; rintro e w' ⟨rfl, hw⟩; subst w'; rw [hB])
          | (at_builtin; refine wpList_append_own _ rfl _ _ 22 rfl w.heap.size 3 i0 (.int .i64 0) 1 8 Try.underlying22 hi hz0 hz1 hz2 rfl (by decide) _ _ _ rfl (World.ownsRow.alloc hown _) ⟨wr.heap.size, 0, none⟩ 1 1 [.int .i64 k] rfl rfl news_one (by intro u hu; simp at hu; subst hu; rfl) (by unfold maxLen; omega) (by omega) (by simp; omega) ?_))
        intro v' w1 hown' hgrow _
        have hO : Ints w1 w.heap.size 3 v' (pre s (k + 1)) := by
          unfold Ints; rw [pre_hit hb]; simpa using hown'
        have hK2 : Kept [] w w1 := own_grown (World.ownsRow.alloc hown _) hgrow w (hK.alloc _) (Nat.le_refl _)
        have R := hide (And.intro hO hK2)
        clear hown' hgrow hown hK hO hK2 hsz
        go_wp2
        go_roundw
        case rel => exact ⟨k + 1, by omega, by go_num, R.out⟩
        case measure => simp [intOf]; omega
      · have hb : s.testBit k = false := by simpa using hb
        rw [hb] at hB
        have R := hide (And.intro hown hK)
        clear hown hK
        go_wp2_with (go_at_call 25; refine (has_any s k hs _).mono ?_; rintro e w' ⟨rfl, hw⟩; subst w'; rw [hB])
        go_roundw
        case rel => exact ⟨k + 1, by omega, by go_num, by rw [pre_miss hb]; exact R.out⟩
        case measure => simp [intOf]; omega
    · have e : k = 8 := by omega
      subst e
      have R := hide (And.intro hown hK)
      clear hown hK
      go_wp2
      go_ret
      exact ⟨_, rfl, R.out⟩

set_option maxHeartbeats 1000000 in
set_option maxRecDepth 20000 in
theorem next_any (s : Nat) (n : Int) (hs : s < 256) (w : World) : Calls Try.prog 36 #[.int .u8 s, .int .i64 n] w fun e w' => e = .returned (.tuple #[.int .i64 (nextOf (nodes s) n).1, .bool (nextOf (nodes s) n).2]) ∧ Kept [] w w' := by
  have hwf := pre_wf s 8 (by omega)
  have hle := pre_le s 8
  obtain ⟨l, hl⟩ : ∃ l, l = nodes s := ⟨_, rfl⟩
  have hwf : ∀ x, x ∈ l → (Lit.int .i64 x).wf = true := by rw [hl]; exact hwf
  have hle : l.length ≤ 8 := by rw [hl]; exact hle
  rw [← hl]
  have HL := hide hl
  have HW := hide hwf
  clear hl hwf
  go_enter Try.func36, Try.ntmps36
  go_wp2_with fail
  refine (list_any s hs _).mono ?_
  rintro e w1 ⟨v, rfl, hI, hK⟩
  rw [← HL.out] at hI
  obtain ⟨ao, cap, rfl, hI2⟩ := hI.isInts HW.out
  have KK := hide hK
  have HI := hide hI2
  clear hI hK hI2
  go_wp2_with fail
  go_loop [7] (fun i => ∃ k : Nat, k ≤ l.length ∧ i = .int .i64 k ∧ l.find? (fun y => decide (n < y)) = (l.drop k).find? (fun y => decide (n < y))) (fun i => l.length - (intOf i).toNat)
  case atStart => exact ⟨0, by omega, rfl, rfl⟩
  case round =>
    obtain ⟨k, hk, rfl, hf⟩ := hrel
    have HF := hide hf
    clear hf
    by_cases hkl : k < l.length
    · obtain ⟨b, off, hao, hc, -⟩ := HI.out k hkl
      subst hao
      have hdrop : l.drop k = l.getD k 0 :: l.drop (k + 1) := by
        rw [List.drop_eq_getElem_cons hkl]
        congr 1
        rw [List.getD_eq_getElem?_getD, List.getElem?_eq_getElem hkl]; rfl
      obtain ⟨y, hy⟩ : ∃ y, y = l.getD k 0 := ⟨_, rfl⟩
      have hc2 : w1.cell? ⟨b, off + k, none⟩ = some (.int .i64 y) := by rw [hy]; exact hc
      rw [← hy] at hdrop
      have HD := hide hdrop
      clear hdrop hy hc
      by_cases hny : n < y
      · go_wp2
        go_ret2
        refine ⟨?_, KK.out⟩
        have e : l.find? (fun y => decide (n < y)) = some y := by rw [HF.out, HD.out, List.find?_cons_of_pos (by simpa using hny)]
        cases l with
        | nil => simp at hkl
        | cons x r => simp only [nextOf, e]; rfl
      · go_wp2
        go_round
        case rel => exact ⟨k + 1, by omega, by go_num, by rw [HF.out, HD.out, List.find?_cons_of_neg (by simpa using hny)]⟩
        case measure => simp [intOf]; omega
    · have e : l.find? (fun y => decide (n < y)) = none := by rw [HF.out, List.drop_of_length_le (by omega)]; rfl
      have HE := hide e
      clear e
      cases l with
      | nil =>
        go_wp2
        go_ret2
        exact ⟨rfl, KK.out⟩
      | cons x r =>
        obtain ⟨b, off, hao, hc, -⟩ := HI.out 0 (by simp)
        subst hao
        have hc2 : w1.cell? ⟨b, off, none⟩ = some (.int .i64 x) := by simpa using hc
        clear hc
        simp only [List.length_cons] at hle hk hkl ⊢
        go_wp2
        go_ret2
        refine ⟨?_, KK.out⟩
        simp only [nextOf, HE.out]; rfl

end Go.Proofs.Ytnokpecdkibddac.NR
