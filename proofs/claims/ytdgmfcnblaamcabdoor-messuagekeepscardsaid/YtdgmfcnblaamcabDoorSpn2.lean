
/-
  No statement of the program: package span's calls, over this seat's translation.
-/
import Derived.Test.YtdgmfcnblaamcabDoorSpn
namespace Go.Proofs.YtdgmfcnblaamcabDoor.Sp
open Go.ChangeShapes Go.WideShapes Go.ChangeAt Go.RowKit Cl
section
variable {w : World} {p tb : Nat} {c sz : Int} {n : Nat} {u : Nat → Bool}
set_option maxHeartbeats 1000000 in
theorem take_any (h : SA w p tb c sz n u) (hn : 0 < n ∧ n ≤ 8) : Calls Tryd.prog 28 #[.pointer (some ⟨p, 0, none⟩)] w fun e w' =>
    (e = .returned (.tuple #[.int .i64 0, .int .i64 14]) ∧ (∀ j, j < n → u j = true) ∧ w' = w) ∨
    ∃ i : Nat, e = .returned (.tuple #[.int .i64 i, .int .i64 0]) ∧ i < n ∧ u i = false ∧ (∀ j, j < i → u j = true) ∧ SA w' p tb c sz n (up u i true) ∧ Kept [tb] w w' := by
  have f2 := h.f2
  have H := hide h
  have HN := hide hn
  have hn8 := hn.2
  clear h hn
  go_enter Tryd.func28, Tryd.ntmps28
  go_wp2_with fail
  refine (made_ok H.out HN.out.1).mono ?_
  rintro e w1 ⟨rfl, hw⟩
  subst w1
  go_wp2_with fail
  refine (index_any H.out.tab hn8).mono ?_
  rintro e w1 ⟨r, hr, rfl, hw⟩
  subst w1
  rcases hr with ⟨rfl, hall⟩ | ⟨i, rfl, hi, hu, hall⟩
  · have HA := hide hall
    clear hall
    go_wp2
    go_ret2
    exact .inl ⟨rfl, HA.out, rfl⟩
  · have HA := hide hall
    have HU := hide hu
    have hc := H.out.at hi
    have hz := H.out.tab.frozen i
    obtain ⟨hs, hk⟩ := H.out.put hi true
    have HS := hide hs
    have HK := hide hk
    clear hall hu hs hk
    go_wp2
    go_ret2
    exact .inr ⟨i, rfl, hi, HU.out, HA.out, HS.out, HK.out⟩
set_option maxHeartbeats 1000000 in
theorem take_nil (w : World) : Calls Tryd.prog 28 #[.pointer none] w fun e w' => e = .returned (.tuple #[.int .i64 0, .int .i64 1]) ∧ w' = w := by
  go_enter Tryd.func28, Tryd.ntmps28
  go_wp2_with (first | (go_at_call 55; refine (made_nil _).mono ?_; rintro e w1 ⟨rfl, hw⟩; subst w1))
  go_ret2
  exact ⟨rfl, rfl⟩
/-- Is it taken? -/
def hasB (n : Nat) (u : Nat → Bool) (i : Int) : Bool := decide (0 ≤ i ∧ i < n) && u i.toNat
set_option maxHeartbeats 1000000 in
theorem has_any (h : SA w p tb c sz n u) (hn : 0 < n ∧ n ≤ 8) (i : Int) : Calls Tryd.prog 35 #[.pointer (some ⟨p, 0, none⟩), .int .i64 i] w fun e w' => e = .returned (.bool (hasB n u i)) ∧ w' = w := by
  have f2 := h.f2
  have H := hide h
  have HN := hide hn
  have hn8 := hn.2
  clear h hn
  go_enter Tryd.func35, Tryd.ntmps35
  by_cases h0 : 0 ≤ i
  · by_cases h1 : i < n
    · obtain ⟨k, rfl⟩ : ∃ k : Nat, i = k := ⟨i.toNat, by omega⟩
      have hc := H.out.at (i := k) (by omega)
      have e : hasB n u k = u k := by unfold hasB; rw [decide_eq_true (by omega)]; simp
      have E := hide e
      clear e
      generalize u k = b at *
      go_wp2_with (first | (go_at_call 55; refine (made_ok H.out HN.out.1).mono ?_; rintro e w1 ⟨rfl, hw⟩; subst w1))
      go_ret
      exact ⟨by rw [E.out]; simp, rfl⟩
    · have e : hasB n u i = false := by unfold hasB; rw [decide_eq_false (by omega)]; simp
      have E := hide e
      clear e
      go_wp2_with (first | (go_at_call 55; refine (made_ok H.out HN.out.1).mono ?_; rintro e w1 ⟨rfl, hw⟩; subst w1))
      go_ret
      exact ⟨by rw [E.out]; simp, rfl⟩
  · have e : hasB n u i = false := by unfold hasB; rw [decide_eq_false (by omega)]; simp
    have E := hide e
    clear e
    go_wp2_with (first | (go_at_call 55; refine (made_ok H.out HN.out.1).mono ?_; rintro e w1 ⟨rfl, hw⟩; subst w1))
    go_ret
    exact ⟨by rw [E.out]; simp, rfl⟩
set_option maxHeartbeats 1000000 in
theorem has_nil (w : World) (i : Int) : Calls Tryd.prog 35 #[.pointer none, .int .i64 i] w fun e w' => e = .returned (.bool false) ∧ w' = w := by
  go_enter Tryd.func35, Tryd.ntmps35
  go_wp2_with (first | (go_at_call 55; refine (made_nil _).mono ?_; rintro e w1 ⟨rfl, hw⟩; subst w1))
  go_ret
  exact ⟨rfl, rfl⟩
set_option maxHeartbeats 1000000 in
theorem give_any (h : SA w p tb c sz n u) (hn : 0 < n ∧ n ≤ 8) (i : Int) : Calls Tryd.prog 33 #[.pointer (some ⟨p, 0, none⟩), .int .i64 i] w fun e w' =>
    (e = .returned (.int .i64 6) ∧ hasB n u i = false ∧ w' = w) ∨
    (e = .returned (.int .i64 0) ∧ hasB n u i = true ∧ SA w' p tb c sz n (up u i.toNat false) ∧ Kept [tb] w w') := by
  have f2 := h.f2
  have H := hide h
  have HN := hide hn
  have hn8 := hn.2
  clear h hn
  go_enter Tryd.func33, Tryd.ntmps33
  go_wp2_with fail
  refine (made_ok H.out HN.out.1).mono ?_
  rintro e w1 ⟨rfl, hw⟩
  subst w1
  go_wp2_with fail
  refine (has_any H.out HN.out i).mono ?_
  rintro e w1 ⟨rfl, hw⟩
  subst w1
  cases hh : hasB n u i with
  | false =>
    have HH := hide hh
    clear hh
    go_wp2
    go_ret
    exact .inl ⟨rfl, by first | exact HH.out | rfl, rfl⟩
  | true =>
    have HH := hide hh
    have hb : 0 ≤ i ∧ i < n := by
      have := hh
      unfold hasB at this
      simp at this
      exact this.1
    clear hh
    obtain ⟨k, rfl⟩ : ∃ k : Nat, i = k := ⟨i.toNat, by omega⟩
    have hk : k < n := by omega
    have hc := H.out.at hk
    have hz := H.out.tab.frozen k
    obtain ⟨hs, hkk⟩ := H.out.put hk false
    have HS := hide hs
    have HK := hide hkk
    clear hs hkk
    go_wp2
    go_ret
    exact .inr ⟨rfl, by first | exact HH.out | rfl, HS.out, HK.out⟩
set_option maxHeartbeats 1000000 in
theorem give_nil (w : World) (i : Int) : Calls Tryd.prog 33 #[.pointer none, .int .i64 i] w fun e w' => e = .returned (.int .i64 1) ∧ w' = w := by
  go_enter Tryd.func33, Tryd.ntmps33
  go_wp2_with (first | (go_at_call 55; refine (made_nil _).mono ?_; rintro e w1 ⟨rfl, hw⟩; subst w1))
  go_ret
  exact ⟨rfl, rfl⟩
/-- How many are taken. -/
def cnt (u : Nat → Bool) : Nat → Nat
  | 0 => 0
  | k + 1 => cnt u k + (if u k then 1 else 0)
theorem cnt_le (u : Nat → Bool) : ∀ k, cnt u k ≤ k
  | 0 => Nat.le_refl _
  | k + 1 => by have := cnt_le u k; unfold cnt; split <;> omega
set_option maxHeartbeats 1000000 in
theorem used_any (h : SA w p tb c sz n u) (hn : 0 < n ∧ n ≤ 8) : Calls Tryd.prog 37 #[.pointer (some ⟨p, 0, none⟩)] w fun e w' => e = .returned (.int .i64 (cnt u n : Nat)) ∧ w' = w := by
  have f2 := h.f2
  have H := hide h
  have HN := hide hn
  have hn8 := hn.2
  clear h hn
  go_enter Tryd.func37, Tryd.ntmps37
  go_wp2_with (first | (go_at_call 55; refine (made_ok H.out HN.out.1).mono ?_; rintro e w1 ⟨rfl, hw⟩; subst w1))
  go_loop [3, 14] (fun x v => ∃ k : Nat, k ≤ n ∧ v = .int .i64 k ∧ x = .int .i64 (cnt u k : Nat)) (fun x v => n - (intOf v).toNat)
  case atStart => exact ⟨0, Nat.zero_le _, rfl, rfl⟩
  case round =>
    obtain ⟨k, hk, rfl, rfl⟩ := hrel
    by_cases hkn : k < n
    · have hc := H.out.at hkn
      have hcl := cnt_le u k
      cases hu : u k with
      | true =>
        rw [hu] at hc
        have e : cnt u (k + 1) = cnt u k + 1 := by simp [cnt, hu]
        have E := hide e
        clear e hu
        generalize cnt u k = m at *
        go_wp2
        go_round
        case rel => exact ⟨k + 1, hkn, by go_num, by rw [E.out]; go_num⟩
        case measure => simp [intOf]; omega
      | false =>
        rw [hu] at hc
        have e : cnt u (k + 1) = cnt u k := by simp [cnt, hu]
        have E := hide e
        clear e hu
        generalize cnt u k = m at *
        go_wp2
        go_round
        case rel => exact ⟨k + 1, hkn, by go_num, by rw [E.out]⟩
        case measure => simp [intOf]; omega
    · obtain rfl : k = n := by omega
      go_wp2
      go_ret
      exact ⟨rfl, rfl⟩
theorem used_nil (w : World) : Calls Tryd.prog 37 #[.pointer none] w fun e w' => e = .returned (.int .i64 0) ∧ w' = w := by
  go_enter Tryd.func37, Tryd.ntmps37
  go_wp2_with (first | (go_at_call 55; refine (made_nil _).mono ?_; rintro e w1 ⟨rfl, hw⟩; subst w1))
  go_ret
  exact ⟨rfl, rfl⟩
theorem cnt_all (u : Nat → Bool) : ∀ k, (∀ j, j < k → u j = true) → cnt u k = k
  | 0, _ => rfl
  | k + 1, h => by unfold cnt; rw [cnt_all u k (fun j hj => h j (by omega)), if_pos (h k (by omega))]
theorem cnt_some (u : Nat → Bool) (i : Nat) (hi : u i = false) : ∀ k, i < k → cnt u k < k
  | k + 1, h => by
    unfold cnt
    by_cases e : i = k
    · subst e
      have := cnt_le u i
      rw [hi]; simp; omega
    · have := cnt_some u i hi k (by omega)
      split <;> omega
theorem fst_cnt {r : Int} (h : Fst n u r) : decide (0 ≤ r) = !decide (cnt u n = n) := by
  rcases h with ⟨rfl, hall⟩ | ⟨i, rfl, hi, hu, -⟩
  · rw [cnt_all u n hall]; simp
  · have := cnt_some u i hu n hi
    rw [decide_eq_false (show ¬ cnt u n = n by omega)]
    simp
end
end Go.Proofs.YtdgmfcnblaamcabDoor.Sp
