/-
  SpanActs answers true at every class, row of acts and offset: in every row of calls a span answers what the chapter says; of none nothing is told. The table of package class that the row lists is as its own text lays it (the card ties it to it); the card speaks of the pruned copy of the project that the seat holds.
-/
import Derived.Test.YtfkekjnbjepaaaaDoorSpn4
import Derived.Test.YtfkekjnbjepaaaaDoorLeftI
import Derived.Test.YtfkekjnbjepaaaaDoorStructs
import Derived.Test.YtfkekjnbjepaaaaDoorTabs
import Derived.Test.YtfkekjnbjepaaaaDoorCards
import Derived.Test.YtfkekjnbjepaaaaDoorTie
import Derived.Deep.DeepHandedRow
import Derived.Lay
namespace Go.Proofs.YtfkekjnbjepaaaaDoor.acts
open Go.ChangeShapes Go.WideShapes Go.ChangeAt Go.RowKit Cl Sp By
theorem none_ok (w : World) : Calls Tryd.prog 5 #[] w fun e w' => e = .returned (.pointer none) ∧ w' = w := by
  go_enter Tryd.func5, Tryd.ntmps5
  go_wp2
  go_ret
  exact ⟨rfl, rfl⟩
/-- Both spans, side by side. -/
structure SR (W w : World) (p tb r rb : Nat) (c sz : Int) (n : Nat) (u v : Nat → Bool) : Prop where
  sa : SA w p tb c sz n u
  ra : RA w r rb c n v
  kept : Kept [] W w
  far : W.heap.size ≤ p ∧ W.heap.size ≤ tb ∧ W.heap.size ≤ r ∧ W.heap.size ≤ rb
  apart : p ≠ rb ∧ tb ≠ r ∧ tb ≠ rb
section
variable {W w : World} {p tb r rb : Nat} {c sz : Int} {n : Nat} {u v : Nat → Bool}
theorem SR.next {w' : World} (h : SR W w p tb r rb c sz n u v) (k : Kept [] w w') : SR W w' p tb r rb c sz n u v := ⟨h.sa.kept0 k, h.ra.kept0 k, h.kept.next k, h.far, h.apart⟩
theorem SR.give1y (h : SR W w p tb r rb c sz n u v) (hn : 0 < n ∧ n ≤ 8) (i : Int) (hb : hasB n u i = true) : Calls Tryd.prog 9 #[.pointer (some ⟨p, 0, none⟩), .int .i64 i] w fun e w' => e = .returned (.int .i64 0) ∧ SR W w' p tb r rb c sz n (up u i.toNat false) v := by
  refine (give_any h.sa hn i).mono ?_
  rintro e w' (⟨-, h1, -⟩ | ⟨rfl, -, hs, hk⟩)
  · rw [hb] at h1; cases h1
  · exact ⟨rfl, hs, h.ra.kept hk (by simpa using fun e => h.apart.2.1 e.symm) (by simpa using fun e => h.apart.2.2 e.symm), h.kept.trans hk (fun x hx hl => by simp at hx; have := h.far.2.1; omega), h.far, h.apart⟩
theorem SR.give1n (h : SR W w p tb r rb c sz n u v) (hn : 0 < n ∧ n ≤ 8) (i : Int) (hb : hasB n u i = false) : Calls Tryd.prog 9 #[.pointer (some ⟨p, 0, none⟩), .int .i64 i] w fun e w' => e = .returned (.int .i64 6) ∧ SR W w' p tb r rb c sz n u v := by
  refine (give_any h.sa hn i).mono ?_
  rintro e w' (⟨rfl, -, hw⟩ | ⟨-, h1, -⟩)
  · subst hw; exact ⟨rfl, h⟩
  · rw [hb] at h1; cases h1
theorem SR.give2y (h : SR W w p tb r rb c sz n u v) (hn : 0 < n ∧ n ≤ 8) (i : Int) (hb : hasB n v i = true) : Calls Tryd.prog 17 #[.pointer (some ⟨r, 0, none⟩), .int .i64 i] w fun e w' => e = .returned (.int .i64 0) ∧ SR W w' p tb r rb c sz n u (up v i.toNat false) := by
  refine (rgive_any h.ra hn i).mono ?_
  rintro e w' (⟨-, h1, -⟩ | ⟨rfl, -, hs, hk⟩)
  · rw [hb] at h1; cases h1
  · exact ⟨rfl, h.sa.kept hk (by simpa using h.apart.1) (by simpa using h.apart.2.2), hs, h.kept.trans hk (fun x hx hl => by simp at hx; have := h.far.2.2.2; omega), h.far, h.apart⟩
theorem SR.give2n (h : SR W w p tb r rb c sz n u v) (hn : 0 < n ∧ n ≤ 8) (i : Int) (hb : hasB n v i = false) : Calls Tryd.prog 17 #[.pointer (some ⟨r, 0, none⟩), .int .i64 i] w fun e w' => e = .returned (.int .i64 6) ∧ SR W w' p tb r rb c sz n u v := by
  refine (rgive_any h.ra hn i).mono ?_
  rintro e w' (⟨rfl, -, hw⟩ | ⟨-, h1, -⟩)
  · subst hw; exact ⟨rfl, h⟩
  · rw [hb] at h1; cases h1
/-- The first that is free, or none. -/
theorem fst_or (u : Nat → Bool) : ∀ n, (∀ j, j < n → u j = true) ∨ ∃ i, i < n ∧ u i = false ∧ ∀ j, j < i → u j = true
  | 0 => .inl (fun j hj => by omega)
  | n + 1 => by
    rcases fst_or u n with h | ⟨i, h1, h2, h3⟩
    · cases e : u n with
      | false => exact .inr ⟨n, by omega, e, h⟩
      | true => exact .inl (fun j hj => by
          by_cases e2 : j = n
          · rw [e2]; exact e
          · exact h j (by omega))
    · exact .inr ⟨i, by omega, h2, h3⟩
theorem SR.take1 (h : SR W w p tb r rb c sz n u v) (hn : 0 < n ∧ n ≤ 8) (i : Nat) (hi : i < n) (hu : u i = false) (hall : ∀ j, j < i → u j = true) : Calls Tryd.prog 6 #[.pointer (some ⟨p, 0, none⟩)] w fun e w' => e = .returned (.tuple #[.int .i64 i, .int .i64 0]) ∧ SR W w' p tb r rb c sz n (up u i true) v := by
  refine (take_at h.sa hn i hi hu hall).mono ?_
  rintro e w' ⟨rfl, hs, hk⟩
  exact ⟨rfl, hs, h.ra.kept hk (by simpa using fun e => h.apart.2.1 e.symm) (by simpa using fun e => h.apart.2.2 e.symm), h.kept.trans hk (fun x hx hl => by simp at hx; have := h.far.2.1; omega), h.far, h.apart⟩
theorem SR.take2 (h : SR W w p tb r rb c sz n u v) (hn : 0 < n ∧ n ≤ 8) (i : Nat) (hi : i < n) (hu : v i = false) (hall : ∀ j, j < i → v j = true) : Calls Tryd.prog 18 #[.pointer (some ⟨r, 0, none⟩)] w fun e w' => e = .returned (.tuple #[.int .i64 i, .int .i64 0]) ∧ SR W w' p tb r rb c sz n u (up v i true) := by
  refine (rtake_any h.ra hn).mono ?_
  rintro e w' (⟨-, h1, -⟩ | ⟨k, rfl, hk, hk2, hk3, hs, hkk⟩)
  · have := h1 i hi
    rw [hu] at this; cases this
  · have : k = i := by
      by_cases e1 : k < i
      · have := hall k e1
        rw [hk2] at this; cases this
      · by_cases e2 : i < k
        · have := hk3 i e2
          rw [hu] at this; cases this
        · omega
    subst this
    exact ⟨rfl, h.sa.kept hkk (by simpa using h.apart.1) (by simpa using h.apart.2.2), hs, h.kept.trans hkk (fun x hx hl => by simp at hx; have := h.far.2.2.2; omega), h.far, h.apart⟩
theorem SR.full2 (h : SR W w p tb r rb c sz n u v) (hn : 0 < n ∧ n ≤ 8) (hall : ∀ j, j < n → v j = true) : Calls Tryd.prog 18 #[.pointer (some ⟨r, 0, none⟩)] w fun e w' => e = .returned (.tuple #[.int .i64 0, .int .i64 14]) ∧ w' = w := by
  refine (rtake_any h.ra hn).mono ?_
  rintro e w' (⟨rfl, -, rfl⟩ | ⟨k, -, hk, hk2, -⟩)
  · exact ⟨rfl, rfl⟩
  · have := hall k hk
    rw [hk2] at this; cases this
theorem full_at (h : SA w p tb c sz n u) (hn : 0 < n ∧ n ≤ 8) {b : Bool} (hb : decide (cnt u n = n) = b) : Calls Tryd.prog 13 #[.pointer (some ⟨p, 0, none⟩)] w fun e w' => e = .returned (.bool b) ∧ w' = w := by
  rw [← hb]; exact full_any h hn
theorem empty_at (h : SA w p tb c sz n u) (hn : 0 < n ∧ n ≤ 8) {b : Bool} (hb : decide (cnt u n = 0) = b) : Calls Tryd.prog 14 #[.pointer (some ⟨p, 0, none⟩)] w fun e w' => e = .returned (.bool b) ∧ w' = w := by
  rw [← hb]; exact empty_any h hn
theorem used_at (h : SA w p tb c sz n u) (hn : 0 < n ∧ n ≤ 8) {m : Nat} (hb : cnt u n = m) : Calls Tryd.prog 11 #[.pointer (some ⟨p, 0, none⟩)] w fun e w' => e = .returned (.int .i64 m) ∧ w' = w := by
  rw [← hb]; exact used_any h hn
theorem rused_at (h : RA w r rb c n u) (hn : 0 < n ∧ n ≤ 8) {m : Nat} (hb : cnt u n = m) : Calls Tryd.prog 19 #[.pointer (some ⟨r, 0, none⟩)] w fun e w' => e = .returned (.int .i64 m) ∧ w' = w := by
  rw [← hb]; exact rused_any h hn
end
/-- Acts among the arguments. -/
def IsActs (w : World) (ao : Option Addr) (len : Nat) : Prop := ∀ i, i < len → ∃ b off gv iv, ao = some ⟨b, off, none⟩ ∧ w.cell? ⟨b, off + i * 2, none⟩ = some (.bool gv) ∧ w.cell? ⟨b, off + i * 2 + 1, none⟩ = some (.int .i64 iv)
set_option maxRecDepth 20000 in
set_option maxHeartbeats 4000000 in
theorem walkA (x off : Int) (hx : ¬ (0 ≤ x ∧ x < 4)) {ao : Option Addr} {len cap : Nat} {w : World} (hT : Tab w) : Calls Tryd.prog 3 #[.int .i64 x, .slice ao len cap, .int .i64 off] w fun e w' => e = .returned (.bool true) ∧ Kept [] w w' := by
  have T := hide hT
  have HX := hide hx
  clear hT hx
  go_enter Tryd.func3, Tryd.ntmps3
  go_wp2_with (first | (go_at_call 5; refine (none_ok _).mono ?_; rintro e w' ⟨rfl, hw⟩; subst w') | (go_at_call 6; refine (take_nil _).mono ?_; rintro e w' ⟨rfl, hw⟩; subst w') | (go_at_call 7; refine (index_nil _ _).mono ?_; rintro e w' ⟨rfl, hw⟩; subst w'))
  refine (spans_true T.out).mono ?_
  rintro e w2 ⟨rfl, hk2⟩
  have K2 := hide hk2
  have T2 := hide (T.out.kept0 hk2)
  clear hk2 T
  go_wp2_with (first | (go_at_call 5; refine (none_ok _).mono ?_; rintro e w' ⟨rfl, hw⟩; subst w') | (go_at_call 9; refine (give_nil _ _).mono ?_; rintro e w' ⟨rfl, hw⟩; subst w') | (go_at_call 10; refine (has_nil _ _).mono ?_; rintro e w' ⟨rfl, hw⟩; subst w') | (go_at_call 11; refine (used_nil _).mono ?_; rintro e w' ⟨rfl, hw⟩; subst w') | (go_at_call 12; refine (class_nil _).mono ?_; rintro e w' ⟨rfl, hw⟩; subst w') | (go_at_call 13; refine (full_nil _).mono ?_; rintro e w' ⟨rfl, hw⟩; subst w') | (go_at_call 14; refine (empty_nil _).mono ?_; rintro e w' ⟨rfl, hw⟩; subst w'))
  refine (new_no x HX.out T2.out).mono ?_
  rintro e w3 ⟨rfl, hk3⟩
  have K3 := hide (K2.out.next hk3)
  clear hk3 K2 T2
  have hx := HX.out
  by_cases h0 : x < 0
  · clear hx HX
    go_wp2
    go_ret
    exact ⟨rfl, K3.out⟩
  · have h3 : 3 < x := by omega
    clear hx HX
    go_wp2
    go_ret
    exact ⟨rfl, K3.out⟩
set_option maxRecDepth 20000 in
set_option maxHeartbeats 8000000 in
theorem walkB (c : Nat) (hc : c < 4) (off : Int) (hoff : off ≤ 9223372036854775807) {ao : Option Addr} {len cap : Nat} {w : World} (_hl : len ≤ maxLen) (hA : IsActs w ao len) (hT : Tab w) : Calls Tryd.prog 3 #[.int .i64 c, .slice ao len cap, .int .i64 off] w fun e w' => e = .returned (.bool true) ∧ Kept [] w w' := by
  unfold maxLen at _hl
  obtain ⟨n, sz, hz⟩ := cz c (by omega)
  have T := hide hT
  have HA := hide hA
  have CZ := hide hz
  have hn := hide hz.pos
  obtain ⟨n1, n2⟩ := hz.pos
  have hc0 : ¬ (c : Int) < 0 := by omega
  have hc3 : ¬ 3 < (c : Int) := by omega
  have HKO := hide (show ∀ k : Nat, off = k → k ≤ 9223372036854775807 from fun k e => by omega)
  clear hT hA hz hoff
  go_enter Tryd.func3, Tryd.ntmps3
  go_wp2_with (first | (go_at_call 5; refine (none_ok _).mono ?_; rintro e w' ⟨rfl, hw⟩; subst w') | (go_at_call 6; refine (take_nil _).mono ?_; rintro e w' ⟨rfl, hw⟩; subst w') | (go_at_call 7; refine (index_nil _ _).mono ?_; rintro e w' ⟨rfl, hw⟩; subst w'))
  refine (spans_true T.out).mono ?_
  rintro e w2 ⟨rfl, hk2⟩
  have K2 := hide hk2
  have T2 := hide (T.out.kept0 hk2)
  clear hk2 T
  go_wp2_with (first | (go_at_call 5; refine (none_ok _).mono ?_; rintro e w' ⟨rfl, hw⟩; subst w') | (go_at_call 9; refine (give_nil _ _).mono ?_; rintro e w' ⟨rfl, hw⟩; subst w') | (go_at_call 10; refine (has_nil _ _).mono ?_; rintro e w' ⟨rfl, hw⟩; subst w') | (go_at_call 11; refine (used_nil _).mono ?_; rintro e w' ⟨rfl, hw⟩; subst w') | (go_at_call 12; refine (class_nil _).mono ?_; rintro e w' ⟨rfl, hw⟩; subst w') | (go_at_call 13; refine (full_nil _).mono ?_; rintro e w' ⟨rfl, hw⟩; subst w') | (go_at_call 14; refine (empty_nil _).mono ?_; rintro e w' ⟨rfl, hw⟩; subst w'))
  refine (new_ok c CZ.out T2.out).mono ?_
  rintro e w3 ⟨p, tb, rfl, hs, hp, ht, hk⟩
  have S3 := hide hs
  have K3 := hide (K2.out.next hk)
  have HP := hide (show w.heap.size ≤ p ∧ w.heap.size ≤ tb from ⟨Nat.le_trans K2.out.size hp, Nat.le_trans K2.out.size ht⟩)
  clear hs hk hp ht K2 T2
  go_wp2_with fail
  refine (rnew_ok c CZ.out w3).mono ?_
  rintro e w4 ⟨r, rb, rfl, hr, hr1, hr2, hk⟩
  have S4 := hide (show SR w w4 p tb r rb c sz n (fun _ => false) (fun _ => false) from ⟨S3.out.kept0 hk, hr, K3.out.next hk, ⟨HP.out.1, HP.out.2, Nat.le_trans K3.out.size hr1, Nat.le_trans K3.out.size hr2⟩, by have := S3.out.row.lt; have := S3.out.tab.lt; omega, by have := S3.out.row.lt; have := S3.out.tab.lt; omega, by have := S3.out.row.lt; have := S3.out.tab.lt; omega⟩)
  clear hr hr1 hr2 hk S3 K3 HP
  go_wp2_with fail
  go_loopw [14] (fun v wr => ∃ (k : Nat) (u : Nat → Bool), k ≤ len ∧ k ≤ 40 ∧ v = .int .i64 k ∧ SR w wr p tb r rb c sz n u u) (fun v _ => 40 - (intOf v).toNat)
  case atStart => exact ⟨0, _, Nat.zero_le _, Nat.zero_le _, rfl, S4.out⟩
  case round =>
    obtain ⟨k, u, hk1, hk2, rfl, hS⟩ := hrel
    have S := hide hS
    clear hS S4
    by_cases hk : k < len ∧ k < 40
    · obtain ⟨b, of, gv, iv, rfl, x0, x1⟩ := HA.out k hk.1
      have X0 := hide x0
      have X1 := hide x1
      have y0 := S.out.kept.cell x0 (by simp)
      have y1 := S.out.kept.cell x1 (by simp)
      have hk0 : (0 : Int) ≤ (k : Int) := by omega
      have hk3 : (k : Int) < (len : Int) := by omega
      have hk4 : (k : Int) < 40 := by omega
      clear x0 x1
      cases gv with
      | true =>
        cases hb : hasB n u iv with
        | true =>
          have HB := hide hb
          clear hb
          go_wp2_with fail
          go_region_held3 (fun w' => w'.cell? ⟨b, of + k * 2 + 1, none⟩ = some (.int .i64 iv)) (go_keep) (first
            | (go_at_call 9; refine ((S.out.next (by first | exact Kept.refl [] _ | exact (Kept.refl [] _).drew | exact (Kept.refl [] _).drewN _)).give1y hn.out iv HB.out).mono ?_; rintro e w5 ⟨rfl, hS5⟩; have y5 := hS5.kept.cell X1.out (by simp); have S5 := hide hS5; clear hS5)
            | (go_at_call 17; refine (S5.out.give2y hn.out iv HB.out).mono ?_; rintro e w6 ⟨rfl, hS6⟩; have y6 := hS6.kept.cell X1.out (by simp); have S6 := hide hS6; clear hS6))
          rename_i hHeld
          clear hHeld y0 y1 y5 y6 S5 S HB X0 X1
          have SV := S6
          obtain ⟨m, hm⟩ : ∃ m, cnt (up u iv.toNat false) n = m := ⟨_, rfl⟩
          have hmle : m ≤ n := by rw [← hm]; exact cnt_le _ _
          obtain ⟨b1, hb1⟩ : ∃ b1 : Bool, ((m : Int) == (n : Int)) = b1 := ⟨_, rfl⟩
          obtain ⟨b2, hb2⟩ : ∃ b2 : Bool, ((m : Int) == 0) = b2 := ⟨_, rfl⟩
          have HM := hide hm
          have HB1 := hide (show decide (cnt (up u iv.toNat false) n = n) = b1 by rw [hm, ← hb1]; by_cases e : m = n <;> simp [e] <;> omega)
          have HB2 := hide (show decide (cnt (up u iv.toNat false) n = 0) = b2 by rw [hm, ← hb2]; by_cases e : m = 0 <;> simp [e])
          have hmm : ((m : Int) != (m : Int)) = false := by simp
          have f1 := SV.out.ra.f1
          clear hm S6
          go_wp2_with fail
          refine (rused_at SV.out.ra hn.out HM.out).mono ?_
          rintro e w' ⟨rfl, hw⟩
          subst w'
          go_wp2_with fail
          go_quiet (first | (go_at_call 11; refine (used_at (SV.out.next ((Kept.refl [] w6).drewN _)).sa hn.out HM.out).mono ?_; rintro e w10 ⟨rfl, hw10⟩; exact ⟨rfl, _, hw10⟩) | (go_at_call 13; refine (full_at (SV.out.next ((Kept.refl [] w6).drewN _)).sa hn.out HB1.out).mono ?_; rintro e w10 ⟨rfl, hw10⟩; exact ⟨rfl, _, hw10⟩) | (go_at_call 14; refine (empty_at (SV.out.next ((Kept.refl [] w6).drewN _)).sa hn.out HB2.out).mono ?_; rintro e w10 ⟨rfl, hw10⟩; exact ⟨rfl, _, hw10⟩))
          go_wp2
          go_roundw
          case rel => exact ⟨k + 1, _, by omega, by omega, by go_num, SV.out.next ((Kept.refl [] w6).drewN _)⟩
          case measure => simp [intOf]; omega
        | false =>
          have HB := hide hb
          clear hb
          go_wp2_with fail
          go_region_held3 (fun w' => w'.cell? ⟨b, of + k * 2 + 1, none⟩ = some (.int .i64 iv)) (go_keep) (first
            | (go_at_call 9; refine ((S.out.next (by first | exact Kept.refl [] _ | exact (Kept.refl [] _).drew | exact (Kept.refl [] _).drewN _)).give1n hn.out iv HB.out).mono ?_; rintro e w5 ⟨rfl, hS5⟩; have y5 := hS5.kept.cell X1.out (by simp); have S5 := hide hS5; clear hS5)
            | (go_at_call 17; refine (S5.out.give2n hn.out iv HB.out).mono ?_; rintro e w6 ⟨rfl, hS6⟩; have y6 := hS6.kept.cell X1.out (by simp); have S6 := hide hS6; clear hS6))
          rename_i hHeld
          clear hHeld y0 y1 y5 y6 S5 S HB X0 X1
          have SV := S6
          obtain ⟨m, hm⟩ : ∃ m, cnt u n = m := ⟨_, rfl⟩
          have hmle : m ≤ n := by rw [← hm]; exact cnt_le _ _
          obtain ⟨b1, hb1⟩ : ∃ b1 : Bool, ((m : Int) == (n : Int)) = b1 := ⟨_, rfl⟩
          obtain ⟨b2, hb2⟩ : ∃ b2 : Bool, ((m : Int) == 0) = b2 := ⟨_, rfl⟩
          have HM := hide hm
          have HB1 := hide (show decide (cnt u n = n) = b1 by rw [hm, ← hb1]; by_cases e : m = n <;> simp [e] <;> omega)
          have HB2 := hide (show decide (cnt u n = 0) = b2 by rw [hm, ← hb2]; by_cases e : m = 0 <;> simp [e])
          have hmm : ((m : Int) != (m : Int)) = false := by simp
          have f1 := SV.out.ra.f1
          clear hm S6
          go_wp2_with fail
          refine (rused_at SV.out.ra hn.out HM.out).mono ?_
          rintro e w' ⟨rfl, hw⟩
          subst w'
          go_wp2_with fail
          go_quiet (first | (go_at_call 11; refine (used_at (SV.out.next ((Kept.refl [] w6).drewN _)).sa hn.out HM.out).mono ?_; rintro e w10 ⟨rfl, hw10⟩; exact ⟨rfl, _, hw10⟩) | (go_at_call 13; refine (full_at (SV.out.next ((Kept.refl [] w6).drewN _)).sa hn.out HB1.out).mono ?_; rintro e w10 ⟨rfl, hw10⟩; exact ⟨rfl, _, hw10⟩) | (go_at_call 14; refine (empty_at (SV.out.next ((Kept.refl [] w6).drewN _)).sa hn.out HB2.out).mono ?_; rintro e w10 ⟨rfl, hw10⟩; exact ⟨rfl, _, hw10⟩))
          go_wp2
          go_roundw
          case rel => exact ⟨k + 1, _, by omega, by omega, by go_num, SV.out.next ((Kept.refl [] w6).drewN _)⟩
          case measure => simp [intOf]; omega
      | false =>
        clear y1 X1
        rcases fst_or u n with hall | ⟨i, hi, hui, hall⟩
        · have HALL := hide hall
          clear hall
          go_wp2_with fail
          refine (take_full S.out.sa hn.out HALL.out).mono ?_
          rintro e w' ⟨rfl, hw⟩
          subst w'
          go_wp2_with fail
          refine (S.out.full2 hn.out HALL.out).mono ?_
          rintro e w' ⟨rfl, hw⟩
          subst w'
          clear HALL y0 X0
          have SV := S
          obtain ⟨m, hm⟩ : ∃ m, cnt u n = m := ⟨_, rfl⟩
          have hmle : m ≤ n := by rw [← hm]; exact cnt_le _ _
          obtain ⟨b1, hb1⟩ : ∃ b1 : Bool, ((m : Int) == (n : Int)) = b1 := ⟨_, rfl⟩
          obtain ⟨b2, hb2⟩ : ∃ b2 : Bool, ((m : Int) == 0) = b2 := ⟨_, rfl⟩
          have HM := hide hm
          have HB1 := hide (show decide (cnt u n = n) = b1 by rw [hm, ← hb1]; by_cases e : m = n <;> simp [e] <;> omega)
          have HB2 := hide (show decide (cnt u n = 0) = b2 by rw [hm, ← hb2]; by_cases e : m = 0 <;> simp [e])
          have hmm : ((m : Int) != (m : Int)) = false := by simp
          have f1 := SV.out.ra.f1
          clear hm S
          go_wp2_with fail
          refine (rused_at SV.out.ra hn.out HM.out).mono ?_
          rintro e w' ⟨rfl, hw⟩
          subst w'
          go_wp2_with fail
          go_quiet (first | (go_at_call 11; refine (used_at (SV.out.next ((Kept.refl [] wr).drewN _)).sa hn.out HM.out).mono ?_; rintro e w10 ⟨rfl, hw10⟩; exact ⟨rfl, _, hw10⟩) | (go_at_call 13; refine (full_at (SV.out.next ((Kept.refl [] wr).drewN _)).sa hn.out HB1.out).mono ?_; rintro e w10 ⟨rfl, hw10⟩; exact ⟨rfl, _, hw10⟩) | (go_at_call 14; refine (empty_at (SV.out.next ((Kept.refl [] wr).drewN _)).sa hn.out HB2.out).mono ?_; rintro e w10 ⟨rfl, hw10⟩; exact ⟨rfl, _, hw10⟩))
          go_wp2
          go_roundw
          case rel => exact ⟨k + 1, _, by omega, by omega, by go_num, SV.out.next ((Kept.refl [] wr).drewN _)⟩
          case measure => simp [intOf]; omega
        · have HALL := hide hall
          have HI := hide hi
          have HU := hide hui
          clear hall hi hui
          go_wp2_with fail
          refine (S.out.take1 hn.out i HI.out HU.out HALL.out).mono ?_
          rintro e w5 ⟨rfl, hS5⟩
          have S5 := hide hS5
          clear hS5
          go_wp2_with fail
          refine (S5.out.take2 hn.out i HI.out HU.out HALL.out).mono ?_
          rintro e w6 ⟨rfl, hS6⟩
          have S6 := hide hS6
          clear hS6 S5 S HALL HI HU y0 X0
          have SV := S6
          obtain ⟨m, hm⟩ : ∃ m, cnt (up u i true) n = m := ⟨_, rfl⟩
          have hmle : m ≤ n := by rw [← hm]; exact cnt_le _ _
          obtain ⟨b1, hb1⟩ : ∃ b1 : Bool, ((m : Int) == (n : Int)) = b1 := ⟨_, rfl⟩
          obtain ⟨b2, hb2⟩ : ∃ b2 : Bool, ((m : Int) == 0) = b2 := ⟨_, rfl⟩
          have HM := hide hm
          have HB1 := hide (show decide (cnt (up u i true) n = n) = b1 by rw [hm, ← hb1]; by_cases e : m = n <;> simp [e] <;> omega)
          have HB2 := hide (show decide (cnt (up u i true) n = 0) = b2 by rw [hm, ← hb2]; by_cases e : m = 0 <;> simp [e])
          have hmm : ((m : Int) != (m : Int)) = false := by simp
          have f1 := SV.out.ra.f1
          clear hm S6
          go_wp2_with fail
          refine (rused_at SV.out.ra hn.out HM.out).mono ?_
          rintro e w' ⟨rfl, hw⟩
          subst w'
          go_wp2_with fail
          go_quiet (first | (go_at_call 11; refine (used_at (SV.out.next ((Kept.refl [] w6).drewN _)).sa hn.out HM.out).mono ?_; rintro e w10 ⟨rfl, hw10⟩; exact ⟨rfl, _, hw10⟩) | (go_at_call 13; refine (full_at (SV.out.next ((Kept.refl [] w6).drewN _)).sa hn.out HB1.out).mono ?_; rintro e w10 ⟨rfl, hw10⟩; exact ⟨rfl, _, hw10⟩) | (go_at_call 14; refine (empty_at (SV.out.next ((Kept.refl [] w6).drewN _)).sa hn.out HB2.out).mono ?_; rintro e w10 ⟨rfl, hw10⟩; exact ⟨rfl, _, hw10⟩))
          go_wp2
          go_roundw
          case rel => exact ⟨k + 1, _, by omega, by omega, by go_num, SV.out.next ((Kept.refl [] w6).drewN _)⟩
          case measure => simp [intOf]; omega
    · have hnn : ¬ ((k : Int) < len ∧ (k : Int) < 40) := by omega
      have S0 := hide S.out
      clear S HA
      by_cases hkl : (k : Int) < len
      all_goals
        first | (have hk40 : ¬ ((k : Int) < 40) := by omega) | skip
        clear hnn
        go_wp2_with fail
        go_loopw [20] (fun v wr => ∃ (q : Nat) (z : Int), z = (q : Int) - 1 ∧ v = .int .i64 z ∧ q ≤ n + 2 ∧ SR w wr p tb r rb c sz n u u) (fun v _ => (n + 1 - intOf v).toNat)
        case atStart => exact ⟨0, -1, rfl, rfl, by omega, S0.out⟩
        case round =>
          clear S0
          obtain ⟨q, z, hz, rfl, hq, hS⟩ := hrel
          have HZ := hide hz
          have S := hide hS
          clear hS
          have f1 := S.out.ra.f1
          by_cases hqn : q ≤ n + 1
          · have hzn : z ≤ (n : Int) := by omega
            have HQ := hide hqn
            clear hq hqn
            by_cases hz0 : 0 ≤ z
            · by_cases hzl : z < n
              · clear hz
                obtain ⟨j, rfl⟩ := Int.eq_ofNat_of_zero_le hz0
                have hj : j < n := by omega
                have rj := S.out.ra.at hj
                have hh : hasB n u (j : Int) = u j := by unfold hasB; rw [decide_eq_true (by omega)]; simp
                have hS1 := has_any S.out.sa hn.out (j : Int)
                rw [hh] at hS1
                have HS1 := hide hS1
                clear hS1 hh
                generalize u j = bj at rj HS1
                have hbb : (bj != bj) = false := by simp
                go_wp2_with (go_at_call 10; refine HS1.out.mono ?_; rintro e w' ⟨rfl, hw⟩; subst w')
                go_roundw
                case rel => exact ⟨q + 1, (j : Int) + 1, by have := HZ.out; omega, by go_num, by have := HQ.out; omega, S.out⟩
                case measure => simp [intOf]; omega
              · clear hz
                have hh : hasB n u z = false := by unfold hasB; rw [decide_eq_false (by omega)]; simp
                have hS1 := has_any S.out.sa hn.out z
                rw [hh] at hS1
                have HS1 := hide hS1
                clear hS1 hh
                go_wp2_with (go_at_call 10; refine HS1.out.mono ?_; rintro e w' ⟨rfl, hw⟩; subst w')
                go_roundw
                case rel => exact ⟨q + 1, z + 1, by have := HZ.out; omega, by go_num, by have := HQ.out; omega, S.out⟩
                case measure => simp [intOf]; omega
            · have hz1 : z = -1 := by omega
              clear hz
              subst hz1
              clear hz0 hzn
              have hh : hasB n u (-1) = false := by unfold hasB; rw [decide_eq_false (by omega)]; simp
              have hS1 := has_any S.out.sa hn.out (-1)
              rw [hh] at hS1
              have HS1 := hide hS1
              clear hS1 hh
              go_wp2_with (go_at_call 10; refine HS1.out.mono ?_; rintro e w' ⟨rfl, hw⟩; subst w')
              go_roundw
              case rel => exact ⟨q + 1, 0, by have := HZ.out; omega, rfl, by have := HQ.out; omega, S.out⟩
              case measure => simp [intOf]; omega
          · have hzn : ¬ z ≤ (n : Int) := by omega
            clear hz hq hqn HZ
            obtain ⟨z0, hz0⟩ : ∃ z0, tells c 0 = z0 := ⟨_, rfl⟩
            have hsz : z0 = sz := by rw [← hz0]; exact CZ.out.size
            have hct : tells c 2 = n := CZ.out.count
            obtain ⟨sn, hsn⟩ : ∃ sn : Nat, sz = sn := Int.eq_ofNat_of_zero_le (by have := CZ.out.spos; omega)
            have hs8 := CZ.out.spos
            subst hsn
            have HS8 := hide (show 8 ≤ sn ∧ sn ≤ 64 by omega)
            have hRR := rrow_at c ⟨by omega, by omega⟩ wr
            rw [hz0, hsz, hct] at hRR
            have RR := hide hRR
            generalize tells c 1 = z1 at RR
            clear hRR hz0 hsz hct hs8 hk1 hk2 hk hkl
            first | clear hk40 | skip
            go_wp2_with fail
            clear hzn f1
            refine RR.out.mono ?_
            rintro e w5 ⟨rfl, hk5⟩
            have S5 := hide (S.out.next (hk5.alloc (.cells #[.int .i64 sn, .int .i64 z1, .int .i64 n] 42)))
            obtain ⟨r0, r1, r2⟩ := row3 w5 42 (.int .i64 sn) (.int .i64 z1) (.int .i64 n)
            clear hk5 S RR r1
            go_wp2_with fail
            generalize w5.alloc (.cells #[.int .i64 sn, .int .i64 z1, .int .i64 n] 42) = w6 at S5 r0 r2 ⊢
            generalize w5.heap.size = q5 at r0 r2 ⊢
            by_cases ho : off < 0
            · refine (idx_neg S5.out.sa hn.out off ho).mono ?_
              rintro e w7 ⟨rfl, hk7⟩
              have S7 := hide (S5.out.next hk7)
              have t0 := hk7.cell r0 (by simp)
              have t2 := hk7.cell r2 (by simp)
              clear hk7 r0 r2 S5
              go_wp2_with (go_at_call 12; refine (class_any S7.out.sa hn.out).mono ?_; rintro e w' ⟨rfl, hw⟩; subst w')
              go_ret
              exact ⟨by simp, S7.out.kept⟩
            · obtain ⟨k, rfl⟩ := Int.eq_ofNat_of_zero_le (Int.not_lt.1 ho)
              have hko : k ≤ 9223372036854775807 := HKO.out k rfl
              refine (idx_nat S5.out.sa hn.out sn k rfl HS8.out hko).mono ?_
              rintro e w7 ⟨hi, hk7⟩
              have S7 := hide (S5.out.next hk7)
              have t0 := hk7.cell r0 (by simp)
              have t2 := hk7.cell r2 (by simp)
              clear hk7 r0 r2 S5
              obtain ⟨s1, s2⟩ := HS8.out
              have hdm := Nat.div_add_mod k sn
              have hml := Nat.mod_lt k (show 0 < sn by omega)
              have em : (k : Int).tmod sn = ((k % sn : Nat) : Int) := rfl
              have ed : (k : Int).tdiv sn = ((k / sn : Nat) : Int) := rfl
              have hge : ((sn : Int) * (n : Int) ≤ (k : Int)) ↔ n ≤ k / sn := by
                rw [Nat.le_div_iff_mul_le (by omega)]
                constructor
                · intro h
                  have h2 : ((sn * n : Nat) : Int) ≤ (k : Int) := by simpa using h
                  have h3 : sn * n ≤ k := by omega
                  rw [Nat.mul_comm]; exact h3
                · intro h
                  have h3 : sn * n ≤ k := by rw [Nat.mul_comm]; exact h
                  have h2 : ((sn * n : Nat) : Int) ≤ (k : Int) := by omega
                  simpa using h2
              have hmul : IntKind.i64.wrap ((sn : Int) * (n : Int)) = (sn : Int) * (n : Int) := by
                have h1 : sn * n ≤ 64 * 8 := Nat.mul_le_mul s2 hn.out.2
                have h2 : ((sn * n : Nat) : Int) = (sn : Int) * (n : Int) := by simp
                rw [IntKind.wrap_i64, ← h2]; omega
              have hs0 : ¬ ((sn : Int) = 0) := by omega
              obtain ⟨R, hR⟩ : ∃ R, k % sn = R := ⟨_, rfl⟩
              obtain ⟨Q, hQ⟩ : ∃ Q, k / sn = Q := ⟨_, rfl⟩
              rw [hR] at hi em
              rw [hQ] at hi ed hge
              have hQk : Q ≤ k := by rw [← hQ]; exact Nat.div_le_self _ _
              clear hdm hml hR hQ ho
              have ho : ¬ (k : Int) < 0 := by omega
              have HI := hide hi
              have HG := hide hge
              clear hi hge HKO HS8 CZ
              by_cases hr : R = 0 ∧ Q < n
              · have hng : ¬ ((sn : Int) * (n : Int) ≤ (k : Int)) := fun h => by have := HG.out.1 h; omega
                have hE : e = .returned (.tuple #[.int .i64 Q, .int .i64 0]) := by
                  rcases HI.out with ⟨-, -, h⟩ | ⟨h, -⟩
                  · exact h
                  · exact absurd hr h
                subst hE
                obtain ⟨hr0, hqn⟩ := hr
                subst hr0
                have em0 : (k : Int).tmod sn = 0 := em
                clear em HI HG hqn
                go_wp2_with (go_at_call 12; refine (class_any S7.out.sa hn.out).mono ?_; rintro e w' ⟨rfl, hw⟩; subst w')
                go_ret
                exact ⟨by simp, S7.out.kept⟩
              · have hE : e = .returned (.tuple #[.int .i64 0, .int .i64 6]) := by
                  rcases HI.out with ⟨h1, h2, -⟩ | ⟨-, h⟩
                  · exact absurd ⟨h1, h2⟩ hr
                  · exact h
                subst hE
                by_cases hg : n ≤ Q
                · have hgg : (sn : Int) * (n : Int) ≤ (k : Int) := HG.out.2 hg
                  clear HI HG hr hg em ed
                  go_wp2_with (go_at_call 12; refine (class_any S7.out.sa hn.out).mono ?_; rintro e w' ⟨rfl, hw⟩; subst w')
                  go_ret
                  exact ⟨by simp, S7.out.kept⟩
                · have hgg : ¬ ((sn : Int) * (n : Int) ≤ (k : Int)) := fun h => hg (HG.out.1 h)
                  have hR0 : ¬ (R : Int) = 0 := fun h => hr ⟨by omega, by omega⟩
                  have hRb : ((R : Int) != 0) = true := by simp; omega
                  clear HI HG hr hg ed
                  go_wp2_with (go_at_call 12; refine (class_any S7.out.sa hn.out).mono ?_; rintro e w' ⟨rfl, hw⟩; subst w')
                  go_ret
                  exact ⟨by simp, S7.out.kept⟩
theorem walk (x off : Int) (hoff : off ≤ 9223372036854775807) {ao : Option Addr} {len cap : Nat} {w : World} (hl : len ≤ maxLen) (hA : IsActs w ao len) (hT : Tab w) : Calls Tryd.prog 3 #[.int .i64 x, .slice ao len cap, .int .i64 off] w fun e w' => e = .returned (.bool true) ∧ Kept [] w w' := by
  by_cases hx : 0 ≤ x ∧ x < 4
  · obtain ⟨c, rfl⟩ := Int.eq_ofNat_of_zero_le hx.1
    exact walkB c (by omega) off hoff hl hA hT
  · exact walkA x off hx hT
theorem list2 {α : Type} (l : List α) (h : l.length = 2) : ∃ a b, l = [a, b] := by
  match l, h with
  | [a, b], _ => exact ⟨a, b, rfl⟩
theorem open_acts {H : Type} {enc : TypeId × Value → H} {W : World} {v : Value} {d : DataW H} {p : List MemPlace} (hv : ∃ a len cap, v = .slice a len cap)
    (h : DataW.Trod enc Tryd.prog W 0 (fun _ => true) true 22 v d p) : ∃ a len cap, v = .slice a len cap ∧ len ≤ maxLen ∧ IsActs W a len := by
  obtain ⟨a, len, cap, rfl, hl, hx⟩ := open_structs (P := Tryd.prog) (kc := 2) Tryd.underlying22 Tryd.underlying38 (by kernel_rfl) (by decide) hv h
  refine ⟨a, len, cap, rfl, hl, fun i hi => ?_⟩
  obtain ⟨b, off, rfl, fuel, cs, hcs, hc, hf⟩ := hx i hi
  obtain ⟨x0, x1, rfl⟩ := list2 cs hcs
  obtain ⟨y0, h0⟩ := hf 0 _ rfl
  obtain ⟨y1, h1⟩ := hf 1 _ rfl
  have c0 := hc 0 x0 rfl
  have c1 := hc 1 x1 rfl
  have hc3 : Tryd.prog.cellsOf 3 = 1 := by kernel_rfl
  have hc4 : Tryd.prog.cellsOf 4 = 1 := by kernel_rfl
  have h0 : DataW.trod enc Tryd.prog W 0 (fun _ => true) true fuel 4 (([x0, x1].drop 0).take (Tryd.prog.cellsOf 4)) = some y0 := h0
  have h1 : DataW.trod enc Tryd.prog W 0 (fun _ => true) true fuel 3 (([x0, x1].drop 1).take (Tryd.prog.cellsOf 3)) = some y1 := h1
  rw [hc4] at h0
  rw [hc3] at h1
  obtain ⟨z0, e0, -⟩ := DataW.trod_bool Tryd.underlying4 h0
  obtain ⟨z1, e1, -, -⟩ := DataW.trod_int Tryd.underlying3 h1
  simp at e0 e1
  subst e0 e1
  exact ⟨b, off, z0, z1, rfl, c0, c1⟩

theorem own : ownKnob Tryd.prog.godebug = none := by kernel_rfl
theorem laidOut : laidOutB Tryd.prog = true := by kernel_rfl

set_option maxRecDepth 100000 in
theorem contract (H : Type) (enc : TypeId × Value → H) (W : World) (base : Nat) (args : Array Value) (ds gs : List (DataW H)) (before : List MemPlace)
    (hval : ∀ (j : Nat) t v, Tryd.f3.params[j]? = some t → args[j]? = some v → Value.okWide Tryd.prog W .any base t v)
    (hW : DataW.Whole enc Tryd.prog Tryd.f3.params.toList Rows.spanActsSpec.vars false W args.toList ds gs before) (_hsh : W.ShapedOpen Tryd.prog) (hlaid : laidMetH Tryd.prog Rows.spanActsRow.laid W) :
    Calls Tryd.prog 3 args W fun e W' => ∃ v, e = .returned v ∧ Rows.spanActsSpec.post enc Tryd.prog Tryd.f3 false true false false W args v W' := by
  have hW' := hW
  obtain ⟨p, q, hA0, hV, rfl, hfz, hnd⟩ := hW
  have hA : DataW.TrodAll enc Tryd.prog W 0 (fun _ => true) true Tryd.f3.params.toList args.toList ds p := hA0
  have hK := hA
  rw [Tryd.params3] at hA hval
  obtain ⟨v0, vs0, d0, ds0, p0, q0, hargs, rfl, rfl, h0, r0⟩ := trodAll_cons hA
  obtain ⟨v1, vs1, d1, ds1, p1, q1, rfl, rfl, rfl, h1, r1⟩ := trodAll_cons r0
  obtain ⟨v2, vs2, d2, ds2, p2, q2, rfl, rfl, rfl, h2, r2⟩ := trodAll_cons r1
  obtain ⟨rfl, rfl, rfl⟩ := trodAll_nil r2
  obtain rfl : args = #[v0, v1, v2] := by cases args; simp_all
  obtain ⟨rfl, rfl⟩ := trodVars_none hV
  obtain ⟨x, rfl, rfl, rfl, w0⟩ := open_int Tryd.underlying3 (hval 0 3 v0 rfl rfl) h0
  obtain ⟨a1, len1, cap1, rfl, hl1, hA1⟩ := open_acts (okWide_slice Tryd.underlying22 (hval 1 22 v1 rfl rfl)) h1
  obtain ⟨off, rfl, rfl, rfl, w2⟩ := open_int Tryd.underlying3 (hval 2 3 v2 rfl rfl) h2
  have hTab : Cl.Tab W := Cl.tab_of_laid hlaid
  clear hA0
  refine (walk x off (by have := (bounds_i64 w2).2; omega) hl1 hA1 hTab).mono fun e W' ⟨he, hk⟩ => ?_
  subst he
  exact ⟨_, rfl, _, _, _, [], _, [], hW', trodAll_mk1 (shut_bool Tryd.underlying4 _), trodAll_below laidOut hk.below _ _ _ _ hK (by kernel_rfl), rfl, hk.below.frame _, fun h => by cases h⟩

set_option maxRecDepth 100000 in
theorem laid_met (os : Os) : laidMet Tryd.prog Rows.spanActsRow.laid ((World.laidAll Tryd.prog os Rows.spanActsRow.laid).forCall (fun _ _ => 0) ⟨#[], #[.int .i64 0, .slice none 0 0, .int .i64 0], []⟩).memory :=
  laidMet_laidAll _ (by kernel_rfl) (by kernel_rfl)
set_option maxRecDepth 100000 in
theorem reads (os : Os) {H : Type} (enc : TypeId × Value → H) : ∃ places, DataW.whole enc Tryd.prog ((World.laidAll Tryd.prog os Rows.spanActsRow.laid).forCall (fun _ _ => 0) ⟨#[], #[.int .i64 0, .slice none 0 0, .int .i64 0], []⟩).memory Tryd.f3.params.toList Rows.spanActsSpec.vars false (#[.int .i64 0, .slice none 0 0, .int .i64 0] : Array Value).toList 8 = some ([.lit (.int .i64 0), .nil, .lit (.int .i64 0)], [], places) :=
  ⟨[], by kernel_rfl⟩

set_option maxRecDepth 100000 in
theorem lifted (os : Os) (started : os.Started) (H : Type) (enc : TypeId × Value → H) (F : Stop.Interp) :
    ReturnsInHanded {} Tryd.checked os 3 .any ((OpenSpec.ofChange Rows.spanActsSpec).preRow enc Tryd.prog Tryd.f3 Rows.spanActsRow.domain false Rows.spanActsRow.laid) (((OpenSpec.ofChange Rows.spanActsSpec).at F).post enc Tryd.prog Tryd.f3 false true false false) := by
  obtain ⟨places, hx⟩ := reads os enc
  refine returnsInHanded_of_row (C := Tryd.checked) (s := OpenSpec.ofChange Rows.spanActsSpec) own started (by kernel_rfl) Tryd.func3
    (witness_row_at (enc := enc) (C := Tryd.checked) false (World.laidAll Tryd.prog os Rows.spanActsRow.laid) #[.int .i64 0, .slice none 0 0, .int .i64 0] (World.laidAll_os _ _ _) (by kernel_rfl) (by kernel_rfl) (by kernel_rfl)
      (OpenSpec.preRow_of_cond 8 hx (by kernel_rfl) (fun k hk => by cases hk) (by kernel_rfl) (laid_met os))) ?_
  intro W base args ds gs before hval hW _ _ _ hlaid hsh _
  exact contract H enc W base args ds gs before hval hW hsh hlaid

theorem said : Rows.SpanActsSaid :=
  OpenClaim.holds_of_cond 3 Tryd.f3 rfl rfl rfl rfl rfl rfl rfl ⟨rfl, rfl, rfl, rfl, rfl⟩ rfl rfl rfl rfl rfl (by kernel_rfl) Tryd.func3 (by kernel_rfl)
    (of_decide_eq_true (by kernel_rfl)) (by unfold Func.isWrapper; first | (rw [if_pos (by decide +kernel)]; kernel_rfl) | (rw [if_neg (by decide +kernel)]; exact ⟨rfl, rfl⟩))
    (fun os started H enc _ F => by rw [OpenClaim.pre_eq_preRow]; exact lifted os started H enc F)

theorem plain (f : FuncId) (fn : Func) (hf : Tryd.pinned.checked.prog.funcNamed Tryd.f3.name = some f) (hfn : Tryd.pinned.checked.prog.funcs[f]? = some fn) :
    false = Tryd.pinned.checked.prog.looks [] ∧ ∀ (j : Nat) t, fn.params[j]? = some t → Tryd.pinned.checked.prog.wantsStandIn t = false := by
  obtain rfl : f = 3 := Option.some.inj ((show Tryd.prog.funcNamed Tryd.f3.name = some 3 by kernel_rfl).symm.trans hf) |>.symm
  obtain rfl : fn = Tryd.f3 := (Option.some.inj (Tryd.func3.symm.trans hfn)).symm
  refine ⟨by kernel_rfl, fun j t ht => ?_⟩
  rw [Tryd.params3] at ht
  have hm : t = 3 ∨ t = 22 := by have h9 := Array.mem_of_getElem? ht; simp at h9; first | exact h9 | (rcases h9 with h | h | h <;> simp [h])
  rcases hm with rfl | rfl
  · exact (show Tryd.prog.wantsStandIn 3 = false by kernel_rfl)
  · exact (show Tryd.prog.wantsStandIn 22 = false by kernel_rfl)

theorem card : Rows.SpanActsCardSaid :=
  Claim7.holds_tied_plain_at .later [] _ _ _ _ said (fun _ h => by cases h) (by kernel_rfl) (fun _ h => by cases h) spanActs_row_tie rfl ⟨rfl, rfl⟩ (by kernel_rfl) rfl plain (by kernel_rfl)
end Go.Proofs.YtfkekjnbjepaaaaDoor.acts
