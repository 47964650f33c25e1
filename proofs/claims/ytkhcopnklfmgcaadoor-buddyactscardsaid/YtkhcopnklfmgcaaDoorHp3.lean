/-
  No statement of the program: a buddy's free count and its runs; 'heaps' of the statements on heaps answers true, over this seat's translation.
-/
import Derived.Test.YtkhcopnklfmgcaaDoorHp2
import Derived.Test.YtkhcopnklfmgcaaDoorHalves
namespace Go.Proofs.YtkhcopnklfmgcaaDoor.By
open Go.RowKit
theorem sumTo_ge (L : Nat → List Nat) : ∀ (k j : Nat), j < k → (L j).length * 2 ^ j ≤ sumTo L k
  | 0, j, h => absurd h (Nat.not_lt_zero _)
  | k + 1, j, h => by
    show (L j).length * 2 ^ j ≤ sumTo L k + (L k).length * 2 ^ k
    by_cases hj : j = k
    · subst hj; omega
    · have := sumTo_ge L k j (by omega); omega
theorem sumTo_zero (L : Nat → List Nat) : ∀ (k : Nat), (∀ j, j < k → L j = []) → sumTo L k = 0
  | 0, _ => rfl
  | k + 1, h => by
    show sumTo L k + (L k).length * 2 ^ k = 0
    rw [sumTo_zero L k (fun j hj => h j (by omega)), h k (by omega)]; simp
theorem BS.empty {w : World} {p K : Nat} {u : Nat → Bool} {tk : Nat → Nat} {F : List Nat} (h : BS w p K u tk 0 F) : Nun u 0 := by
  obtain ⟨L, tb, V, hB, hL, hT, rfl⟩ := h
  intro j b _ hj ht
  have hm := ((hL.lo j (by omega)).mem _).2 ⟨b, rfl, ht⟩
  have := sumTo_ge L 11 j (by omega)
  rw [hL.sum] at this
  have h2 := two_pos j
  cases hl : L j with
  | nil => rw [hl] at hm; simp at hm
  | cons x r =>
    rw [hl, List.length_cons, Nat.add_mul] at this
    omega
theorem BS.some {w : World} {p K f : Nat} {u : Nat → Bool} {tk : Nat → Nat} {F : List Nat} (h : BS w p K u tk f F) (hf : 0 < f) : ∃ A, Finds u 0 A := by
  rcases h.finds 0 with h1 | h1
  · exact h1
  · obtain ⟨L, tb, V, hB, hL, hT, rfl⟩ := h
    have := sumTo_zero L 11 (fun j hj => (hL.lo j hj).nil (fun b => h1 j b (by omega) (by omega)))
    rw [hL.sum] at this
    omega
theorem finds0 {K o : Nat} (hk : K ≤ 10) (ho : o ≤ K) : Finds (u0 K) o 0 := ⟨K, 0, least0 hk ho, by simp⟩
section
variable {w : World} {q nb N K : Nat} {mk : Int × Int × Int} {P : Nat → Nat} {u : Nat → Nat → Bool} {tk : Nat → Nat → Nat} {f : Nat → Nat} {F : Nat → List Nat}
/-- May answers no. -/
theorem may_no (h : HP w q nb N K mk P u tk f F) (m o : Nat) (hm : m < N) (ho : o ≤ 10) (hno : Nun (u m) o ∨ ∃ A, Finds (u m) o A ∧ (f m : Int) < mk.1 + 2 ^ o) (h1024 : mk.1 ≤ 1024) : Calls Tryd.prog 30 #[.pointer (some ⟨q, 0, none⟩), .int .i64 m, .int .i64 o] w fun e w' => e = .returned (.bool false) ∧ ∃ d, w' = w.drewN d := by
  rcases hno with h1 | ⟨A, h1, h2⟩
  · exact may_none h m o hm ho h1
  · exact may_low h m o A hm ho h1 h2 h1024
/-- Too few free frames: no. -/
theorem HP.few (h : HP w q nb N K mk P u tk f F) (m o : Nat) (hm : m < N) (hf : (f m : Int) < mk.1 + 2 ^ o) : Nun (u m) o ∨ ∃ A, Finds (u m) o A ∧ (f m : Int) < mk.1 + 2 ^ o := by
  rcases (h.bud m hm).finds o with ⟨A, h1⟩ | h1
  · exact .inr ⟨A, h1, hf⟩
  · exact .inl h1
theorem HP.n8' (h : HP w q nb N K mk P u tk f F) : N ≤ 8 := h.n8
/-- All blocks of a heap that has changed at one node. -/
theorem HF.swap {q nb N m : Nat} {F : Nat → List Nat} {G : List Nat} {M : Nat} (hF : ∀ x, HF q nb N F x → M ≤ x) {S : Nat} (hS : M ≤ S) (hm : m < N) (hG : ∀ x, x ∈ G → x ∈ F m ∨ S ≤ x) : ∀ x, HF q nb N (fun i => if i = m then G else F i) x → M ≤ x := by
  intro x hx
  rcases hx with h | h | ⟨i, hi, h⟩
  · exact hF x (.inl h)
  · exact hF x (.inr (.inl h))
  · by_cases him : i = m
    · simp only [if_pos him] at h
      rcases hG x h with h1 | h1
      · exact hF x (.inr (.inr ⟨m, hm, h1⟩))
      · omega
    · simp only [if_neg him] at h
      exact hF x (.inr (.inr ⟨i, hi, h⟩))
end
theorem run_field58 {a b c : Int} {w : World} : (Instr.field 58 (.agg #[.int .i64 a, .int .i64 b, .int .i64 c]) 2).run Tryd.prog w = .ok (.int .i64 c) w := by
  simp [Instr.field, run_underlying Tryd.underlying58, part, Tryd.isAgg3, asAgg]
set_option maxRecDepth 20000 in
set_option maxHeartbeats 2000000 in
theorem heaps_true {w : World} (hT : Tab w) : Calls Tryd.prog 29 #[] w fun e w' => e = .returned (.bool true) ∧ Kept [] w w' := by
  have T := hide hT
  clear hT
  go_enter Tryd.func29, Tryd.ntmps29
  go_wp2_with fail
  refine (hnew_ok 2 2 4 1 1 2 (by decide) (by decide) (by decide) rfl (by decide) (by decide) (by decide) (by decide) T.out).mono ?_
  rintro e w1 ⟨q, nb, P, F, rfl, hH, hF, hk⟩
  have H1 := hide hH
  have HF1 := hide hF
  have K1 := hide hk
  clear hH hF hk T
  go_wp2_with fail
  refine (htake_ok H1.out 1 1 0 (by decide) (by decide) (finds0 (by decide) (by decide)) (by decide) 4 rfl).mono ?_
  rintro e w2 ⟨f', G, rfl, hf', hH, hk, hG⟩
  have hf2 : f' = 2 := by omega
  subst hf2
  have H2 := hide hH
  have K2 := hide (K1.out.trans hk (fun x hx hl => by have := HF1.out x (.inr (.inr ⟨1, by decide, hx⟩)); omega))
  clear hH hk hG hf' K1 H1 HF1
  have hb : BS w2 (P 1) 2 _ _ 2 G := H2.out.bud 1 (by decide)
  obtain ⟨A, hA⟩ := BS.some hb (by omega)
  clear hb
  have HA := hide hA
  clear hA
  have hb1 : (1 : Int) ≤ 1024 := by decide
  have m11 := hide (may_no H2.out 1 1 (by decide) (by decide) (H2.out.few 1 1 (by decide) (by simp)) hb1)
  have m10 := hide (show ∀ d, Calls Tryd.prog 30 #[.pointer (some ⟨q, 0, none⟩), .int .i64 1, .int .i64 0] (w2.drewN d) fun e w' => e = .returned (.bool true) ∧ ∃ d', w' = w2.drewN d' from fun d => by
    have h := H2.out.kept0 ((Kept.refl [] w2).drewN d)
    refine (may_yes h 1 0 A (by decide) (by decide) HA.out (by simp)).mono ?_
    rintro e w' ⟨rfl, d', rfl⟩
    exact ⟨rfl, d + d', World.drewN_drewN ..⟩)
  have m01 := hide (show ∀ d, Calls Tryd.prog 30 #[.pointer (some ⟨q, 0, none⟩), .int .i64 0, .int .i64 1] (w2.drewN d) fun e w' => e = .returned (.bool true) ∧ ∃ d', w' = w2.drewN d' from fun d => by
    have h := H2.out.kept0 ((Kept.refl [] w2).drewN d)
    refine (may_yes h 0 1 0 (by decide) (by decide) (by simpa using finds0 (K := 2) (by decide) (by decide)) (by simp)).mono ?_
    rintro e w' ⟨rfl, d', rfl⟩
    exact ⟨rfl, d + d', World.drewN_drewN ..⟩)
  clear HA hb1
  go_wp2_with fail
  refine m11.out.mono ?_
  rintro e w3 ⟨rfl, d, hw⟩
  subst hw
  go_wp2_with fail
  refine (m10.out _).mono ?_
  rintro e w3 ⟨rfl, d2, hw⟩
  subst hw
  go_wp2_with fail
  refine (m01.out _).mono ?_
  rintro e w3 ⟨rfl, d3, hw⟩
  subst hw
  go_wp2_with fail
  refine (marks_ok (H2.out.kept0 ((Kept.refl [] w2).drewN _))).mono ?_
  rintro e w4 ⟨rfl, hk4⟩
  have K4 := hide ((K2.out.drewN _).next hk4)
  clear m11 m10 m01 H2 hk4
  have hfd := run_field58 (a := 1) (b := 1) (c := 2) (w := w4)
  go_wp2
  go_ret
  exact ⟨rfl, K4.out⟩
end Go.Proofs.YtkhcopnklfmgcaaDoor.By
