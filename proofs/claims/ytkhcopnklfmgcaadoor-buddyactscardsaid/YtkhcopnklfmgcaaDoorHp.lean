/-
  No statement of the program: package heap, over this seat's translation: 'HP': a heap and its nodes' buddies; May, Take.
-/
import Derived.Test.YtkhcopnklfmgcaaDoorBud7
namespace Go.Proofs.YtkhcopnklfmgcaaDoor.By
open Go.RowKit
/-- Heap with node records: at q lies a heap of N nodes of 2 ^ K frames each; node i's buddy is at P i, with what BS says of it; mk are the marks. -/
structure HP (w : World) (q nb N K : Nat) (mk : Int × Int × Int) (P : Nat → Nat) (u : Nat → Nat → Bool) (tk : Nat → Nat → Nat) (f : Nat → Nat) (F : Nat → List Nat) : Prop where
  obj : w.rowIs q 93 5 (fun i => if i = 0 then .slice (some ⟨nb, 0, none⟩) N N else if i = 1 then .int .i64 ((2 ^ K : Nat) : Int) else if i = 2 then .int .i64 mk.1 else if i = 3 then .int .i64 mk.2.1 else .int .i64 mk.2.2)
  row : w.rowIs nb 25 N (fun i => .pointer (some ⟨P i, 0, none⟩))
  bud : ∀ i, i < N → BS w (P i) K (u i) (tk i) (f i) (F i)
  apart : ∀ i j x, i < N → j < N → i ≠ j → x ∈ F i → x ∉ F j
  nq : ∀ i, i < N → q ∉ F i ∧ nb ∉ F i
  ne : q ≠ nb
  k10 : K ≤ 10
  n8 : N ≤ 8
/-- All blocks of a heap. -/
def HF (q nb N : Nat) (F : Nat → List Nat) (x : Nat) : Prop := x = q ∨ x = nb ∨ ∃ i, i < N ∧ x ∈ F i
namespace HP
variable {w w' : World} {q nb N K : Nat} {mk : Int × Int × Int} {P : Nat → Nat} {u : Nat → Nat → Bool} {tk : Nat → Nat → Nat} {f : Nat → Nat} {F : Nat → List Nat} {G : List Nat}
theorem c0 (h : HP w q nb N K mk P u tk f F) : w.cell? ⟨q, 0, none⟩ = some (.slice (some ⟨nb, 0, none⟩) N N) := by rw [h.obj.cell (by omega)]; rfl
theorem c1 (h : HP w q nb N K mk P u tk f F) : w.cell? ⟨q, 1, none⟩ = some (.int .i64 ((2 ^ K : Nat) : Int)) := by rw [h.obj.cell (by omega)]; rfl
theorem c2 (h : HP w q nb N K mk P u tk f F) : w.cell? ⟨q, 2, none⟩ = some (.int .i64 mk.1) := by rw [h.obj.cell (by omega)]; rfl
theorem c3 (h : HP w q nb N K mk P u tk f F) : w.cell? ⟨q, 3, none⟩ = some (.int .i64 mk.2.1) := by rw [h.obj.cell (by omega)]; rfl
theorem c4 (h : HP w q nb N K mk P u tk f F) : w.cell? ⟨q, 4, none⟩ = some (.int .i64 mk.2.2) := by rw [h.obj.cell (by omega)]; rfl
theorem cP (h : HP w q nb N K mk P u tk f F) (i : Nat) (hi : i < N) : w.cell? ⟨nb, i, none⟩ = some (.pointer (some ⟨P i, 0, none⟩)) := h.row.cell hi
theorem kept (h : HP w q nb N K mk P u tk f F) (k : Kept G w w') (hG : ∀ x, HF q nb N F x → x ∉ G) : HP w' q nb N K mk P u tk f F :=
  ⟨k.row h.obj (hG _ (.inl rfl)), k.row h.row (hG _ (.inr (.inl rfl))), fun i hi => (h.bud i hi).kept k (fun x hx => hG x (.inr (.inr ⟨i, hi, hx⟩))), h.apart, h.nq, h.ne, h.k10, h.n8⟩
theorem kept0 (h : HP w q nb N K mk P u tk f F) (k : Kept [] w w') : HP w' q nb N K mk P u tk f F := h.kept k (fun _ _ => by simp)
/-- One node's buddy has changed. -/
theorem swap (h : HP w q nb N K mk P u tk f F) (m : Nat) (hm : m < N) (k : Kept (F m) w w') {u' : Nat → Bool} {tk' : Nat → Nat} {f' : Nat} {G : List Nat} (hB : BS w' (P m) K u' tk' f' G) (hG : ∀ x, x ∈ G → x ∈ F m ∨ w.heap.size ≤ x) :
    HP w' q nb N K mk P (fun i => if i = m then u' else u i) (fun i => if i = m then tk' else tk i) (fun i => if i = m then f' else f i) (fun i => if i = m then G else F i) := by
  have hlt : ∀ i x, i < N → x ∈ F i → x < w.heap.size := fun i x hi hx => (h.bud i hi).lt x hx
  refine ⟨k.row h.obj (h.nq m hm).1, k.row h.row (h.nq m hm).2, fun i hi => ?_, fun i j x hi hj hij hx hx2 => ?_, fun i hi => ?_, h.ne, h.k10, h.n8⟩
  · by_cases him : i = m
    · subst him; simp only [if_true]; exact hB
    · simp only [if_neg him]
      exact (h.bud i hi).kept k (fun x hx => h.apart i m x hi hm him hx)
  · by_cases him : i = m
    · have hjm : j ≠ m := fun e => hij (by rw [him, e])
      simp only [if_pos him] at hx
      simp only [if_neg hjm] at hx2
      rcases hG x hx with h1 | h1
      · exact h.apart m j x hm hj (fun e => hjm e.symm) h1 hx2
      · have := hlt j x hj hx2; omega
    · simp only [if_neg him] at hx
      by_cases hjm : j = m
      · simp only [if_pos hjm] at hx2
        rcases hG x hx2 with h1 | h1
        · exact h.apart i m x hi hm him hx h1
        · have := hlt i x hi hx; omega
      · simp only [if_neg hjm] at hx2
        exact h.apart i j x hi hj hij hx hx2
  · by_cases him : i = m
    · simp only [if_pos him]
      refine ⟨fun hx => ?_, fun hx => ?_⟩
      · rcases hG _ hx with h1 | h1
        · exact (h.nq m hm).1 h1
        · have := h.obj.lt; omega
      · rcases hG _ hx with h1 | h1
        · exact (h.nq m hm).2 h1
        · have := h.row.lt; omega
    · simp only [if_neg him]; exact h.nq i hi
end HP
section
variable {w : World} {q nb N K : Nat} {mk : Int × Int × Int} {P : Nat → Nat} {u : Nat → Nat → Bool} {tk : Nat → Nat → Nat} {f : Nat → Nat} {F : Nat → List Nat}
theorem hhas_yes (h : HP w q nb N K mk P u tk f F) (m : Nat) (hm : m < N) : Calls Tryd.prog 60 #[.pointer (some ⟨q, 0, none⟩), .int .i64 m] w fun e w' => e = .returned (.bool true) ∧ w' = w := by
  have c0 := h.c0
  have h0 : (0 : Int) ≤ (m : Int) := by omega
  have h1 : (m : Int) < (N : Int) := by omega
  clear h
  go_enter Tryd.func60, Tryd.ntmps60
  go_wp2
  go_ret
  exact ⟨rfl, rfl⟩
theorem hhas_no (h : HP w q nb N K mk P u tk f F) {mi : Int} (hm : mi < 0 ∨ (N : Int) ≤ mi) : Calls Tryd.prog 60 #[.pointer (some ⟨q, 0, none⟩), .int .i64 mi] w fun e w' => e = .returned (.bool false) ∧ w' = w := by
  have c0 := h.c0
  clear h
  rcases hm with hm | hm
  · have h0 : ¬ (0 : Int) ≤ mi := by omega
    go_enter Tryd.func60, Tryd.ntmps60
    go_wp2
    go_ret
    exact ⟨rfl, rfl⟩
  · have h0 : (0 : Int) ≤ mi := by omega
    have h1 : ¬ mi < (N : Int) := by omega
    go_enter Tryd.func60, Tryd.ntmps60
    go_wp2
    go_ret
    exact ⟨by first | rfl | exact ret_bool (by simp; omega), rfl⟩
/- May: the node has a run and Min frames beside it. -/
set_option maxHeartbeats 1000000 in
theorem may_yes (h : HP w q nb N K mk P u tk f F) (m o A : Nat) (hm : m < N) (ho : o ≤ 10) (hA : Finds (u m) o A) (hf : mk.1 + 2 ^ o ≤ f m) : Calls Tryd.prog 30 #[.pointer (some ⟨q, 0, none⟩), .int .i64 m, .int .i64 o] w fun e w' => e = .returned (.bool true) ∧ ∃ d, w' = w.drewN d := by
  have c0 := h.c0
  have c2 := h.c2
  have cP := h.cP m hm
  have HH := hide (hhas_yes h m hm)
  have HB := hide (bs_hasA o A (h.bud m hm) hA rfl)
  have HBd := hide (h.bud m hm)
  have hfle := (h.bud m hm).fle
  have hm1 : (m : Int) < (N : Int) := by omega
  have hpo := n1024 ho
  have E : mk.1 ≤ wrap64 ((f m : Int) - wrap64 ((2 : Int) ^ o)) := by
    have e1 : (2 : Int) ^ o = ((2 ^ o : Nat) : Int) := by simp
    rw [e1] at hf
    rw [shl1 ho]
    generalize 2 ^ o = y at hpo hf ⊢
    rw [IntWalk.wrap64_in _ ⟨by omega, by omega⟩]; omega
  clear h hA hf hpo
  generalize f m = fm at E HBd hfle
  generalize mk.1 = mn at E c2
  go_enter Tryd.func30, Tryd.ntmps30
  go_wp2_with (first | (go_at_call 60; refine HH.out.mono ?_; rintro e w' ⟨rfl, hw⟩; subst w') | (go_at_call 15; refine HB.out.mono ?_; rintro e w' ⟨rfl, hw⟩; subst w'))
  go_quiet (first | (go_at_call 16; refine (bs_free (HBd.out.kept0 ((Kept.refl [] w).drewN _))).mono ?_; rintro e w6 ⟨rfl, hw6⟩; exact ⟨rfl, _, hw6⟩))
  go_wp2
  go_ret
  exact ⟨rfl, _, rfl⟩
set_option maxHeartbeats 1000000 in
theorem may_low (h : HP w q nb N K mk P u tk f F) (m o A : Nat) (hm : m < N) (ho : o ≤ 10) (hA : Finds (u m) o A) (hf : (f m : Int) < mk.1 + 2 ^ o) (h1024 : mk.1 ≤ 1024) : Calls Tryd.prog 30 #[.pointer (some ⟨q, 0, none⟩), .int .i64 m, .int .i64 o] w fun e w' => e = .returned (.bool false) ∧ ∃ d, w' = w.drewN d := by
  have c0 := h.c0
  have c2 := h.c2
  have cP := h.cP m hm
  have HH := hide (hhas_yes h m hm)
  have HB := hide (bs_hasA o A (h.bud m hm) hA rfl)
  have HBd := hide (h.bud m hm)
  have hfle := (h.bud m hm).fle
  have hm1 : (m : Int) < (N : Int) := by omega
  have hpo := n1024 ho
  have E : ¬ mk.1 ≤ wrap64 ((f m : Int) - wrap64 ((2 : Int) ^ o)) := by
    have e1 : (2 : Int) ^ o = ((2 ^ o : Nat) : Int) := by simp
    rw [e1] at hf
    rw [shl1 ho]
    generalize 2 ^ o = y at hpo hf ⊢
    rw [IntWalk.wrap64_in _ ⟨by omega, by omega⟩]; omega
  clear h hA hf hpo
  generalize f m = fm at E HBd hfle
  generalize mk.1 = mn at E c2
  go_enter Tryd.func30, Tryd.ntmps30
  go_wp2_with (first | (go_at_call 60; refine HH.out.mono ?_; rintro e w' ⟨rfl, hw⟩; subst w') | (go_at_call 15; refine HB.out.mono ?_; rintro e w' ⟨rfl, hw⟩; subst w'))
  go_quiet (first | (go_at_call 16; refine (bs_free (HBd.out.kept0 ((Kept.refl [] w).drewN _))).mono ?_; rintro e w6 ⟨rfl, hw6⟩; exact ⟨rfl, _, hw6⟩))
  go_wp2
  go_ret
  exact ⟨by first | rfl | exact ret_bool (by simpa using E), _, rfl⟩
theorem may_none (h : HP w q nb N K mk P u tk f F) (m o : Nat) (hm : m < N) (ho : o ≤ 10) (hA : Nun (u m) o) : Calls Tryd.prog 30 #[.pointer (some ⟨q, 0, none⟩), .int .i64 m, .int .i64 o] w fun e w' => e = .returned (.bool false) ∧ ∃ d, w' = w.drewN d := by
  have c0 := h.c0
  have cP := h.cP m hm
  have HH := hide (hhas_yes h m hm)
  have HB := hide (bs_hasno o (h.bud m hm) ho hA rfl)
  have hm1 : (m : Int) < (N : Int) := by omega
  clear h hA
  go_enter Tryd.func30, Tryd.ntmps30
  go_wp2_with (first | (go_at_call 60; refine HH.out.mono ?_; rintro e w' ⟨rfl, hw⟩; subst w') | (go_at_call 15; refine HB.out.mono ?_; rintro e w' ⟨rfl, hw⟩; subst w'))
  go_ret
  exact ⟨rfl, 0, rfl⟩
set_option maxHeartbeats 1000000 in
theorem htake_ok (h : HP w q nb N K mk P u tk f F) (m o A : Nat) (hm : m < N) (ho : o ≤ 10) (hA : Finds (u m) o A) (hf : mk.1 + 2 ^ o ≤ f m) (x : Nat) (hx : x = m * 2 ^ K + A) :
    Calls Tryd.prog 27 #[.pointer (some ⟨q, 0, none⟩), .int .i64 m, .int .i64 o] w fun e w' => ∃ f' G, e = .returned (.tuple #[.int .i64 x, .int .i64 0]) ∧ f m = f' + 2 ^ o ∧
      HP w' q nb N K mk P (fun i => if i = m then upd (u m) (A / 2 ^ o) o true else u i) (fun i => if i = m then (fun j => if j = A then o + 1 else tk m j) else tk i) (fun i => if i = m then f' else f i) (fun i => if i = m then G else F i) ∧ Kept (F m) w w' ∧ ∀ y, y ∈ G → y ∈ F m ∨ w.heap.size ≤ y := by
  have c0 := h.c0
  have c1 := h.c1
  have cP := h.cP m hm
  have HH := hide (hhas_yes h m hm)
  have HM := hide (may_yes h m o A hm ho hA hf)
  have H := hide h
  have HA := hide hA
  have hb0 : (0 : Int) ≤ (o : Int) := by omega
  have hb1 : (o : Int) ≤ 10 := by omega
  have hm1 : (m : Int) < (N : Int) := by omega
  have hpK := n1024 h.k10
  have hN := h.n8
  have hlt := ((h.bud m hm).at_ hA).1
  have EX := hide (show wrap64 (wrap64 ((m : Int) * ((2 ^ K : Nat) : Int)) + (A : Int)) = (x : Int) ∧ (m : Int) * ((2 ^ K : Nat) : Int) + (A : Int) = (x : Int) by
    have hmm : m * 2 ^ K ≤ 8 * 1024 := Nat.mul_le_mul (by omega) hpK
    have e1 : (m : Int) * ((2 ^ K : Nat) : Int) = ((m * 2 ^ K : Nat) : Int) := by simp
    rw [e1]
    generalize m * 2 ^ K = z at hx hmm ⊢
    rw [IntWalk.wrap64_in (z : Int) ⟨by omega, by omega⟩, IntWalk.wrap64_in _ ⟨by omega, by omega⟩]
    omega)
  clear h hA hf
  generalize hy : ((2 ^ K : Nat) : Int) = y at c1 EX
  have HY := hide hy
  clear hy
  go_enter Tryd.func27, Tryd.ntmps27
  go_wp2_with (first | (go_at_call 60; refine HH.out.mono ?_; rintro e w' ⟨rfl, hw⟩; subst w') | (go_at_call 30; refine HM.out.mono ?_; rintro e w1 ⟨rfl, d, hw1⟩; subst hw1) | (go_at_call 12; refine (bs_takeA o A ((H.out.bud m hm).kept0 (by first | exact Kept.refl [] w | exact (Kept.refl [] w).drewN _)) HA.out rfl).mono ?_; rintro e w2 ⟨f', G, rfl, hf', hB', hk', hG'⟩; have s1 : w2.cell? ⟨q, 1, none⟩ = some (.int .i64 y) := hk'.cell (show (w.drewN d).cell? ⟨q, 1, none⟩ = _ from c1) (H.out.nq m hm).1))
  have R := hide (show HP w2 q nb N K mk P (fun i => if i = m then upd (u m) (A / 2 ^ o) o true else u i) (fun i => if i = m then (fun j => if j = A then o + 1 else tk m j) else tk i) (fun i => if i = m then f' else f i) (fun i => if i = m then G else F i) ∧ Kept (F m) w w2 ∧ ∀ y, y ∈ G → y ∈ F m ∨ w.heap.size ≤ y from
    ⟨(H.out.kept0 ((Kept.refl [] w).drewN d)).swap m hm hk' hB' hG', ((Kept.refl (F m) w).drewN d).trans hk' (fun _ h _ => h), hG'⟩)
  go_ret2
  exact ⟨f', G, by first | (rw [EX.out.1]; rfl) | (rw [EX.out.2]; rfl), hf', R.out⟩
set_option maxHeartbeats 1000000 in
theorem htake_no (h : HP w q nb N K mk P u tk f F) (m o : Nat) (hm : m < N) (ho : o ≤ 10) (hno : Nun (u m) o ∨ ∃ A, Finds (u m) o A ∧ (f m : Int) < mk.1 + 2 ^ o) (h1024 : mk.1 ≤ 1024) :
    Calls Tryd.prog 27 #[.pointer (some ⟨q, 0, none⟩), .int .i64 m, .int .i64 o] w fun e w' => e = .returned (.tuple #[.int .i64 0, .int .i64 5]) ∧ Kept [] w w' := by
  have HH := hide (hhas_yes h m hm)
  have HM := hide (show Calls Tryd.prog 30 #[.pointer (some ⟨q, 0, none⟩), .int .i64 m, .int .i64 o] w fun e w' => e = .returned (.bool false) ∧ ∃ d, w' = w.drewN d by
    rcases hno with h1 | ⟨A, h1, h2⟩
    · exact may_none h m o hm ho h1
    · exact may_low h m o A hm ho h1 h2 h1024)
  have hb0 : (0 : Int) ≤ (o : Int) := by omega
  have hb1 : (o : Int) ≤ 10 := by omega
  clear h hno
  go_enter Tryd.func27, Tryd.ntmps27
  go_wp2_with (first | (go_at_call 60; refine HH.out.mono ?_; rintro e w' ⟨rfl, hw⟩; subst w') | (go_at_call 30; refine HM.out.mono ?_; rintro e w1 ⟨rfl, d, hw1⟩; subst hw1))
  go_ret2
  exact ⟨rfl, (Kept.refl [] w).drewN _⟩
end
end Go.Proofs.YtkhcopnklfmgcaaDoor.By
