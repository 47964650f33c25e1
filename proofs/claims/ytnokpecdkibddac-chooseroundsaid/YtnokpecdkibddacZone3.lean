
/-
  No statement of the program: the contracts of package zone's Order, over this seat's translation.
-/
import Derived.Test.YtnokpecdkibddacZone2
namespace Go.Proofs.Ytnokpecdkibddac.ZN
open Go.RowKit TP

theorem tchk_ok {n fr : Int} {cL : Nat} {cz : Nat → Int} {dL : Nat} {L : Nat → Nat} {Z : Nat → Nat → Int} (h : tchk n fr cL cz dL L Z = 0) : countsP n fr cL ∧ cpusP n cL cz ∧ distP n.toNat dL L Z := by
  unfold tchk at h
  by_cases h1 : countsP n fr cL
  · rw [if_pos h1] at h
    by_cases h2 : cpusP n cL cz
    · rw [if_pos h2] at h
      by_cases h3 : distP n.toNat dL L Z
      · exact ⟨h1, h2, h3⟩
      · rw [if_neg h3] at h; omega
    · rw [if_neg h2] at h; omega
  · rw [if_neg h1] at h; omega

def upto (k i : Nat) : Nat := if i < k then i else 0
set_option maxHeartbeats 2000000 in
set_option maxRecDepth 100000 in
theorem order_ok {n : Nat} {fr : Int} {cA : Option Addr} {cL cC : Nat} {cz : Nat → Int} {dA : Option Addr} {dL dC : Nat} {L : Nat → Nat} {Z : Nat → Nat → Int} {w : World} (h : At w cA cL cz dA dL L Z)
    (hok : tchk n fr cL cz dL L Z = 0) (a : Nat) (ha : a < n) :
    Calls Try.prog 46 #[tval n fr cA cL cC dA dL dC, .int .i64 a] w fun e w' => ∃ nb f, e = .returned (.tuple #[.slice (some ⟨nb, 0, none⟩) n n, .int .i64 0]) ∧
      PermF n f ∧ SortedF (Z a) n f ∧ w'.rowIs nb 3 n (nums f) ∧ w.heap.size ≤ nb ∧ Kept [] w w' := by
  have hK0 := (Kept.refl [] w).alloc (.cells #[.int .i64 n, .int .i64 fr, .slice cA cL cC, .slice dA dL dC] 37)
  have hchk := TP.check_any n fr cC dC (h.kept hK0)
  rw [hok] at hchk
  obtain ⟨⟨⟨n1, n8⟩, -⟩, -, hdL, hLr, -⟩ := tchk_ok hok
  rw [Int.toNat_natCast] at hdL hLr
  subst hdL
  obtain ⟨b, off, A, C, hdA, hcell, hC1, hC2, hints⟩ := h.rows a ha
  subst hdA
  rw [hLr a ha] at hcell hints hC1
  have hbl : b < w.heap.size := World.block_lt_of_cell? w _ hcell
  have HI := hide hints
  have HK0 := hide hK0
  have n8' : dL ≤ 8 := by omega
  have hai : (a : Int) < (dL : Int) := by omega
  have ha0 : ¬ (a : Int) < 0 := by omega
  have hdm : (dL : Int) ≤ 8 := by omega
  clear hints hK0 hok h
  have hmk := run_make_row' (P := Try.prog) 22 3 (.int .i64 0) 8 Try.underlying22 GI.info rfl .i64 .i64 dL (by omega) (by omega)
  unfold tval at hchk ⊢
  go_enter Try.func46, Try.ntmps46
  go_wp2_with fail
  refine hchk.mono ?_
  rintro e w1 ⟨rfl, hK⟩
  have c0 := hK.cell (p := ⟨w.heap.size, 0, none⟩) (v := .int .i64 dL) (by simp) (by simp)
  have c3 := hK.cell (p := ⟨w.heap.size, 3, none⟩) (v := .slice (some ⟨b, off, none⟩) dL dC) (by simp) (by simp)
  have K1 := hide (HK0.out.next hK)
  have hBlt : w.heap.size < w1.heap.size := World.block_lt_of_cell? w1 _ c0
  clear hK hchk HK0
  go_wp2
  have R1 := hide ((World.rowIs_made w1 (.int .i64 0) dL 3).congr (g := nums (upto 0)) (fun i _ => by unfold nums upto; rfl))
  have K2 := hide (K1.out.alloc (.cells (madeCells #[.int .i64 0] dL) 3))
  have hka := (Kept.refl [] w1).alloc (.cells (madeCells #[.int .i64 0] dL) 3)
  have c3 := hka.cell c3 (by simp)
  have hsz : w1.heap.size < (w1.alloc (.cells (madeCells #[.int .i64 0] dL) 3)).heap.size := by simp
  clear hka
  generalize hw2 : w1.alloc (.cells (madeCells #[.int .i64 0] dL) 3) = w2 at R1 K2 c3 hsz ⊢
  have hd1 : decide ((a : Int) < 0) = false := decide_eq_false (by omega)
  have hd2 : decide (dL ≤ a) = false := decide_eq_false (by omega)
  have HB := hide hBlt
  have HS := hide hsz
  clear hw2 c0 K1 hmk hBlt hsz
  rw [hd1, hd2]
  clear hd1 hd2
  go_loopw [28] (fun i wr => ∃ k : Nat, k ≤ dL ∧ i = .int .i64 k ∧ wr.rowIs w1.heap.size 3 dL (nums (upto k)) ∧ Kept [] w wr ∧ w2.heap.size ≤ wr.heap.size ∧ wr.cell? ⟨w.heap.size, 3, none⟩ = some (.slice (some ⟨b, off, none⟩) dL dC)) (fun i _ => dL - (intOf i).toNat)
  case atStart => exact ⟨0, by omega, rfl, R1.out, K2.out, Nat.le_refl _, c3⟩
  case round =>
    obtain ⟨k, hk, rfl, hR, hKk, hs, d3⟩ := hrel
    clear R1 K2 c3
    by_cases hkl : k < dL
    · have hki : (k : Int) < (dL : Int) := by omega
      have fz := hR.frozen k
      have ck := hR.cell hkl
      have S := hide (And.intro hR (And.intro hKk (And.intro hs d3)))
      clear hR hKk hs d3
      go_wp2
      go_roundw
      case rel =>
        refine ⟨k + 1, by omega, by go_num, ?_, ?_, ?_, ?_⟩
        · refine (S.out.1.set k (.int .i64 k)).congr (fun i _ => ?_)
          unfold nums upto
          by_cases e : i = k
          · rw [if_pos e, if_pos (by omega), e]
          · rw [if_neg e]
            by_cases e2 : i < k
            · rw [if_pos e2, if_pos (by omega)]
            · rw [if_neg e2, if_neg (by omega)]
        · exact S.out.2.1.setCell (fun hh => absurd hh (by have := HB.out; simp; omega)) _
        · have := S.out.2.2.1; simpa using this
        · exact (World.cell?_setCell_far _ _ _ _ (by have := HB.out; simp; omega)).trans S.out.2.2.2
      case measure => simp [intOf]; omega
    · have e : k = dL := by omega
      subst e
      have hcw := hKk.cell hcell (by simp)
      have hAne : ∀ b' off', A = some ⟨b', off', none⟩ → b' ≠ w1.heap.size := by
        intro b' off' e
        obtain ⟨b2, off2, e2, hc2, -⟩ := HI.out 0 (by omega)
        have h1 := World.block_lt_of_cell? w _ hc2
        rw [e] at e2
        simp at e2
        have := HB.out
        simp at h1
        omega
      have hsrt := sort_any (nb := w1.heap.size) (q := wr.heap.size) (C := C) (D := Z a) (f0 := upto k) (w := wr.alloc (.cells #[.slice A k C] 22)) n8' (hR.alloc _)
        ⟨fun i hi => by unfold upto; rw [if_pos hi]; exact hi, fun i j hi hj e => by unfold upto at e; rwa [if_pos hi, if_pos hj] at e, fun x hx => ⟨x, hx, by unfold upto; rw [if_pos hx]⟩⟩
        (by simp) (IsInts.kept HI.out (hKk.alloc _)) (by have := HS.out; omega) hAne
      have hnb : w.heap.size ≤ w1.heap.size := Nat.le_of_lt HB.out
      have K := hide hKk
      clear hR hKk hs hAne
      go_wp2_with (go_at_call 55; refine hsrt.mono ?_; rintro e w5 ⟨rfl, f, hP5, hS5, hR5, hK5⟩; have F5 := hide (And.intro hP5 (And.intro hS5 (And.intro hR5 hK5))); clear hP5 hS5 hR5 hK5 hsrt)
      go_ret2
      exact ⟨w1.heap.size, f, rfl, F5.out.1, F5.out.2.1, F5.out.2.2.1, hnb, (K.out.alloc _).trans F5.out.2.2.2 (fun x hx hl => by simp at hx; have := HB.out; omega)⟩

set_option maxHeartbeats 1000000 in
theorem order_bad {n fr : Int} {cA : Option Addr} {cL cC : Nat} {cz : Nat → Int} {dA : Option Addr} {dL dC : Nat} {L : Nat → Nat} {Z : Nat → Nat → Int} {w : World} (h : At w cA cL cz dA dL L Z) (hok : tchk n fr cL cz dL L Z ≠ 0) (a : Int) :
    Calls Try.prog 46 #[tval n fr cA cL cC dA dL dC, .int .i64 a] w fun e w' => e = .returned (.tuple #[.slice none 0 0, .int .i64 (tchk n fr cL cz dL L Z)]) ∧ Kept [] w w' := by
  have hK0 := (Kept.refl [] w).alloc (.cells #[.int .i64 n, .int .i64 fr, .slice cA cL cC, .slice dA dL dC] 37)
  have hchk := TP.check_any n fr cC dC (h.kept hK0)
  generalize tchk n fr cL cz dL L Z = c at *
  have HK0 := hide hK0
  have hne : (c != 0) = true := by simpa using hok
  clear hK0 h hok
  unfold tval at hchk ⊢
  go_enter Try.func46, Try.ntmps46
  go_wp2_with (go_at_call 16; refine hchk.mono ?_; rintro e w1 ⟨rfl, hK⟩; have K1 := hide (HK0.out.next hK); clear hK hchk)
  go_ret2
  exact ⟨rfl, K1.out⟩
set_option maxHeartbeats 1000000 in
theorem order_node {n fr : Int} {cA : Option Addr} {cL cC : Nat} {cz : Nat → Int} {dA : Option Addr} {dL dC : Nat} {L : Nat → Nat} {Z : Nat → Nat → Int} {w : World} (h : At w cA cL cz dA dL L Z) (hok : tchk n fr cL cz dL L Z = 0) (a : Int) (ha : ¬ (0 ≤ a ∧ a < n)) :
    Calls Try.prog 46 #[tval n fr cA cL cC dA dL dC, .int .i64 a] w fun e w' => e = .returned (.tuple #[.slice none 0 0, .int .i64 10]) ∧ Kept [] w w' := by
  have hK0 := (Kept.refl [] w).alloc (.cells #[.int .i64 n, .int .i64 fr, .slice cA cL cC, .slice dA dL dC] 37)
  have hchk := TP.check_any n fr cC dC (h.kept hK0)
  rw [hok] at hchk
  have HK0 := hide hK0
  clear hK0 h hok
  unfold tval at hchk ⊢
  rcases (show a < 0 ∨ (0 ≤ a ∧ n ≤ a) from by omega) with h1 | ⟨h1, h2⟩
  all_goals
    clear ha
    go_enter Try.func46, Try.ntmps46
    go_wp2_with (go_at_call 16; refine hchk.mono ?_; rintro e w1 ⟨rfl, hK⟩; have c0 := hK.cell (p := ⟨w.heap.size, 0, none⟩) (v := .int .i64 n) (by simp) (by simp); have K1 := hide (HK0.out.next hK); clear hK hchk)
    go_ret2
    exact ⟨rfl, K1.out⟩
end Go.Proofs.Ytnokpecdkibddac.ZN
