
/-
  No statement of the program: package frag: what Orders, Largest, Fits and Index answer, over this seat's translation.
-/
import Derived.Test.YtpljldjdemobbaaDoorFrg
import Derived.Test.YtpljldjdemobbaaDoorBNils
import Derived.OwnWalk
import Derived.BigRegion
import Derived.BigQuiet
import Derived.Deep.RegionHeld3
import Derived.Deep.RegionHeld
namespace Go.Proofs.YtpljldjdemobbaaDoor.By
open Go.ChangeShapes Go.WideShapes Go.ChangeAt Go.RowKit
/-- How many of each order, as an array. -/
def ordC (T : Nat → Nat) : Array Value := #[.int .i64 (T 0 : Nat), .int .i64 (T 1 : Nat), .int .i64 (T 2 : Nat), .int .i64 (T 3 : Nat), .int .i64 (T 4 : Nat), .int .i64 (T 5 : Nat), .int .i64 (T 6 : Nat), .int .i64 (T 7 : Nat), .int .i64 (T 8 : Nat), .int .i64 (T 9 : Nat), .int .i64 (T 10 : Nat)]
theorem ordC_get (u : Nat → Nat) (k : Nat) (hk : k < 11) : (ordC u)[k]? = some (.int .i64 (u k : Nat)) := by
  rcases (show k = 0 ∨ k = 1 ∨ k = 2 ∨ k = 3 ∨ k = 4 ∨ k = 5 ∨ k = 6 ∨ k = 7 ∨ k = 8 ∨ k = 9 ∨ k = 10 by omega) with e | e | e | e | e | e | e | e | e | e | e <;> (subst e; rfl)
set_option maxHeartbeats 1000000 in
theorem orders_any {w : World} {b : Value} {T : Nat → Nat} (h : ∀ k : Nat, k < 11 → ∀ wr, Kept [] w wr → Calls Tryd.prog 24 #[b, .int .i64 k] wr fun e w' => ∃ ao cap, e = .returned (.slice ao (T k) cap) ∧ Kept [] wr w') :
    Calls Tryd.prog 12 #[b] w fun e w' => e = .returned (.agg (ordC T)) ∧ Kept [] w w' := by
  have H := hide h
  clear h
  go_enter Tryd.func12, Tryd.ntmps12
  go_wp2_with fail
  have hr0 := World.rowIs_alloc (w.alloc (.cells #[.int .i64 0, .int .i64 0, .int .i64 0, .int .i64 0, .int .i64 0, .int .i64 0, .int .i64 0, .int .i64 0, .int .i64 0, .int .i64 0, .int .i64 0] 28)) #[.int .i64 0, .int .i64 0, .int .i64 0, .int .i64 0, .int .i64 0, .int .i64 0, .int .i64 0, .int .i64 0, .int .i64 0, .int .i64 0, .int .i64 0] 28 (fun j => .int .i64 (if j < 0 then T j else 0 : Nat)) (fun i hi => by
    have hi2 : i < 11 := hi
    rcases (show i = 0 ∨ i = 1 ∨ i = 2 ∨ i = 3 ∨ i = 4 ∨ i = 5 ∨ i = 6 ∨ i = 7 ∨ i = 8 ∨ i = 9 ∨ i = 10 by omega) with e | e | e | e | e | e | e | e | e | e | e <;> (subst e; rfl))
  have e0 : (w.alloc (.cells #[.int .i64 0, .int .i64 0, .int .i64 0, .int .i64 0, .int .i64 0, .int .i64 0, .int .i64 0, .int .i64 0, .int .i64 0, .int .i64 0, .int .i64 0] 28)).heap.size = w.heap.size + 1 := by simp
  rw [e0] at hr0
  have R0 := hide hr0
  have hq0 := World.rowIs_alloc w #[.int .i64 0, .int .i64 0, .int .i64 0, .int .i64 0, .int .i64 0, .int .i64 0, .int .i64 0, .int .i64 0, .int .i64 0, .int .i64 0, .int .i64 0] 28 (fun _ => .int .i64 0) (fun i hi => by
    have hi2 : i < 11 := hi
    rcases (show i = 0 ∨ i = 1 ∨ i = 2 ∨ i = 3 ∨ i = 4 ∨ i = 5 ∨ i = 6 ∨ i = 7 ∨ i = 8 ∨ i = 9 ∨ i = 10 by omega) with e | e | e | e | e | e | e | e | e | e | e <;> (subst e; rfl))
  have Q0 := hide (hq0.alloc (.cells #[.int .i64 0, .int .i64 0, .int .i64 0, .int .i64 0, .int .i64 0, .int .i64 0, .int .i64 0, .int .i64 0, .int .i64 0, .int .i64 0, .int .i64 0] 28))
  clear hq0
  clear hr0 e0
  go_loopw [5] (fun v wr => ∃ k : Nat, k ≤ 11 ∧ v = .int .i64 k ∧ wr.rowIs (w.heap.size + 1) 28 11 (fun j => .int .i64 (if j < k then T j else 0 : Nat)) ∧ wr.rowIs w.heap.size 28 11 (fun _ => .int .i64 0) ∧ Kept [] w wr ∧ w.heap.size < wr.heap.size) (fun v _ => 11 - (intOf v).toNat)
  case atStart => exact ⟨0, by omega, rfl, R0.out, Q0.out, ((Kept.refl [] w).alloc _).alloc _, by simp; omega⟩
  case round =>
    obtain ⟨k, hk, rfl, hr, hq, hK, hs⟩ := hrel
    have R := hide hr
    have KK := hide hK
    have Q := hide hq
    clear hr hK hq R0 Q0
    by_cases h2 : k < 11
    · have hki : (k : Int) < 11 := by omega
      have hk0 : (0 : Int) ≤ (k : Int) := by omega
      go_wp2_with fail
      refine (H.out k h2 wr KK.out).mono ?_
      rintro e w3 ⟨ao, cap, rfl, hk3⟩
      have R3 := hide (hk3.row R.out (by simp))
      have Q3 := hide (hk3.row Q.out (by simp))
      have K3 := hide (KK.out.next hk3)
      clear R KK Q
      have hsz := hk3.size
      have hc := R3.out.cell h2
      have hf := R3.out.frozen k
      clear hk3
      go_wp2_with fail
      have R4 := hide ((R3.out.set k (.int .i64 (T k : Nat))).congr (g := fun j => .int .i64 (if j < k + 1 then T j else 0 : Nat)) (fun i hi => by
        by_cases e : i = k
        · subst e; rw [if_pos rfl, if_pos (by omega)]
        · rw [if_neg e]
          by_cases h4 : i < k
          · rw [if_pos h4, if_pos (by omega)]
          · rw [if_neg h4, if_neg (by omega)]))
      have Q4 := hide (Q3.out.setOther (a := ⟨w.heap.size + 1, k, none⟩) (by simp) (.int .i64 (T k : Nat)))
      have K4 := hide (K3.out.setCell (p := ⟨w.heap.size + 1, k, none⟩) (fun hx => by simp at hx; omega) (.int .i64 (T k : Nat)))
      go_roundw
      case rel => exact ⟨k + 1, by omega, by go_num, R4.out, Q4.out, K4.out, by have := hsz; simp; omega⟩
      case measure => simp [intOf]; omega
    · have hk11 : k = 11 := by omega
      subst hk11
      have c0 := R.out.cell (i := 0) (by omega)
      have c1 := R.out.cell (i := 1) (by omega)
      have c2 := R.out.cell (i := 2) (by omega)
      have c3 := R.out.cell (i := 3) (by omega)
      have c4 := R.out.cell (i := 4) (by omega)
      have c5 := R.out.cell (i := 5) (by omega)
      have c6 := R.out.cell (i := 6) (by omega)
      have c7 := R.out.cell (i := 7) (by omega)
      have c8 := R.out.cell (i := 8) (by omega)
      have c9 := R.out.cell (i := 9) (by omega)
      have c10 := R.out.cell (i := 10) (by omega)
      simp only [Nat.reduceLT, if_true] at c0 c1 c2 c3 c4 c5 c6 c7 c8 c9 c10
      have d0 := Q.out.cell (i := 0) (by omega)
      have f0 := Q.out.frozen 0
      have d1 := Q.out.cell (i := 1) (by omega)
      have f1 := Q.out.frozen 1
      have d2 := Q.out.cell (i := 2) (by omega)
      have f2 := Q.out.frozen 2
      have d3 := Q.out.cell (i := 3) (by omega)
      have f3 := Q.out.frozen 3
      have d4 := Q.out.cell (i := 4) (by omega)
      have f4 := Q.out.frozen 4
      have d5 := Q.out.cell (i := 5) (by omega)
      have f5 := Q.out.frozen 5
      have d6 := Q.out.cell (i := 6) (by omega)
      have f6 := Q.out.frozen 6
      have d7 := Q.out.cell (i := 7) (by omega)
      have f7 := Q.out.frozen 7
      have d8 := Q.out.cell (i := 8) (by omega)
      have f8 := Q.out.frozen 8
      have d9 := Q.out.cell (i := 9) (by omega)
      have f9 := Q.out.frozen 9
      have d10 := Q.out.cell (i := 10) (by omega)
      have f10 := Q.out.frozen 10
      go_wp2_with fail
      have hR := (((((((((((Q.out.set 0 (.int .i64 (T 0))).set 1 (.int .i64 (T 1))).set 2 (.int .i64 (T 2))).set 3 (.int .i64 (T 3))).set 4 (.int .i64 (T 4))).set 5 (.int .i64 (T 5))).set 6 (.int .i64 (T 6))).set 7 (.int .i64 (T 7))).set 8 (.int .i64 (T 8))).set 9 (.int .i64 (T 9))).set 10 (.int .i64 (T 10)))
      have KE := hide (((((((((((KK.out.setCell (p := ⟨w.heap.size, 0, none⟩) (fun hx => by simp at hx) (.int .i64 (T 0))).setCell (p := ⟨w.heap.size, 1, none⟩) (fun hx => by simp at hx) (.int .i64 (T 1))).setCell (p := ⟨w.heap.size, 2, none⟩) (fun hx => by simp at hx) (.int .i64 (T 2))).setCell (p := ⟨w.heap.size, 3, none⟩) (fun hx => by simp at hx) (.int .i64 (T 3))).setCell (p := ⟨w.heap.size, 4, none⟩) (fun hx => by simp at hx) (.int .i64 (T 4))).setCell (p := ⟨w.heap.size, 5, none⟩) (fun hx => by simp at hx) (.int .i64 (T 5))).setCell (p := ⟨w.heap.size, 6, none⟩) (fun hx => by simp at hx) (.int .i64 (T 6))).setCell (p := ⟨w.heap.size, 7, none⟩) (fun hx => by simp at hx) (.int .i64 (T 7))).setCell (p := ⟨w.heap.size, 8, none⟩) (fun hx => by simp at hx) (.int .i64 (T 8))).setCell (p := ⟨w.heap.size, 9, none⟩) (fun hx => by simp at hx) (.int .i64 (T 9))).setCell (p := ⟨w.heap.size, 10, none⟩) (fun hx => by simp at hx) (.int .i64 (T 10)))
      have r0 := hR.cell (i := 0) (by omega)
      have r1 := hR.cell (i := 1) (by omega)
      have r2 := hR.cell (i := 2) (by omega)
      have r3 := hR.cell (i := 3) (by omega)
      have r4 := hR.cell (i := 4) (by omega)
      have r5 := hR.cell (i := 5) (by omega)
      have r6 := hR.cell (i := 6) (by omega)
      have r7 := hR.cell (i := 7) (by omega)
      have r8 := hR.cell (i := 8) (by omega)
      have r9 := hR.cell (i := 9) (by omega)
      have r10 := hR.cell (i := 10) (by omega)
      simp only [Nat.reduceEqDiff, if_true, if_false] at r0 r1 r2 r3 r4 r5 r6 r7 r8 r9 r10
      clear hR d0 f0 c0 d1 f1 c1 d2 f2 c2 d3 f3 c3 d4 f4 c4 d5 f5 c5 d6 f6 c6 d7 f7 c7 d8 f8 c8 d9 f9 c9 d10 f10 c10
      generalize (((((((((((wr.setCell ⟨w.heap.size, 0, none⟩ (.int .i64 (T 0))).setCell ⟨w.heap.size, 1, none⟩ (.int .i64 (T 1))).setCell ⟨w.heap.size, 2, none⟩ (.int .i64 (T 2))).setCell ⟨w.heap.size, 3, none⟩ (.int .i64 (T 3))).setCell ⟨w.heap.size, 4, none⟩ (.int .i64 (T 4))).setCell ⟨w.heap.size, 5, none⟩ (.int .i64 (T 5))).setCell ⟨w.heap.size, 6, none⟩ (.int .i64 (T 6))).setCell ⟨w.heap.size, 7, none⟩ (.int .i64 (T 7))).setCell ⟨w.heap.size, 8, none⟩ (.int .i64 (T 8))).setCell ⟨w.heap.size, 9, none⟩ (.int .i64 (T 9))).setCell ⟨w.heap.size, 10, none⟩ (.int .i64 (T 10))) = w1 at r0 r1 r2 r3 r4 r5 r6 r7 r8 r9 r10 KE ⊢
      refine bodyPost_ret (by simp [results, Tryd.results12, go_sem, r0, r1, r2, r3, r4, r5, r6, r7, r8, r9, r10]; try rfl) rfl ?_
      exact ⟨rfl, KE.out⟩
theorem orders_ok {w : World} {p K f : Nat} {u : Nat → Bool} {tk : Nat → Nat} {F : List Nat} (h : BS w p K u tk f F) :
    Calls Tryd.prog 12 #[.pointer (some ⟨p, 0, none⟩)] w fun e w' => e = .returned (.agg (ordC (tops u))) ∧ Kept [] w w' :=
  orders_any (fun k hk wr hK => (bs_runs k (h.kept0 hK) (by omega) rfl).mono (by
    rintro e w3 ⟨v, l, rfl, hN, hL, hl, hb, hk3⟩
    obtain ⟨ao, cap, rfl, -⟩ := hN.slice
    exact ⟨ao, cap, by rw [hL.tops], hk3⟩))
theorem orders_nil (w : World) : Calls Tryd.prog 12 #[.pointer none] w fun e w' => e = .returned (.agg (ordC (fun _ => 0))) ∧ Kept [] w w' :=
  orders_any (fun k hk wr hK => (runs_nil _ _).mono (by
    rintro e w3 ⟨rfl, rfl⟩
    exact ⟨none, 0, rfl, Kept.refl _ _⟩))
theorem isorder_ok (o : Nat) (ho : o ≤ 10) {oi : Int} (eo : oi = o) (w : World) : Calls Tryd.prog 23 #[.int .i64 oi] w fun e w' => e = .returned (.bool true) ∧ w' = w := by
  subst eo
  have hb0 : (0 : Int) ≤ o := by omega
  have hb1 : (o : Int) ≤ 10 := by omega
  go_enter Tryd.func23, Tryd.ntmps23
  go_wp2
  go_ret
  exact ⟨rfl, rfl⟩
theorem isorder_no {oi : Int} (ho : ¬ (0 ≤ oi ∧ oi ≤ 10)) (w : World) : Calls Tryd.prog 23 #[.int .i64 oi] w fun e w' => e = .returned (.bool false) ∧ w' = w := by
  by_cases h0 : 0 ≤ oi
  · have h1 : ¬ oi ≤ 10 := by omega
    go_enter Tryd.func23, Tryd.ntmps23
    go_wp2
    go_ret
    exact ⟨rfl, rfl⟩
  · go_enter Tryd.func23, Tryd.ntmps23
    go_wp2
    go_ret
    exact ⟨rfl, rfl⟩

theorem run_indexA11 (u : Nat → Nat) {k : Nat} (hk : k < 11) (w : World) : (Instr.index 28 (.agg (ordC u)) (.int .i64 (k : Int))).run Tryd.prog w = .ok (.int .i64 (u k : Nat)) w := by
  have h2 := ordC_get u k hk
  have h3 : ((k : Nat) : Int) < 11 := by omega
  simp [Instr.index, asIntOf, run_underlying Tryd.underlying28, Tryd.sizeOf3, part, Tryd.isAgg3, h2]
  intro h; omega
/-- The greatest order of a free run, of those below k. -/
def best (T : Nat → Nat) : Nat → Int
  | 0 => -1
  | k + 1 => if 0 < T k then (k : Int) else best T k
set_option maxHeartbeats 1000000 in
theorem largest_any {w : World} {b : Value} {T : Nat → Nat} (h : Calls Tryd.prog 12 #[b] w fun e w' => e = .returned (.agg (ordC T)) ∧ Kept [] w w') :
    Calls Tryd.prog 10 #[b] w fun e w' => e = .returned (.int .i64 (best T 11)) ∧ Kept [] w w' := by
  have H := hide h
  clear h
  go_enter Tryd.func10, Tryd.ntmps10
  go_wp2_with fail
  refine H.out.mono ?_
  rintro e w2 ⟨rfl, hk⟩
  have K2 := hide hk
  clear hk
  go_wp2_with fail
  go_loop [3, 8] (fun b i => ∃ k : Nat, k ≤ 11 ∧ i = .int .i64 k ∧ b = .int .i64 (best T k)) (fun _ i => 11 - (intOf i).toNat)
  case atStart => exact ⟨0, by omega, rfl, rfl⟩
  case round =>
    obtain ⟨k, hk, rfl, rfl⟩ := hrel
    by_cases h2 : k < 11
    · have hi := run_indexA11 T h2
      have hki : (k : Int) < 11 := by omega
      have hB := hide (show best T (k + 1) = if 0 < T k then (k : Int) else best T k from rfl)
      by_cases h3 : 0 < T k
      · have h4 : (0 : Int) < (T k : Nat) := by omega
        have e := hB.out
        rw [if_pos h3] at e
        clear hB
        go_wp2
        go_round
        case rel => exact ⟨k + 1, by omega, by go_num, by rw [e]⟩
        case measure => simp [intOf]; omega
      · have h4 : ¬ (0 : Int) < (T k : Nat) := by omega
        have e := hB.out
        rw [if_neg h3] at e
        clear hB
        go_wp2
        go_round
        case rel => exact ⟨k + 1, by omega, by go_num, by rw [e]⟩
        case measure => simp [intOf]; omega
    · have hk11 : k = 11 := by omega
      subst hk11
      go_wp2
      go_ret
      exact ⟨rfl, K2.out⟩
set_option maxHeartbeats 1000000 in
theorem fits_any {w : World} {b : Value} {T : Nat → Nat} (hT : ∀ j, j < 11 → T j ≤ 1024) (h : Calls Tryd.prog 12 #[b] w fun e w' => e = .returned (.agg (ordC T)) ∧ Kept [] w w') (o : Nat) (ho : o ≤ 10) {oi : Int} (eo : oi = o) :
    Calls Tryd.prog 11 #[b, .int .i64 oi] w fun e w' => e = .returned (.int .i64 (fits T o (11 - o) : Nat)) ∧ Kept [] w w' := by
  subst eo
  have H := hide h
  have HT := hide (fits_le T o hT)
  have HT2 := hide hT
  clear h hT
  go_enter Tryd.func11, Tryd.ntmps11
  go_wp2_with (first | (go_at_call 23; refine (isorder_ok o ho rfl _).mono ?_; rintro e w3 ⟨rfl, hw3⟩; subst w3))
  refine H.out.mono ?_
  rintro e w2 ⟨rfl, hk⟩
  have K2 := hide hk
  clear hk H
  go_wp2_with fail
  go_loop [5, 13] (fun s i => ∃ k : Nat, k ≤ 11 ∧ i = .int .i64 k ∧ s = .int .i64 (fits T o (k - o) : Nat)) (fun _ i => 11 - (intOf i).toNat)
  case atStart => exact ⟨0, by omega, rfl, by rw [Nat.zero_sub]; rfl⟩
  case round =>
    obtain ⟨k, hk, rfl, rfl⟩ := hrel
    by_cases h2 : k < 11
    · have hi := run_indexA11 T h2
      have hki : (k : Int) < 11 := by omega
      by_cases h3 : o ≤ k
      · have h4 : (o : Int) ≤ (k : Int) := by omega
        obtain ⟨d, hd⟩ : ∃ d, k = o + d := ⟨k - o, by omega⟩
        have ht := HT2.out _ h2
        have hp : 2 ^ d ≤ 2 ^ 10 := Nat.pow_le_pow_right (by decide) (by omega)
        have hq : T k * 2 ^ d ≤ 1024 * 2 ^ 10 := Nat.mul_le_mul ht hp
        have hl := HT.out d (by omega)
        have em : k - o = d := by omega
        have em1 : k + 1 - o = d + 1 := by omega
        have ew : IntKind.i64.wrap ((k : Int) - (o : Int)) = (d : Int) := by rw [IntKind.wrap_i64]; omega
        have hd0 : (0 : Int) ≤ (d : Int) := by omega
        have hnx : wrap64 ((fits T o (k - o) : Nat) + wrap64 ((T k : Int) * 2 ^ d)) = (fits T o (k + 1 - o) : Nat) := by
          have e1 : (T k : Int) * 2 ^ d = ((T k * 2 ^ d : Nat) : Int) := by simp
          rw [em, em1, e1, IntWalk.wrap64_in ((T k * 2 ^ d : Nat) : Int) ⟨by omega, by omega⟩, fits_succ, ← hd, IntWalk.wrap64_in _ ⟨by omega, by omega⟩]
          omega
        have hmin : min d 64 = d := by omega
        have HX := hide hnx
        have HMin := hide hmin
        have HD := hide hd
        clear hnx hp hq ht hl em em1 hd hmin
        go_wp2
        go_round
        case rel => exact ⟨k + 1, by omega, by go_num, by rw [HMin.out, HX.out]⟩
        case measure => simp [intOf]; omega
      · have h4 : ¬ (o : Int) ≤ (k : Int) := by omega
        have em : k - o = k + 1 - o := by omega
        go_wp2
        go_round
        case rel => exact ⟨k + 1, by omega, by go_num, by rw [← em]⟩
        case measure => simp [intOf]; omega
    · have hk11 : k = 11 := by omega
      subst hk11
      go_wp2
      go_ret
      exact ⟨rfl, K2.out⟩
theorem fits_no {oi : Int} (ho : ¬ (0 ≤ oi ∧ oi ≤ 10)) (b : Value) (w : World) : Calls Tryd.prog 11 #[b, .int .i64 oi] w fun e w' => e = .returned (.int .i64 0) ∧ w' = w := by
  go_enter Tryd.func11, Tryd.ntmps11
  go_wp2_with (first | (go_at_call 23; refine (isorder_no ho _).mono ?_; rintro e w3 ⟨rfl, hw3⟩; subst w3))
  go_ret
  exact ⟨rfl, rfl⟩
set_option maxHeartbeats 1000000 in
theorem index_ok {w : World} {p K f : Nat} {u : Nat → Bool} {tk : Nat → Nat} {F : List Nat} (h : BS w p K u tk f F) (o : Nat) (ho : o ≤ 10) (hf : f ≠ 0) {oi : Int} (eo : oi = o) :
    Calls Tryd.prog 8 #[.pointer (some ⟨p, 0, none⟩), .int .i64 oi] w fun e w' => e = .returned (.tuple #[.int .i64 (tsum u o * 1000 / f : Nat), .bool true]) ∧ Kept [] w w' := by
  subst eo
  have hts : tsum u o ≤ f := by
    have := h.tsum
    rw [tsum_fit (o := o) (by omega)] at this
    omega
  have hfl := h.fle
  have H := hide h
  have hT := hide (fun k (hk : k < 11) => h.tops_le (j := k) (by omega))
  have hb0 : (0 : Int) ≤ o := by omega
  have hb1 : (o : Int) ≤ 10 := by omega
  have hfi : ¬ (f : Int) = 0 := by omega
  clear h
  go_enter Tryd.func8, Tryd.ntmps8
  go_wp2_with (first | (go_at_call 23; refine (isorder_ok o ho rfl _).mono ?_; rintro e w3 ⟨rfl, hw3⟩; subst w3))
  refine (bs_free H.out).mono ?_
  rintro e w2 ⟨rfl, rfl⟩
  go_wp2_with (first | (go_at_call 23; refine (isorder_ok o ho rfl _).mono ?_; rintro e w3 ⟨rfl, hw3⟩; subst w3))
  refine (orders_ok H.out).mono ?_
  rintro e w2 ⟨rfl, hk⟩
  have K2 := hide hk
  clear hk
  go_wp2_with fail
  go_loop [7, 21] (fun s i => ∃ k : Nat, k ≤ 11 ∧ i = .int .i64 k ∧ s = .int .i64 (tsum u (min k o) : Nat)) (fun _ i => 11 - (intOf i).toNat)
  case atStart => exact ⟨0, by omega, rfl, by rw [Nat.zero_min]; rfl⟩
  case round =>
    obtain ⟨k, hk, rfl, rfl⟩ := hrel
    by_cases h2 : k < 11
    · have hi := run_indexA11 (tops u) h2
      have hki : (k : Int) < 11 := by omega
      by_cases h3 : k < o
      · have h4 : (k : Int) < (o : Int) := by omega
        have ht := hT.out k h2
        have hp : 2 ^ k ≤ 2 ^ 10 := Nat.pow_le_pow_right (by decide) (by omega)
        have hq : tops u k * 2 ^ k ≤ 1024 * 2 ^ 10 := Nat.mul_le_mul ht hp
        have em : min k o = k := by omega
        have em1 : min (k + 1) o = k + 1 := by omega
        have hle : tsum u k ≤ tsum u o := by
          have := tsum_mono u (a := k) (o - k)
          rwa [show k + (o - k) = o by omega] at this
        have hnx : wrap64 ((tsum u (min k o) : Int) + wrap64 ((tops u k : Int) * 2 ^ k)) = (tsum u (min (k + 1) o) : Nat) := by
          have e1 : (tops u k : Int) * 2 ^ k = ((tops u k * 2 ^ k : Nat) : Int) := by simp
          rw [em, em1, e1, IntWalk.wrap64_in ((tops u k * 2 ^ k : Nat) : Int) ⟨by omega, by omega⟩, tsum_succ, IntWalk.wrap64_in _ ⟨by omega, by omega⟩]
          omega
        have HX := hide hnx
        clear hnx hp hq ht hle em em1 hT
        go_wp2
        go_round
        case rel => exact ⟨k + 1, by omega, by go_num, by rw [HX.out]⟩
        case measure => simp [intOf]; omega
      · have h4 : ¬ (k : Int) < (o : Int) := by omega
        have em : min k o = min (k + 1) o := by omega
        clear hT
        go_wp2
        go_round
        case rel => exact ⟨k + 1, by omega, by go_num, by rw [← em]⟩
        case measure => simp [intOf]; omega
    · have hk11 : k = 11 := by omega
      subst hk11
      have em : min 11 o = o := by omega
      rw [em]
      have e1 : wrap64 ((tsum u o : Int) * 1000) = ((tsum u o * 1000 : Nat) : Int) := by
        rw [IntWalk.wrap64_in _ ⟨by omega, by omega⟩]; omega
      clear hT
      go_wp2
      go_ret2
      exact ⟨rfl, K2.out⟩
theorem index_no {b : Value} {w : World} {f : Nat} (h : Calls Tryd.prog 16 #[b] w fun e w' => e = .returned (.int .i64 f) ∧ w' = w) {oi : Int} (ho : ¬ (0 ≤ oi ∧ oi ≤ 10) ∨ f = 0) : Calls Tryd.prog 8 #[b, .int .i64 oi] w fun e w' => e = .returned (.tuple #[.int .i64 0, .bool false]) ∧ w' = w := by
  by_cases hO : 0 ≤ oi ∧ oi ≤ 10
  · have hf : f = 0 := ho.resolve_left (fun x => x hO)
    subst hf
    obtain ⟨o, rfl⟩ := Int.eq_ofNat_of_zero_le hO.1
    have ho10 : o ≤ 10 := by omega
    clear ho hO
    go_enter Tryd.func8, Tryd.ntmps8
    go_wp2_with (first | (go_at_call 16; refine h.mono ?_; rintro e w2 ⟨rfl, hw2⟩; subst w2) | (go_at_call 23; refine (isorder_ok o ho10 rfl _).mono ?_; rintro e w3 ⟨rfl, hw3⟩; subst w3))
    go_ret2
    exact ⟨rfl, rfl⟩
  · clear ho
    go_enter Tryd.func8, Tryd.ntmps8
    go_wp2_with (first | (go_at_call 16; refine h.mono ?_; rintro e w2 ⟨rfl, hw2⟩; subst w2) | (go_at_call 23; refine (isorder_no hO _).mono ?_; rintro e w3 ⟨rfl, hw3⟩; subst w3))
    go_ret2
    exact ⟨rfl, rfl⟩
end Go.Proofs.YtpljldjdemobbaaDoor.By
