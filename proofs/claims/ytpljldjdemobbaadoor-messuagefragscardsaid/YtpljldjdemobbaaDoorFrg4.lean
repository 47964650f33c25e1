
/-
  No statement of the program: the document's Orders and Index of layer 28, over this seat's translation.
-/
import Derived.Test.YtpljldjdemobbaaDoorFrg3
namespace Go.Proofs.YtpljldjdemobbaaDoor.By
open Go.ChangeShapes Go.WideShapes Go.ChangeAt Go.RowKit
set_option maxHeartbeats 1000000 in
theorem rorders_any {w : World} {b : Value} {T : Nat → Nat} (h : ∀ k : Nat, k < 11 → ∀ wr, Kept [] w wr → Calls Tryd.prog 28 #[b, .int .i64 k] wr fun e w' => ∃ ao cap, e = .returned (.slice ao (T k) cap) ∧ Kept [] wr w') :
    Calls Tryd.prog 14 #[b] w fun e w' => e = .returned (.agg (ordC T)) ∧ Kept [] w w' := by
  have H := hide h
  clear h
  go_enter Tryd.func14, Tryd.ntmps14
  go_wp2_with fail
  have hr0 := World.rowIs_alloc (w.alloc (.cells #[.int .i64 0, .int .i64 0, .int .i64 0, .int .i64 0, .int .i64 0, .int .i64 0, .int .i64 0, .int .i64 0, .int .i64 0, .int .i64 0, .int .i64 0] 28)) #[.int .i64 0, .int .i64 0, .int .i64 0, .int .i64 0, .int .i64 0, .int .i64 0, .int .i64 0, .int .i64 0, .int .i64 0, .int .i64 0, .int .i64 0] 28 (fun j => .int .i64 (if j < 0 then T j else 0 : Nat)) (fun i hi => by
    have hi2 : i < 11 := hi
    rcases (show i = 0 ∨ i = 1 ∨ i = 2 ∨ i = 3 ∨ i = 4 ∨ i = 5 ∨ i = 6 ∨ i = 7 ∨ i = 8 ∨ i = 9 ∨ i = 10 by omega) with e | e | e | e | e | e | e | e | e | e | e <;> (subst e; rfl))
  have e0 : (w.alloc (.cells #[.int .i64 0, .int .i64 0, .int .i64 0, .int .i64 0, .int .i64 0, .int .i64 0, .int .i64 0, .int .i64 0, .int .i64 0, .int .i64 0, .int .i64 0] 28)).heap.size = w.heap.size + 1 := by simp
  rw [e0] at hr0
  have R0 := hide hr0
  have hq0 := World.rowIs_alloc w #[.int .i64 0, .int .i64 0, .int .i64 0, .int .i64 0, .int .i64 0, .int .i64 0, .int .i64 0, .int .i64 0, .int .i64 0, .int .i64 0, .int .i64 0] 28 (fun _ => .int .i64 0) (fun i hi => by
    have hi2 : i < 11 := hi
    rcases (show i = 0 ∨ i = 1 ∨ i = 2 ∨ i = 3 ∨ i = 4 ∨ i = 5 ∨ i = 6 ∨ i = 7 ∨ i = 8 ∨ i = 9 ∨ i = 10 by omega) with e | e | e | e | e | e | e | e | e | e | e <;> (subst e; rfl))
  have Q0 := hide (hq0.alloc (.cells #[.int .i64 0, .int .i64 0, .int .i64 0, .int .i64 0, .int .i64 0, .int .i64 0, .int .i64 0, .int .i64 0, .int .i64 0, .int .i64 0, .int .i64 0] 28))
  clear hq0
  clear hr0 e0
  go_loopw [4] (fun v wr => ∃ k : Nat, k ≤ 11 ∧ v = .int .i64 k ∧ wr.rowIs (w.heap.size + 1) 28 11 (fun j => .int .i64 (if j < k then T j else 0 : Nat)) ∧ wr.rowIs w.heap.size 28 11 (fun _ => .int .i64 0) ∧ Kept [] w wr ∧ w.heap.size < wr.heap.size) (fun v _ => 11 - (intOf v).toNat)
  case atStart => exact ⟨0, by omega, rfl, R0.out, Q0.out, ((Kept.refl [] w).alloc _).alloc _, by simp; omega⟩
  case round =>
    obtain ⟨k, hk, rfl, hr, hq, hK, hs⟩ := hrel
    have R := hide hr
    have KK := hide hK
    have Q := hide hq
    clear hr hK hq R0 Q0
    by_cases h2 : k < 11
    · have hki : (k : Int) ≤ 10 := by omega
      have hk0 : (0 : Int) ≤ (k : Int) := by omega
      go_wp2_with fail
      refine (H.out k h2 wr KK.out).mono ?_
      rintro e w3 ⟨ao, cap, rfl, hk3⟩
      have R3 := hide (hk3.row R.out (by simp))
      have Q3 := hide (hk3.row Q.out (by simp))
      have K3 := hide (KK.out.next hk3)
      clear R KK Q
      have hsz := hk3.size
      have hc := R3.out.cell h2
      have hf := R3.out.frozen k
      clear hk3
      go_wp2_with fail
      have R4 := hide ((R3.out.set k (.int .i64 (T k : Nat))).congr (g := fun j => .int .i64 (if j < k + 1 then T j else 0 : Nat)) (fun i hi => by
        by_cases e : i = k
        · subst e; rw [if_pos rfl, if_pos (by omega)]
        · rw [if_neg e]
          by_cases h4 : i < k
          · rw [if_pos h4, if_pos (by omega)]
          · rw [if_neg h4, if_neg (by omega)]))
      have Q4 := hide (Q3.out.setOther (a := ⟨w.heap.size + 1, k, none⟩) (by simp) (.int .i64 (T k : Nat)))
      have K4 := hide (K3.out.setCell (p := ⟨w.heap.size + 1, k, none⟩) (fun hx => by simp at hx; omega) (.int .i64 (T k : Nat)))
      go_roundw
      case rel => exact ⟨k + 1, by omega, by go_num, R4.out, Q4.out, K4.out, by have := hsz; simp; omega⟩
      case measure => simp [intOf]; omega
    · have hk11 : k = 11 := by omega
      subst hk11
      have hki : ¬ ((11 : Nat) : Int) ≤ 10 := by omega
      have c0 := R.out.cell (i := 0) (by omega)
      have c1 := R.out.cell (i := 1) (by omega)
      have c2 := R.out.cell (i := 2) (by omega)
      have c3 := R.out.cell (i := 3) (by omega)
      have c4 := R.out.cell (i := 4) (by omega)
      have c5 := R.out.cell (i := 5) (by omega)
      have c6 := R.out.cell (i := 6) (by omega)
      have c7 := R.out.cell (i := 7) (by omega)
      have c8 := R.out.cell (i := 8) (by omega)
      have c9 := R.out.cell (i := 9) (by omega)
      have c10 := R.out.cell (i := 10) (by omega)
      simp only [Nat.reduceLT, if_true] at c0 c1 c2 c3 c4 c5 c6 c7 c8 c9 c10
      have d0 := Q.out.cell (i := 0) (by omega)
      have f0 := Q.out.frozen 0
      have d1 := Q.out.cell (i := 1) (by omega)
      have f1 := Q.out.frozen 1
      have d2 := Q.out.cell (i := 2) (by omega)
      have f2 := Q.out.frozen 2
      have d3 := Q.out.cell (i := 3) (by omega)
      have f3 := Q.out.frozen 3
      have d4 := Q.out.cell (i := 4) (by omega)
      have f4 := Q.out.frozen 4
      have d5 := Q.out.cell (i := 5) (by omega)
      have f5 := Q.out.frozen 5
      have d6 := Q.out.cell (i := 6) (by omega)
      have f6 := Q.out.frozen 6
      have d7 := Q.out.cell (i := 7) (by omega)
      have f7 := Q.out.frozen 7
      have d8 := Q.out.cell (i := 8) (by omega)
      have f8 := Q.out.frozen 8
      have d9 := Q.out.cell (i := 9) (by omega)
      have f9 := Q.out.frozen 9
      have d10 := Q.out.cell (i := 10) (by omega)
      have f10 := Q.out.frozen 10
      go_wp2_with fail
      have hR := (((((((((((Q.out.set 0 (.int .i64 (T 0))).set 1 (.int .i64 (T 1))).set 2 (.int .i64 (T 2))).set 3 (.int .i64 (T 3))).set 4 (.int .i64 (T 4))).set 5 (.int .i64 (T 5))).set 6 (.int .i64 (T 6))).set 7 (.int .i64 (T 7))).set 8 (.int .i64 (T 8))).set 9 (.int .i64 (T 9))).set 10 (.int .i64 (T 10)))
      have KE := hide (((((((((((KK.out.setCell (p := ⟨w.heap.size, 0, none⟩) (fun hx => by simp at hx) (.int .i64 (T 0))).setCell (p := ⟨w.heap.size, 1, none⟩) (fun hx => by simp at hx) (.int .i64 (T 1))).setCell (p := ⟨w.heap.size, 2, none⟩) (fun hx => by simp at hx) (.int .i64 (T 2))).setCell (p := ⟨w.heap.size, 3, none⟩) (fun hx => by simp at hx) (.int .i64 (T 3))).setCell (p := ⟨w.heap.size, 4, none⟩) (fun hx => by simp at hx) (.int .i64 (T 4))).setCell (p := ⟨w.heap.size, 5, none⟩) (fun hx => by simp at hx) (.int .i64 (T 5))).setCell (p := ⟨w.heap.size, 6, none⟩) (fun hx => by simp at hx) (.int .i64 (T 6))).setCell (p := ⟨w.heap.size, 7, none⟩) (fun hx => by simp at hx) (.int .i64 (T 7))).setCell (p := ⟨w.heap.size, 8, none⟩) (fun hx => by simp at hx) (.int .i64 (T 8))).setCell (p := ⟨w.heap.size, 9, none⟩) (fun hx => by simp at hx) (.int .i64 (T 9))).setCell (p := ⟨w.heap.size, 10, none⟩) (fun hx => by simp at hx) (.int .i64 (T 10)))
      have r0 := hR.cell (i := 0) (by omega)
      have r1 := hR.cell (i := 1) (by omega)
      have r2 := hR.cell (i := 2) (by omega)
      have r3 := hR.cell (i := 3) (by omega)
      have r4 := hR.cell (i := 4) (by omega)
      have r5 := hR.cell (i := 5) (by omega)
      have r6 := hR.cell (i := 6) (by omega)
      have r7 := hR.cell (i := 7) (by omega)
      have r8 := hR.cell (i := 8) (by omega)
      have r9 := hR.cell (i := 9) (by omega)
      have r10 := hR.cell (i := 10) (by omega)
      simp only [Nat.reduceEqDiff, if_true, if_false] at r0 r1 r2 r3 r4 r5 r6 r7 r8 r9 r10
      clear hR d0 f0 c0 d1 f1 c1 d2 f2 c2 d3 f3 c3 d4 f4 c4 d5 f5 c5 d6 f6 c6 d7 f7 c7 d8 f8 c8 d9 f9 c9 d10 f10 c10
      generalize (((((((((((wr.setCell ⟨w.heap.size, 0, none⟩ (.int .i64 (T 0))).setCell ⟨w.heap.size, 1, none⟩ (.int .i64 (T 1))).setCell ⟨w.heap.size, 2, none⟩ (.int .i64 (T 2))).setCell ⟨w.heap.size, 3, none⟩ (.int .i64 (T 3))).setCell ⟨w.heap.size, 4, none⟩ (.int .i64 (T 4))).setCell ⟨w.heap.size, 5, none⟩ (.int .i64 (T 5))).setCell ⟨w.heap.size, 6, none⟩ (.int .i64 (T 6))).setCell ⟨w.heap.size, 7, none⟩ (.int .i64 (T 7))).setCell ⟨w.heap.size, 8, none⟩ (.int .i64 (T 8))).setCell ⟨w.heap.size, 9, none⟩ (.int .i64 (T 9))).setCell ⟨w.heap.size, 10, none⟩ (.int .i64 (T 10))) = w1 at r0 r1 r2 r3 r4 r5 r6 r7 r8 r9 r10 KE ⊢
      refine bodyPost_ret (by simp [results, Tryd.results14, go_sem, r0, r1, r2, r3, r4, r5, r6, r7, r8, r9, r10]; try rfl) rfl ?_
      exact ⟨rfl, KE.out⟩
theorem rorders_ok {w : World} {r ub n base : Nat} {u : Nat → Bool} {tv : Value} {l : List (Nat × Nat)} (h : RB w r ub n base u tv l) (hn : n ≤ 1024) (hout : ∀ i, n ≤ i → u i = true) :
    Calls Tryd.prog 14 #[.pointer (some ⟨r, 0, none⟩)] w fun e w' => e = .returned (.agg (ordC (tops u))) ∧ Kept [] w w' :=
  rorders_any (fun k hk wr hK => (rruns_ok (h.kept0 hK) hn hout k (by omega) rfl).mono (by
    rintro e w3 ⟨v, m, rfl, hN, hL, hk3⟩
    obtain ⟨ao, cap, rfl⟩ := own_shape hN
    exact ⟨ao, cap, by rw [hL.tops], hk3⟩))
set_option maxHeartbeats 2000000 in
theorem rindex_any {w : World} {b : Value} {T : Nat → Nat} {r : Nat} (hb : b = .pointer (some ⟨r, 0, none⟩)) (o : Nat) (ho : o ≤ 10) (f : Nat) (hf : f ≠ 0) (S : Nat → Nat) (hS0 : S 0 = 0) (hSs : ∀ k, k < 11 → S (k + 1) = S k + T k * 2 ^ k) (hT : ∀ k, k < 11 → T k ≤ 1024) (hSl : ∀ k, k ≤ 11 → S k ≤ 4194304) (h : ∀ wr, Kept [] w wr → Calls Tryd.prog 17 #[b] wr fun e w' => e = .returned (.int .i64 f) ∧ Kept [] wr w') (h2 : ∀ wr, Kept [] w wr → Calls Tryd.prog 14 #[b] wr fun e w' => e = .returned (.agg (ordC T)) ∧ Kept [] wr w') {oi : Int} (eo : oi = o) : Calls Tryd.prog 15 #[b, .int .i64 oi] w fun e w' => e = .returned (.tuple #[.int .i64 (1000 * S o / f : Nat), .bool true]) ∧ Kept [] w w' := by
  subst hb eo
  have hb0 : ¬ (o : Int) < 0 := by omega
  have hb1 : ¬ (10 : Int) < (o : Int) := by omega
  have hfi : ¬ (f : Int) = 0 := by omega
  have HH := hide h
  have H2 := hide h2
  have HS := hide hSs
  have HT := hide hT
  have HL := hide hSl
  have Z := hide hS0
  clear h h2 hSs hT hSl hS0
  go_enter Tryd.func15, Tryd.ntmps15
  go_wp2_with fail
  refine (HH.out w (Kept.refl _ _)).mono ?_
  rintro e w2 ⟨rfl, hk⟩
  have K2 := hide hk
  clear hk
  go_wp2_with fail
  refine (H2.out w2 K2.out).mono ?_
  rintro e w3 ⟨rfl, hk3⟩
  have K3 := hide (K2.out.next hk3)
  clear hk3 K2 H2
  unfold ordC
  go_wp2_with fail
  have hR := hide (show World.rowIs (w3.alloc (.cells #[.int .i64 (T 0 : Nat), .int .i64 (T 1 : Nat), .int .i64 (T 2 : Nat), .int .i64 (T 3 : Nat), .int .i64 (T 4 : Nat), .int .i64 (T 5 : Nat), .int .i64 (T 6 : Nat), .int .i64 (T 7 : Nat), .int .i64 (T 8 : Nat), .int .i64 (T 9 : Nat), .int .i64 (T 10 : Nat)] 28)) w3.heap.size 28 11 (fun j => .int .i64 (T j : Nat)) from World.rowIs_alloc w3 _ 28 _ (fun i hi => by
    have hi2 : i < 11 := hi
    rcases (show i = 0 ∨ i = 1 ∨ i = 2 ∨ i = 3 ∨ i = 4 ∨ i = 5 ∨ i = 6 ∨ i = 7 ∨ i = 8 ∨ i = 9 ∨ i = 10 by omega) with e | e | e | e | e | e | e | e | e | e | e <;> (subst e; rfl)))
  have hKE := hide (K3.out.next ((Kept.refl [] w3).alloc (.cells #[.int .i64 (T 0 : Nat), .int .i64 (T 1 : Nat), .int .i64 (T 2 : Nat), .int .i64 (T 3 : Nat), .int .i64 (T 4 : Nat), .int .i64 (T 5 : Nat), .int .i64 (T 6 : Nat), .int .i64 (T 7 : Nat), .int .i64 (T 8 : Nat), .int .i64 (T 9 : Nat), .int .i64 (T 10 : Nat)] 28)))
  clear K3
  generalize (w3.alloc (.cells #[.int .i64 (T 0 : Nat), .int .i64 (T 1 : Nat), .int .i64 (T 2 : Nat), .int .i64 (T 3 : Nat), .int .i64 (T 4 : Nat), .int .i64 (T 5 : Nat), .int .i64 (T 6 : Nat), .int .i64 (T 7 : Nat), .int .i64 (T 8 : Nat), .int .i64 (T 9 : Nat), .int .i64 (T 10 : Nat)] 28)) = w4 at hR hKE ⊢
  go_loop [6, 8] (fun s i => ∃ k : Nat, k ≤ o ∧ i = .int .i64 k ∧ s = .int .i64 (S k : Nat)) (fun _ i => 11 - (intOf i).toNat)
  case atStart => exact ⟨0, by omega, rfl, by rw [Z.out]; rfl⟩
  case round =>
    obtain ⟨k, hk, rfl, rfl⟩ := hrel
    by_cases h3 : k < o
    · have h4 : (k : Int) < (o : Int) := by omega
      have hk0 : (0 : Int) ≤ (k : Int) := by omega
      have hki : (k : Int) < 11 := by omega
      have hc := hR.out.cell (i := k) (by omega)
      have ht := HT.out k (by omega)
      have hp : 2 ^ k ≤ 2 ^ 10 := Nat.pow_le_pow_right (by decide) (by omega)
      have hq : T k * 2 ^ k ≤ 1024 * 2 ^ 10 := Nat.mul_le_mul ht hp
      have hle := HL.out k (by omega)
      have hnx : wrap64 ((S k : Int) + wrap64 ((T k : Int) * 2 ^ k)) = (S (k + 1) : Nat) := by
        have e1 : (T k : Int) * 2 ^ k = ((T k * 2 ^ k : Nat) : Int) := by simp
        rw [e1, IntWalk.wrap64_in ((T k * 2 ^ k : Nat) : Int) ⟨by omega, by omega⟩, HS.out k (by omega), IntWalk.wrap64_in _ ⟨by omega, by omega⟩]
        omega
      have HX := hide hnx
      clear hnx hp hq ht hle
      go_wp2
      go_round
      case rel => exact ⟨k + 1, by omega, by go_num, by rw [HX.out]⟩
      case measure => simp [intOf]; omega
    · have h4 : ¬ (k : Int) < (o : Int) := by omega
      have hko : k = o := by omega
      subst hko
      have hle := HL.out k (by omega)
      have e1 : IntKind.i64.wrap (1000 * (S k : Int)) = ((1000 * S k : Nat) : Int) := by
        rw [IntKind.wrap_i64]; omega
      have HH2 := HH.out w4 hKE.out
      go_wp2_with fail
      refine HH2.mono ?_
      rintro e w5 ⟨rfl, hk5⟩
      have K5 := hide (hKE.out.next hk5)
      clear HH2 hk5
      go_wp2_with fail
      go_ret2
      exact ⟨rfl, K5.out⟩
theorem rindex_no {w : World} {b : Value} {r : Nat} (hb : b = .pointer (some ⟨r, 0, none⟩)) {f : Nat} (h : Calls Tryd.prog 17 #[b] w fun e w' => e = .returned (.int .i64 f) ∧ Kept [] w w') {oi : Int} (ho : ¬ (0 ≤ oi ∧ oi ≤ 10) ∨ f = 0) : Calls Tryd.prog 15 #[b, .int .i64 oi] w fun e w' => e = .returned (.tuple #[.int .i64 0, .bool false]) ∧ Kept [] w w' := by
  subst hb
  by_cases h1 : oi < 0
  · go_enter Tryd.func15, Tryd.ntmps15
    go_wp2_with fail
    go_ret2
    exact ⟨rfl, Kept.refl _ _⟩
  · by_cases h2 : 10 < oi
    · go_enter Tryd.func15, Tryd.ntmps15
      go_wp2_with fail
      go_ret2
      exact ⟨rfl, Kept.refl _ _⟩
    · have hf : f = 0 := ho.resolve_left (fun x => x ⟨by omega, by omega⟩)
      subst hf
      go_enter Tryd.func15, Tryd.ntmps15
      go_wp2_with fail
      refine h.mono ?_
      rintro e w2 ⟨rfl, hk⟩
      go_wp2_with fail
      go_ret2
      exact ⟨rfl, hk⟩
end Go.Proofs.YtpljldjdemobbaaDoor.By
