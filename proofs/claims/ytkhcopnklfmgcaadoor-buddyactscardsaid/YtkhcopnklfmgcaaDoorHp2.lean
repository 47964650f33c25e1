/-
  No statement of the program: package heap's New, Free and Marks, over this seat's translation.
-/
import Derived.Test.YtkhcopnklfmgcaaDoorHp
namespace Go.Proofs.YtkhcopnklfmgcaaDoor.By
open Go.RowKit
section
variable {w : World} {q nb N K : Nat} {mk : Int × Int × Int} {P : Nat → Nat} {u : Nat → Nat → Bool} {tk : Nat → Nat → Nat} {f : Nat → Nat} {F : Nat → List Nat}
theorem hfree_ok (h : HP w q nb N K mk P u tk f F) (m : Nat) (hm : m < N) : Calls Tryd.prog 28 #[.pointer (some ⟨q, 0, none⟩), .int .i64 m] w fun e w' => e = .returned (.tuple #[.int .i64 (f m), .int .i64 0]) ∧ w' = w := by
  have c0 := h.c0
  have cP := h.cP m hm
  have HH := hide (hhas_yes h m hm)
  have HFr := hide (bs_free (h.bud m hm))
  have hm0 : (0 : Int) ≤ (m : Int) := by omega
  have hm1 : (m : Int) < (N : Int) := by omega
  clear h
  go_enter Tryd.func28, Tryd.ntmps28
  go_wp2_with (first | (go_at_call 60; refine HH.out.mono ?_; rintro e w' ⟨rfl, hw⟩; subst w') | (go_at_call 16; refine HFr.out.mono ?_; rintro e w' ⟨rfl, hw⟩; subst w'))
  go_ret2
  exact ⟨rfl, rfl⟩
theorem marks_ok (h : HP w q nb N K mk P u tk f F) : Calls Tryd.prog 36 #[.pointer (some ⟨q, 0, none⟩)] w fun e w' => e = .returned (.agg #[.int .i64 mk.1, .int .i64 mk.2.1, .int .i64 mk.2.2]) ∧ Kept [] w w' := by
  have c2 := h.c2
  have c3 := h.c3
  have c4 := h.c4
  have hlt := h.obj.lt
  have hne : ¬ q = w.heap.size := by omega
  have n2 := World.new_ne w _ c2
  have n3 := World.new_ne w _ c3
  have n4 := World.new_ne w _ c4
  clear h
  generalize mk.1 = a at c2
  generalize mk.2.1 = b at c3
  generalize mk.2.2 = c at c4
  go_enter Tryd.func36, Tryd.ntmps36
  go_wp2
  refine bodyPost_ret (v := .agg #[.int .i64 a, .int .i64 b, .int .i64 c]) ?_ rfl ?_
  · simp [results, Tryd.f36]
    first | (go_simp; done) | (simp [go_sem, loadVar, Tryd.isAgg58, Tryd.sizeOf58]; done)
  · exact ⟨rfl, (Kept.refl [] w).alloc _⟩
end
theorem info25 : (Tryd.prog.info? 25).map (fun i => (i.zero, i.size, i.bytes)) = some (some (.pointer none), 1, 8) := by kernel_rfl
/-- Midway in New: j nodes have their buddies. -/
structure HNew (w wr : World) (K N j : Nat) (a b c : Int) (P : Nat → Nat) (F : Nat → List Nat) : Prop where
  obj : wr.rowIs (w.heap.size + 1 + 1) 93 5 (fun i => if i = 0 then .slice (some ⟨w.heap.size + 1, 0, none⟩) N N else if i = 1 then .int .i64 ((2 ^ K : Nat) : Int) else if i = 2 then .int .i64 a else if i = 3 then .int .i64 b else .int .i64 c)
  row : wr.rowIs (w.heap.size + 1) 25 N (fun i => if i < j then .pointer (some ⟨P i, 0, none⟩) else .pointer none)
  m0 : wr.cell? ⟨w.heap.size, 0, none⟩ = some (.int .i64 a)
  m1 : wr.cell? ⟨w.heap.size, 1, none⟩ = some (.int .i64 b)
  m2 : wr.cell? ⟨w.heap.size, 2, none⟩ = some (.int .i64 c)
  bud : ∀ i, i < j → BS wr (P i) K (u0 K) (fun _ => 0) (2 ^ K) (F i)
  apart : ∀ i i' x, i < j → i' < j → i ≠ i' → x ∈ F i → x ∉ F i'
  new : ∀ i x, i < j → x ∈ F i → w.heap.size + 3 ≤ x
  kept : Kept [] w wr
theorem HNew.next {w wr w' : World} {K N j p : Nat} {a b c : Int} {P : Nat → Nat} {F : Nat → List Nat} {G : List Nat} (h : HNew w wr K N j a b c P F) (hB : BS w' p K (u0 K) (fun _ => 0) (2 ^ K) G) (hG : ∀ x, x ∈ G → wr.heap.size ≤ x) (hk : Kept [] wr w') :
    HNew w (w'.setCell ⟨w.heap.size + 1, j, none⟩ (.pointer (some ⟨p, 0, none⟩))) K N (j + 1) a b c (fun i => if i = j then p else P i) (fun i => if i = j then G else F i) := by
  have hlt := h.obj.lt
  have kS : Kept [w.heap.size + 1] w' (w'.setCell ⟨w.heap.size + 1, j, none⟩ (.pointer (some ⟨p, 0, none⟩))) := (Kept.refl _ w').setCell (p := ⟨w.heap.size + 1, j, none⟩) (fun _ => by simp) _
  refine ⟨(hk.row h.obj (by simp)).setOther (by simp) _, ((hk.row h.row (by simp)).set j _).congr (fun i hi => ?_), kS.cell (hk.cell h.m0 (by simp)) (by simp), kS.cell (hk.cell h.m1 (by simp)) (by simp), kS.cell (hk.cell h.m2 (by simp)) (by simp), fun i hi => ?_, fun i i' x hi hi' hne hx hx' => ?_, fun i x hi hx => ?_, (h.kept.next hk).setCell (p := ⟨w.heap.size + 1, j, none⟩) (fun hh => absurd hh (by simp)) _⟩
  · by_cases hij : i = j
    · subst hij; simp
    · rw [if_neg hij]
      by_cases h2 : i < j
      · rw [if_pos h2, if_pos (by omega), if_neg hij]
      · rw [if_neg h2, if_neg (by omega)]
  · by_cases hij : i = j
    · subst hij
      simp only [if_true]
      exact hB.kept kS (fun x hx => by have := hG x hx; simp; omega)
    · simp only [if_neg hij]
      exact ((h.bud i (by omega)).kept0 hk).kept kS (fun x hx => by have := h.new i x (by omega) hx; simp; omega)
  · have lt : ∀ i x, i < j → x ∈ F i → x < wr.heap.size := fun i x hi hx => (h.bud i hi).lt x hx
    by_cases hij : i = j
    · have h2 : i' ≠ j := fun e => hne (by rw [hij, e])
      simp only [if_pos hij] at hx
      simp only [if_neg h2] at hx'
      have := hG x hx; have := lt i' x (by omega) hx'; omega
    · simp only [if_neg hij] at hx
      by_cases h2 : i' = j
      · simp only [if_pos h2] at hx'
        have := hG x hx'; have := lt i x (by omega) hx; omega
      · simp only [if_neg h2] at hx'
        exact h.apart i i' x (by omega) (by omega) hne hx hx'
  · by_cases hij : i = j
    · simp only [if_pos hij] at hx
      have := hG x hx; omega
    · simp only [if_neg hij] at hx
      exact h.new i x (by omega) hx
theorem HNew.done {w wr : World} {K N : Nat} {a b c : Int} {P : Nat → Nat} {F : Nat → List Nat} (h : HNew w wr K N N a b c P F) (hK : K ≤ 10) (hN : N ≤ 8) : HP wr (w.heap.size + 1 + 1) (w.heap.size + 1) N K (a, b, c) P (fun _ => u0 K) (fun _ _ => 0) (fun _ => 2 ^ K) F ∧ ∀ x, HF (w.heap.size + 1 + 1) (w.heap.size + 1) N F x → w.heap.size ≤ x := by
  refine ⟨⟨h.obj, h.row.congr (fun i hi => by rw [if_pos hi]), h.bud, h.apart, fun i hi => ⟨fun hx => ?_, fun hx => ?_⟩, by omega, hK, hN⟩, fun x hx => ?_⟩
  · have := h.new i _ hi hx; omega
  · have := h.new i _ hi hx; omega
  · rcases hx with rfl | rfl | ⟨i, hi, hx⟩
    · omega
    · omega
    · have := h.new i x hi hx; omega
set_option maxRecDepth 20000 in
set_option maxHeartbeats 2000000 in
theorem hnew_ok (N K n : Nat) (a b c : Int) (hN1 : 1 ≤ N) (hN : N ≤ 8) (hK : K ≤ 10) (hn : n = 2 ^ K) (ha : 0 ≤ a) (hab : a ≤ b) (hbc : b ≤ c) (hc : c ≤ n) {w : World} (hT : Tab w) :
    Calls Tryd.prog 37 #[.int .i64 N, .int .i64 n, .agg #[.int .i64 a, .int .i64 b, .int .i64 c]] w fun e w' => ∃ q nb P F, e = .returned (.tuple #[.pointer (some ⟨q, 0, none⟩), .int .i64 0]) ∧ HP w' q nb N K (a, b, c) P (fun _ => u0 K) (fun _ _ => 0) (fun _ => 2 ^ K) F ∧ (∀ x, HF q nb N F x → w.heap.size ≤ x) ∧ Kept [] w w' := by
  have hmk := run_make_row' (P := Tryd.prog) 91 25 (.pointer none) 8 Tryd.underlying91 info25 rfl .i64 .i64 N (by omega) (by omega)
  have T := hide hT
  have HN := hide hn
  clear hT
  have hd1 : decide ((N : Int) < 1) = false := by simp; omega
  have hd2 : decide ((8 : Int) < (N : Int)) = false := by simp; omega
  have start : ∀ W, W = ((w.alloc (.cells #[.int .i64 a, .int .i64 b, .int .i64 c] 58)).alloc (.cells (madeCells #[.pointer none] N) 25)).alloc (.cells #[.slice (some ⟨w.heap.size + 1, 0, none⟩) N N, .int .i64 n, .int .i64 a, .int .i64 b, .int .i64 c] 93) → HNew w W.drew K N 0 a b c (fun _ => 0) (fun _ => []) := by
    intro W hW
    have k3 : Kept [] (w.alloc (.cells #[.int .i64 a, .int .i64 b, .int .i64 c] 58)) W.drew := by rw [hW]; exact (((Kept.refl [] _).alloc _).alloc _).drew
    refine ⟨?_, ?_, k3.cell (by rw [World.cell?_alloc_mark]; rfl) (by simp), k3.cell (by rw [World.cell?_alloc_mark]; rfl) (by simp), k3.cell (by rw [World.cell?_alloc_mark]; rfl) (by simp), fun i hi => absurd hi (Nat.not_lt_zero _), fun i i' x hi => absurd hi (Nat.not_lt_zero _), fun i x hi => absurd hi (Nat.not_lt_zero _), ?_⟩
    · rw [hW, ← hn]
      have := World.rowIs_alloc ((w.alloc (.cells #[.int .i64 a, .int .i64 b, .int .i64 c] 58)).alloc (.cells (madeCells #[.pointer none] N) 25)) #[.slice (some ⟨w.heap.size + 1, 0, none⟩) N N, .int .i64 n, .int .i64 a, .int .i64 b, .int .i64 c] 93 (fun i => if i = 0 then .slice (some ⟨w.heap.size + 1, 0, none⟩) N N else if i = 1 then .int .i64 n else if i = 2 then .int .i64 a else if i = 3 then .int .i64 b else .int .i64 c) (fun i hi => by
        have hi5 : i < 5 := hi
        rcases (show i = 0 ∨ i = 1 ∨ i = 2 ∨ i = 3 ∨ i = 4 by omega) with e | e | e | e | e <;> (subst e; rfl))
      simpa using this.drew
    · rw [hW]
      have := ((World.rowIs_made (w.alloc (.cells #[.int .i64 a, .int .i64 b, .int .i64 c] 58)) (.pointer none) N 25).alloc (.cells #[.slice (some ⟨w.heap.size + 1, 0, none⟩) N N, .int .i64 n, .int .i64 a, .int .i64 b, .int .i64 c] 93)).drew
      exact (by simpa using this : _)
    · rw [hW]; exact ((((Kept.refl [] w).alloc _).alloc _).alloc _).drew
  have ST := hide start
  clear start hn
  go_enter Tryd.func37, Tryd.ntmps37
  go_wp2_with fail
  go_region
  all_goals
    have S0 := hide (ST.out _ rfl)
    generalize (((w.alloc (.cells #[.int .i64 a, .int .i64 b, .int .i64 c] 58)).alloc (.cells (madeCells #[.pointer none] N) 25)).alloc (.cells #[.slice (some ⟨w.heap.size + 1, 0, none⟩) N N, .int .i64 n, .int .i64 a, .int .i64 b, .int .i64 c] 93)).drew = w3 at S0 ⊢
    have q0 : w3.cell? ⟨w.heap.size + 1 + 1, 0, none⟩ = some (.slice (some ⟨w.heap.size + 1, 0, none⟩) N N) := by rw [S0.out.obj.cell (by omega)]; rfl
    clear hmk ST
    go_wp2_with fail
    go_loopw [29] (fun v wr => ∃ (j : Nat) (P : Nat → Nat) (F : Nat → List Nat), j ≤ N ∧ v = .int .i64 j ∧ HNew w wr K N j a b c P F) (fun v _ => N - (intOf v).toNat)
    case atStart => exact ⟨0, _, _, Nat.zero_le _, rfl, S0.out⟩
    case round =>
      obtain ⟨j, P, F, hjN, rfl, hH⟩ := hrel
      have H := hide hH
      have T1 := hide (T.out.kept hH.kept (by simp))
      clear hH S0 q0
      by_cases hj : j < N
      · have hj0 : (0 : Int) ≤ (j : Int) := by omega
        have hj1 : (j : Int) < (N : Int) := by omega
        go_wp2_with fail
        refine (bs_new K n hK HN.out T1.out rfl).mono ?_
        rintro e w4 ⟨p, G, rfl, hB, -, hG, hk4⟩
        have q1 : w4.cell? ⟨w.heap.size + 1 + 1, 0, none⟩ = some (.slice (some ⟨w.heap.size + 1, 0, none⟩) N N) := hk4.cell (by rw [H.out.obj.cell (by omega)]; rfl) (by simp)
        have q2 := (hk4.row H.out.row (by simp)).cell hj
        have q3 := (hk4.row H.out.row (by simp)).frozen j
        rw [if_neg (Nat.lt_irrefl _)] at q2
        have R := hide (H.out.next hB hG hk4)
        clear hB hG hk4 H T1
        go_wp2
        go_roundw
        case rel => exact ⟨j + 1, _, _, by omega, by go_num, R.out⟩
        case measure => simp [intOf]; omega
      · have hjn : j = N := by omega
        subst hjn
        have m0 := H.out.m0
        have m1 := H.out.m1
        have m2 := H.out.m2
        have d1 : decide (a < 0) = false := by simpa using ha
        have d2 : decide (b < a) = false := by simpa using hab
        have d3 : decide (c < b) = false := by simpa using hbc
        have d4 : decide ((n : Int) < c) = false := by simpa using hc
        have D := hide (H.out.done hK hN)
        have KK := hide H.out.kept
        clear H
        go_wp2_with fail
        go_ret2
        exact ⟨_, _, P, F, rfl, D.out.1, D.out.2, KK.out⟩
end Go.Proofs.YtkhcopnklfmgcaaDoor.By
