
/-
  No statement of the program: a space with its blocks, its calls, and the law's own check spaces(), over this seat's translation.
-/
import Derived.Test.YtdgmfcnblaamcaaSpc13
namespace Go.Proofs.Ytdgmfcnblaamcaa.Sc
open Go.ChangeShapes Go.WideShapes Go.ChangeAt Go.RowKit
/-- A space in memory: runs F i, C i at r; B: the blocks it lies in. -/
structure SQ (w : World) (r : Nat) (B : List Nat) (n : Nat) (F C : Nat → Nat) : Prop where
  rw_ : ∃ ao cap, RW w r ao n cap F C ∧ B = r :: (Value.slice ao n cap).ownBlock.toList
  row : ∃ f, w.rowIs r 53 1 f
  ap : Apart n F C
theorem RW.foot {w : World} {r : Nat} {ao : Option Addr} {n cap : Nat} {F C : Nat → Nat} (h : RW w r ao n cap F C) {b : Nat} : b ∈ (Value.slice ao n cap).ownBlock.toList ↔ ao = some ⟨b, 0, none⟩ := by
  by_cases h0 : 0 < cap
  · obtain ⟨b2, f2, rfl, -, -, -⟩ := h.at_ h0
    simp [Value.ownBlock]
    exact ⟨fun h => h.symm, fun h => h.symm⟩
  · rw [h.non (by omega)]
    simp [Value.ownBlock]
theorem SQ.lt {w : World} {r : Nat} {B : List Nat} {n : Nat} {F C : Nat → Nat} (h : SQ w r B n F C) : ∀ b, b ∈ B → b < w.heap.size := by
  obtain ⟨ao, cap, h1, rfl⟩ := h.rw_
  intro b hb
  rcases List.mem_cons.1 hb with rfl | hb
  · exact block_lt_of_cell h1.c
  · have e := h1.foot.1 hb
    by_cases h0 : 0 < cap
    · obtain ⟨b2, f2, e2, -, r2, -⟩ := h1.at_ h0
      rw [e] at e2
      cases e2
      exact block_lt_of_cell (r2.cell (show 0 < cap * 2 by omega))
    · rw [h1.non (by omega)] at e; cases e
theorem SQ.kept {L : List Nat} {w w' : World} {r : Nat} {B : List Nat} {n : Nat} {F C : Nat → Nat} (h : SQ w r B n F C) (hk : Kept L w w') (hB : ∀ b, b ∈ B → b ∉ L) : SQ w' r B n F C := by
  obtain ⟨ao, cap, h1, rfl⟩ := h.rw_
  obtain ⟨f, hf⟩ := h.row
  exact ⟨⟨ao, cap, h1.kept hk (hB r (by simp)) (fun b hb => hB b (List.mem_cons_of_mem _ (h1.foot.2 hb))), rfl⟩, ⟨f, hk.row hf (hB r (by simp))⟩, h.ap⟩
theorem SQ.kept0 {w w' : World} {r : Nat} {B : List Nat} {n : Nat} {F C : Nat → Nat} (h : SQ w r B n F C) (hk : Kept [] w w') : SQ w' r B n F C := h.kept hk (fun _ _ => by simp)
theorem Apart.congr {n : Nat} {F C F' C' : Nat → Nat} (h : Apart n F C) (e : ∀ i, i < n → F i = F' i ∧ C i = C' i) : Apart n F' C' := by
  intro i hi
  have h1 := h i hi
  rw [(e i hi).1, (e i hi).2] at h1
  refine ⟨?_, h1.2⟩
  cases i with
  | zero => exact h1.1
  | succ j =>
    have h2 := h1.1
    show F' j + C' j ≤ F' (j + 1)
    rw [← (e j (by omega)).1, ← (e j (by omega)).2]
    exact h2
theorem SQ.congr {w : World} {r : Nat} {B : List Nat} {n : Nat} {F C F' C' : Nat → Nat} (h : SQ w r B n F C) (e : ∀ i, i < n → F i = F' i ∧ C i = C' i) : SQ w r B n F' C' := by
  obtain ⟨ao, cap, h1, h2⟩ := h.rw_
  refine ⟨⟨ao, cap, ⟨h1.c, h1.le, h1.m, h1.cm, fun h0 => ?_, h1.non⟩, h2⟩, h.row, h.ap.congr e⟩
  obtain ⟨b, f, e1, e2, e3, e4⟩ := h1.at_ h0
  exact ⟨b, f, e1, e2, e3, fun i hi => by rw [← (e i hi).1, ← (e i hi).2]; exact e4 i hi⟩
theorem SQ.new (w : World) (F C : Nat → Nat) : SQ (w.alloc (.cells #[.slice none 0 0] 53)) w.heap.size [w.heap.size] 0 F C := by
  have hb : (w.alloc (.cells #[.slice none 0 0] 53)).heap[w.heap.size]? = some (.cells #[.slice none 0 0] 53) := Array.getElem?_push_size
  refine ⟨⟨none, 0, ⟨blk_cell hb 0 rfl, Nat.le_refl _, by omega, by unfold maxLen; omega, fun h => absurd h (by omega), fun _ => rfl⟩, rfl⟩, ⟨fun _ => .slice none 0 0, #[.slice none 0 0], hb, rfl, fun i hi => ?_⟩, fun i hi => by omega⟩
  obtain rfl : i = 0 := by omega
  rfl
theorem SQ.take {w : World} {r : Nat} {B : List Nat} {n : Nat} {F C : Nat → Nat} (h : SQ w r B n F C) {need k : Nat} (hk : Fit n F C need k) (h1 : 1 ≤ need) (h2 : fstAt F C k + need ≤ 4096) :
    Calls Try.prog 7 #[.pointer (some ⟨r, 0, none⟩), .int .i64 need] w fun e w' => e = .returned (.tuple #[.int .i64 (fstAt F C k : Nat), .int .i64 0]) ∧
      ∃ B', SQ w' r B' (n + 1) (ins F k (fstAt F C k)) (ins C k need) ∧ Kept B w w' ∧ ∀ b, b ∈ B' → b ∈ B ∨ w.heap.size ≤ b := by
  obtain ⟨ao, cap, hR, rfl⟩ := h.rw_
  have h3 := h.ap.low k hk.1
  refine (take_some hR h.row (fun i hi => (h.ap i hi).2.2) h1 (by omega) (by have := h.ap.le; omega)).mono ?_
  rintro e w' ⟨k', a1, a2, a3, a4⟩
  obtain rfl : k' = k := Fit.only (n := n) ⟨a1, a2, a3⟩ hk
  rcases a4 with ⟨a5, -, -⟩ | ⟨a5, rfl, ao', cap', a6, a7, a8, a9⟩
  · omega
  · refine ⟨rfl, _, ⟨⟨ao', cap', a6, rfl⟩, a7, h.ap.put hk h1 h2⟩, a8, fun b hb => ?_⟩
    rcases List.mem_cons.1 hb with rfl | hb
    · exact .inl (by simp)
    · rcases a9 b (a6.foot.1 hb) with h4 | h4
      · exact .inr h4
      · exact .inl (List.mem_cons_of_mem _ (hR.foot.2 h4))
theorem SQ.full {w : World} {r : Nat} {B : List Nat} {n : Nat} {F C : Nat → Nat} (h : SQ w r B n F C) {need k : Nat} (hk : Fit n F C need k) (h1 : 1 ≤ need) (h4 : need ≤ 4095) (h2 : 4096 < fstAt F C k + need) :
    Calls Try.prog 7 #[.pointer (some ⟨r, 0, none⟩), .int .i64 need] w fun e w' => e = .returned (.tuple #[.int .i64 0, .int .i64 14]) ∧ Kept [] w w' := by
  obtain ⟨ao, cap, hR, rfl⟩ := h.rw_
  refine (take_some hR h.row (fun i hi => (h.ap i hi).2.2) h1 h4 (by have := h.ap.le; omega)).mono ?_
  rintro e w' ⟨k', a1, a2, a3, a4⟩
  obtain rfl : k' = k := Fit.only (n := n) ⟨a1, a2, a3⟩ hk
  rcases a4 with ⟨-, rfl, a5⟩ | ⟨a5, -⟩
  · exact ⟨rfl, a5⟩
  · omega
theorem SQ.give {w : World} {r : Nat} {B : List Nat} {n : Nat} {F C : Nat → Nat} (h : SQ w r B n F C) {k : Nat} (hk : k < n) :
    Calls Try.prog 8 #[.pointer (some ⟨r, 0, none⟩), .int .i64 (F k)] w fun e w' => e = .returned (.tuple #[.int .i64 (C k), .int .i64 0]) ∧ SQ w' r B (n - 1) (del F k) (del C k) ∧ Kept B w w' := by
  obtain ⟨ao, cap, hR, rfl⟩ := h.rw_
  obtain ⟨e1, e2⟩ := hit_at h.ap hk
  refine (give_any hR h.row h.ap.mono).mono ?_
  rintro e w' a
  rw [e1, e2] at a
  rcases a with ⟨a, -⟩ | ⟨-, rfl, a6, a7, a8⟩
  · cases a
  · exact ⟨rfl, ⟨⟨ao, cap, a6, by cases ao <;> rfl⟩, a7, h.ap.drop hk⟩, a8⟩
theorem SQ.miss {w : World} {r : Nat} {B : List Nat} {n : Nat} {F C : Nat → Nat} (h : SQ w r B n F C) {first : Int} (hn : ∀ i, i < n → (F i : Int) ≠ first) :
    Calls Try.prog 8 #[.pointer (some ⟨r, 0, none⟩), .int .i64 first] w fun e w' => e = .returned (.tuple #[.int .i64 0, .int .i64 13]) ∧ Kept [] w w' := by
  obtain ⟨ao, cap, hR, rfl⟩ := h.rw_
  refine (give_any hR h.row h.ap.mono).mono ?_
  rintro e w' a
  rw [hit_none hn] at a
  rcases a with ⟨-, rfl, a⟩ | ⟨a, -⟩
  · exact ⟨rfl, a⟩
  · cases a
theorem SQ.of_hit {w : World} {r : Nat} {B : List Nat} {n : Nat} {F C : Nat → Nat} (h : SQ w r B n F C) {page : Int} {i : Nat} (hi : i < n) (h1 : (F i : Int) ≤ page) (h2 : page < (F i : Int) + (C i : Int)) :
    Calls Try.prog 9 #[.pointer (some ⟨r, 0, none⟩), .int .i64 page] w fun e w' => e = .returned (.tuple #[.int .i64 (F i), .int .i64 (C i), .bool true]) ∧ Kept [] w w' := by
  obtain ⟨ao, cap, hR, rfl⟩ := h.rw_
  exact Sc.of_hit hR h.ap hi h1 h2
theorem SQ.of_none {w : World} {r : Nat} {B : List Nat} {n : Nat} {F C : Nat → Nat} (h : SQ w r B n F C) {page : Int} (hp : page ≤ 9223372036854775807) (hn : ∀ i, i < n → ¬ ((F i : Int) ≤ page ∧ page < (F i : Int) + (C i : Int))) :
    Calls Try.prog 9 #[.pointer (some ⟨r, 0, none⟩), .int .i64 page] w fun e w' => e = .returned (.tuple #[.int .i64 0, .int .i64 0, .bool false]) ∧ Kept [] w w' := by
  obtain ⟨ao, cap, hR, rfl⟩ := h.rw_
  exact Sc.of_none hR h.ap hp hn
theorem SQ.runs {w : World} {r : Nat} {B : List Nat} {n : Nat} {F C : Nat → Nat} (h : SQ w r B n F C) :
    Calls Try.prog 11 #[.pointer (some ⟨r, 0, none⟩)] w fun e w' => ∃ v, e = .returned v ∧ Kept [] w w' ∧ w'.ownsRow w.heap.size 3 1 v n ((List.range n).map (fun i => ivn (F i))) := by
  obtain ⟨ao, cap, hR, rfl⟩ := h.rw_
  exact runs_any hR
theorem SQ.free {w : World} {r : Nat} {B : List Nat} {n : Nat} {F C : Nat → Nat} (h : SQ w r B n F C) :
    Calls Try.prog 12 #[.pointer (some ⟨r, 0, none⟩)] w fun e w' => e = .returned (.int .i64 (4095 - sumC C n : Nat)) ∧ Kept [] w w' := by
  obtain ⟨ao, cap, hR, rfl⟩ := h.rw_
  exact free_any hR h.ap.few
/-- The same, of a call's own: behind W, in blocks that W hasn't. -/
structure SB (W w : World) (r : Nat) (B : List Nat) (n : Nat) (F C : Nat → Nat) : Prop where
  sq : SQ w r B n F C
  kept : Kept [] W w
  far : ∀ b, b ∈ B → W.heap.size ≤ b
theorem SB.next {W w w' : World} {r : Nat} {B : List Nat} {n : Nat} {F C : Nat → Nat} (h : SB W w r B n F C) (k : Kept [] w w') : SB W w' r B n F C := ⟨h.sq.kept0 k, h.kept.next k, h.far⟩
theorem SB.turn {W w w' : World} {r : Nat} {B B' : List Nat} {n n' : Nat} {F C F' C' : Nat → Nat} (h : SB W w r B n F C) (k : Kept B w w') (h' : SQ w' r B' n' F' C') (hb : ∀ b, b ∈ B' → b ∈ B ∨ w.heap.size ≤ b) : SB W w' r B' n' F' C' :=
  ⟨h', h.kept.trans k (fun y hy hl => absurd (h.far y hy) (Nat.not_le.2 hl)), fun b h1 => by
    rcases hb b h1 with h2 | h2
    · exact h.far b h2
    · exact Nat.le_trans h.kept.size h2⟩
theorem SB.new (W w : World) (k : Kept [] W w) (F C : Nat → Nat) : SB W (w.alloc (.cells #[.slice none 0 0] 53)) w.heap.size [w.heap.size] 0 F C :=
  ⟨SQ.new w F C, k.alloc _, fun b hb => by simp at hb; have := k.size; omega⟩
theorem SB.take {W w : World} {r : Nat} {B : List Nat} {n : Nat} {F C : Nat → Nat} (h : SB W w r B n F C) {need k : Nat} (hk : Fit n F C need k) (h1 : 1 ≤ need) (h2 : fstAt F C k + need ≤ 4096) :
    Calls Try.prog 7 #[.pointer (some ⟨r, 0, none⟩), .int .i64 need] w fun e w' => e = .returned (.tuple #[.int .i64 (fstAt F C k : Nat), .int .i64 0]) ∧
      ∃ B', SB W w' r B' (n + 1) (ins F k (fstAt F C k)) (ins C k need) ∧ Kept B w w' ∧ ∀ b, b ∈ B' → b ∈ B ∨ w.heap.size ≤ b := by
  refine (h.sq.take hk h1 h2).mono ?_
  rintro e w' ⟨rfl, B', a1, a2, a3⟩
  exact ⟨rfl, B', h.turn a2 a1 a3, a2, a3⟩
theorem SB.give {W w : World} {r : Nat} {B : List Nat} {n : Nat} {F C : Nat → Nat} (h : SB W w r B n F C) {k : Nat} (hk : k < n) :
    Calls Try.prog 8 #[.pointer (some ⟨r, 0, none⟩), .int .i64 (F k)] w fun e w' => e = .returned (.tuple #[.int .i64 (C k), .int .i64 0]) ∧ SB W w' r B (n - 1) (del F k) (del C k) ∧ Kept B w w' := by
  refine (h.sq.give hk).mono ?_
  rintro e w' ⟨rfl, a1, a2⟩
  exact ⟨rfl, h.turn a2 a1 (fun b hb => .inl hb), a2⟩
set_option maxHeartbeats 4000000 in
set_option maxRecDepth 100000 in
theorem spaces_true (w : World) : Calls Try.prog 10 #[] w fun e w' => e = .returned (.bool true) ∧ Kept [] w w' := by
  go_enter Try.func10, Try.ntmps10
  go_wp2_with fail
  refine (new_ok w).mono ?_
  rintro e w1 ⟨rfl, hw⟩
  obtain ⟨F1, hF1⟩ : ∃ F : Nat → Nat, F = ins (fun _ => 0) 0 1 := ⟨_, rfl⟩
  obtain ⟨C1, hC1⟩ : ∃ F : Nat → Nat, F = ins (fun _ => 0) 0 2 := ⟨_, rfl⟩
  have H1 : Calls Try.prog 7 #[.pointer (some ⟨w.heap.size, 0, none⟩), .int .i64 2] w1 fun e w' => e = .returned (.tuple #[.int .i64 1, .int .i64 0]) ∧ ∃ B, SB w w' w.heap.size B 1 F1 C1 := by
    rw [hw]
    refine ((SB.new w w (Kept.refl _ _) (fun _ => 0) (fun _ => 0)).take (need := 2) (k := 0) ⟨Nat.le_refl _, fun h => absurd h (by omega), fun i hi => absurd hi (by omega)⟩ (by omega) (show 1 + 2 ≤ 4096 by omega)).mono ?_
    rintro e w2 ⟨rfl, B2, hs, -, -⟩
    exact ⟨rfl, B2, by rw [hF1, hC1]; exact hs⟩
  have P1 := hide H1
  have E1 := hide (And.intro hF1 hC1)
  obtain ⟨r, hr⟩ : ∃ r, r = w.heap.size := ⟨_, rfl⟩
  rw [← hr] at P1
  rw [← hr]
  clear hw hF1 hC1 H1 hr
  go_wp2_with fail
  refine P1.out.mono ?_
  rintro e w2 ⟨rfl, B2, hs⟩
  have S2 := hide hs
  clear hs P1
  obtain ⟨F2, hF2⟩ : ∃ F : Nat → Nat, F = ins F1 1 3 := ⟨_, rfl⟩
  obtain ⟨C2, hC2⟩ : ∃ F : Nat → Nat, F = ins C1 1 1 := ⟨_, rfl⟩
  have P2 := hide (show Calls Try.prog 7 #[.pointer (some ⟨r, 0, none⟩), .int .i64 1] w2 fun e w' => e = .returned (.tuple #[.int .i64 3, .int .i64 0]) ∧ ∃ B, SB w w' r B 2 F2 C2 from by
    have e0 : fstAt F1 C1 1 = 3 := by rw [E1.out.1, E1.out.2]; rfl
    refine (S2.out.take (need := 1) (k := 1) ⟨Nat.le_refl _, fun h => absurd h (by omega), fun i hi => by obtain rfl : i = 0 := by omega
                                                                                                          rw [E1.out.1, E1.out.2]; decide⟩ (by omega) (by rw [e0]; omega)).mono ?_
    rintro e w3 ⟨rfl, B3, hs, -, -⟩
    rw [e0] at hs ⊢
    exact ⟨rfl, B3, by rw [hF2, hC2]; exact hs⟩)
  have E2 := hide (And.intro hF2 hC2)
  clear hF2 hC2 S2
  go_wp2_with fail
  refine P2.out.mono ?_
  rintro e w3 ⟨rfl, B3, hs⟩
  have S3 := hide hs
  clear hs P2
  obtain ⟨F3, hF3⟩ : ∃ F : Nat → Nat, F = del F2 0 := ⟨_, rfl⟩
  obtain ⟨C3, hC3⟩ : ∃ F : Nat → Nat, F = del C2 0 := ⟨_, rfl⟩
  have P3 := hide (show Calls Try.prog 8 #[.pointer (some ⟨r, 0, none⟩), .int .i64 1] w3 fun e w' => e = .returned (.tuple #[.int .i64 2, .int .i64 0]) ∧ ∃ B, SB w w' r B 1 F3 C3 from by
    have e0 : F2 0 = 1 := by rw [E2.out.1, E1.out.1]; rfl
    have e1 : C2 0 = 2 := by rw [E2.out.2, E1.out.2]; rfl
    have := S3.out.give (k := 0) (by omega)
    rw [e0, e1] at this
    refine this.mono ?_
    rintro e w3 ⟨rfl, hs, -⟩
    exact ⟨rfl, _, by rw [hF3, hC3]; exact hs⟩)
  have E3 := hide (And.intro hF3 hC3)
  clear hF3 hC3 S3
  go_wp2_with fail
  refine P3.out.mono ?_
  rintro e w4 ⟨rfl, B4, hs⟩
  have S4 := hide hs
  clear hs P3
  have P4 := hide (show Calls Try.prog 7 #[.pointer (some ⟨r, 0, none⟩), .int .i64 1] w4 fun e w' => e = .returned (.tuple #[.int .i64 1, .int .i64 0]) ∧ ∃ B, SB w w' r B 2 (ins F3 0 1) (ins C3 0 1) from by
    refine (S4.out.take (need := 1) (k := 0) ⟨by omega, fun h => by rw [E3.out.1, E2.out.1, E1.out.1]; show 1 + 1 ≤ 3; decide, fun i hi => absurd hi (by omega)⟩ (by omega) (show 1 + 1 ≤ 4096 by omega)).mono ?_
    rintro e w3 ⟨rfl, B3, hs, -, -⟩
    exact ⟨rfl, B3, hs⟩)
  clear S4
  go_wp2_with fail
  refine P4.out.mono ?_
  rintro e w5 ⟨rfl, B5, hs⟩
  have S5 := hide hs
  have P5 := hide (show Calls Try.prog 12 #[.pointer (some ⟨r, 0, none⟩)] w5 fun e w' => e = .returned (.int .i64 4093) ∧ Kept [] w w' from by
    refine hs.sq.free.mono ?_
    rintro e w6 ⟨rfl, hk⟩
    have e0 : sumC (ins C3 0 1) 2 = 2 := by rw [E3.out.2, E2.out.2, E1.out.2]; rfl
    rw [e0]
    exact ⟨rfl, hs.kept.next hk⟩)
  clear hs P4 S5
  go_wp2_with fail
  refine P5.out.mono ?_
  rintro e w6 ⟨rfl, hk⟩
  have K6 := hide hk
  clear hk P5
  go_wp2_with fail
  go_ret
  exact ⟨rfl, K6.out⟩
end Go.Proofs.Ytdgmfcnblaamcaa.Sc
