
/-
  No statement of the program: package class and the document's own classes, over this seat's translation.
-/
import Derived.Test.YtfkekjnbjepaaaaDoorTabs
namespace Go.Proofs.YtfkekjnbjepaaaaDoor.Cl
open Go.ChangeShapes Go.WideShapes Go.ChangeAt Go.RowKit

theorem row3 (w : World) (t : TypeId) (a b c : Value) : (w.alloc (.cells #[a, b, c] t)).cell? ⟨w.heap.size, 0, none⟩ = some a ∧ (w.alloc (.cells #[a, b, c] t)).cell? ⟨w.heap.size, 1, none⟩ = some b ∧
    (w.alloc (.cells #[a, b, c] t)).cell? ⟨w.heap.size, 2, none⟩ = some c := by
  have h := World.rowIs_alloc w #[a, b, c] t (fun i => if i = 0 then a else if i = 1 then b else c) (by
    intro i hi
    match i, hi with
    | 0, _ => rfl
    | 1, _ => rfl
    | 2, _ => rfl)
  exact ⟨h.cell (i := 0) (by simp), h.cell (i := 1) (by simp), h.cell (i := 2) (by simp)⟩

/-- A row of the table. -/
def z (c q : Nat) : Int := rowsL.getD (c * 3 + q) 0
theorem Tab.z {w : World} (h : Tab w) (c q : Nat) (hc : c < 4) (hq : q < 3) : w.cell? ⟨0, c * 3 + q, none⟩ = some (.int .i64 (z c q)) := h _ (by omega)

set_option maxHeartbeats 1000000 in
theorem find_ok (c : Nat) (hc : c < 4) {w : World} (hT : Tab w) : Calls Tryd.prog 26 #[.int .i64 c] w fun e w' => e = .returned (.tuple #[.agg #[.int .i64 (z c 0), .int .i64 (z c 1), .int .i64 (z c 2)], .int .i64 0]) ∧ Kept [] w w' := by
  have t0 := hT.z c 0 hc (by omega)
  have t1 := hT.z c 1 hc (by omega)
  have t2 := hT.z c 2 hc (by omega)
  have hl := hT.lt
  rw [Nat.add_zero] at t0
  generalize z c 0 = z0 at *
  generalize z c 1 = z1 at *
  generalize z c 2 = z2 at *
  go_enter Tryd.func26, Tryd.ntmps26
  go_wp2
  obtain ⟨r0, r1, r2⟩ := row3 w 54 (.int .i64 z0) (.int .i64 z1) (.int .i64 z2)
  have K := hide ((Kept.refl [] w).alloc (.cells #[.int .i64 z0, .int .i64 z1, .int .i64 z2] 54))
  generalize w.alloc (.cells #[.int .i64 z0, .int .i64 z1, .int .i64 z2] 54) = w1 at r0 r1 r2 K ⊢
  refine bodyPost_ret (by simp [results, Tryd.results26, go_sem, r0, r1, r2]; try rfl) rfl ?_
  exact ⟨rfl, K.out⟩
set_option maxHeartbeats 1000000 in
theorem find_no (c : Int) (hc : ¬ (0 ≤ c ∧ c < 4)) {w : World} : Calls Tryd.prog 26 #[.int .i64 c] w fun e w' => e = .returned (.tuple #[.agg #[.int .i64 0, .int .i64 0, .int .i64 0], .int .i64 1]) ∧ Kept [] w w' := by
  go_enter Tryd.func26, Tryd.ntmps26
  obtain ⟨r0, r1, r2⟩ := row3 w 54 (.int .i64 0) (.int .i64 0) (.int .i64 0)
  have K := hide ((Kept.refl [] w).alloc (.cells #[.int .i64 0, .int .i64 0, .int .i64 0] 54))
  by_cases h0 : c < 0
  · go_wp2
    generalize w.alloc (.cells #[.int .i64 0, .int .i64 0, .int .i64 0] 54) = w1 at r0 r1 r2 K ⊢
    refine bodyPost_ret (by simp [results, Tryd.results26, go_sem, r0, r1, r2]; try rfl) rfl ?_
    exact ⟨rfl, K.out⟩
  · have h4 : 4 ≤ c := by omega
    clear hc
    go_wp2
    generalize w.alloc (.cells #[.int .i64 0, .int .i64 0, .int .i64 0] 54) = w1 at r0 r1 r2 K ⊢
    refine bodyPost_ret (by simp [results, Tryd.results26, go_sem, r0, r1, r2]; try rfl) rfl ?_
    exact ⟨rfl, K.out⟩

/-- What Size, Order and Count tell. -/
def tells (c : Int) (q : Nat) : Int := if 0 ≤ c ∧ c < 4 then z c.toNat q else 0
def tellsE (c : Int) : Int := if 0 ≤ c ∧ c < 4 then 0 else 1
theorem find_any (c : Int) {w : World} (hT : Tab w) : Calls Tryd.prog 26 #[.int .i64 c] w fun e w' => e = .returned (.tuple #[.agg #[.int .i64 (tells c 0), .int .i64 (tells c 1), .int .i64 (tells c 2)], .int .i64 (tellsE c)]) ∧ Kept [] w w' := by
  unfold tells tellsE
  by_cases h : 0 ≤ c ∧ c < 4
  · obtain ⟨n, rfl⟩ : ∃ n : Nat, c = n := ⟨c.toNat, by omega⟩
    simp only [if_pos h, Int.toNat_natCast]
    exact find_ok n (by omega) hT
  · simp only [if_neg h]
    exact find_no c h
theorem Kept.out3 {w w1 : World} (K : Kept [] w w1) (o : Obj) : Kept [] w (w1.alloc o) := K.alloc o
set_option maxHeartbeats 1000000 in
theorem size_any (c : Int) {w : World} (hT : Tab w) : Calls Tryd.prog 25 #[.int .i64 c] w fun e w' => e = .returned (.tuple #[.int .i64 (tells c 0), .int .i64 (tellsE c)]) ∧ Kept [] w w' := by
  have hf := find_any c hT
  generalize tells c 0 = z0 at hf ⊢
  generalize tells c 1 = z1 at hf ⊢
  generalize tells c 2 = z2 at hf ⊢
  generalize tellsE c = z3 at hf ⊢
  have hF := hide hf
  clear hf hT
  go_enter Tryd.func25, Tryd.ntmps25
  go_wp2_with fail
  refine hF.out.mono ?_
  rintro e w1 ⟨rfl, hk⟩
  have K := hide hk
  clear hk hF
  go_wp2
  go_ret2
  exact ⟨rfl, K.out.alloc _⟩
set_option maxHeartbeats 1000000 in
theorem count_any (c : Int) {w : World} (hT : Tab w) : Calls Tryd.prog 24 #[.int .i64 c] w fun e w' => e = .returned (.tuple #[.int .i64 (tells c 2), .int .i64 (tellsE c)]) ∧ Kept [] w w' := by
  have hf := find_any c hT
  generalize tells c 0 = z0 at hf ⊢
  generalize tells c 1 = z1 at hf ⊢
  generalize tells c 2 = z2 at hf ⊢
  generalize tellsE c = z3 at hf ⊢
  have hF := hide hf
  clear hf hT
  go_enter Tryd.func24, Tryd.ntmps24
  go_wp2_with fail
  refine hF.out.mono ?_
  rintro e w1 ⟨rfl, hk⟩
  have K := hide hk
  clear hk hF
  go_wp2
  go_ret2
  exact ⟨rfl, K.out.alloc _⟩

/-- What Pages tells. -/
def pg (n : Int) : Int := if 1 ≤ n ∧ n ≤ 1024 then (n + 63) / 64 else 0
def pgE (n : Int) : Int := if 1 ≤ n ∧ n ≤ 1024 then 0 else 8
/-- What Of tells. -/
def ofC (n : Int) : Int := if n ≤ 8 then 0 else if n ≤ 16 then 1 else if n ≤ 32 then 2 else if n ≤ 64 then 3 else 0
def ofE (n : Int) : Int := if 1 ≤ n ∧ n ≤ 64 then 0 else 8
set_option maxHeartbeats 1000000 in
theorem rrow_at (c : Int) (hc : 0 ≤ c ∧ c < 4) (w : World) : Calls Tryd.prog 20 #[.int .i64 c] w fun e w' => e = .returned (.agg #[.int .i64 (tells c 0), .int .i64 (tells c 1), .int .i64 (tells c 2)]) ∧ Kept [] w w' := by
  have i0 : ∀ w : World, (Instr.index 52 (.agg #[.int .i64 8, .int .i64 0, .int .i64 8, .int .i64 16, .int .i64 0, .int .i64 4, .int .i64 32, .int .i64 1, .int .i64 4, .int .i64 64, .int .i64 2, .int .i64 4]) (.int .i64 0)).run Tryd.prog w = .ok (.agg #[.int .i64 8, .int .i64 0, .int .i64 8]) w := fun _ => by kernel_rfl
  have i1 : ∀ w : World, (Instr.index 52 (.agg #[.int .i64 8, .int .i64 0, .int .i64 8, .int .i64 16, .int .i64 0, .int .i64 4, .int .i64 32, .int .i64 1, .int .i64 4, .int .i64 64, .int .i64 2, .int .i64 4]) (.int .i64 1)).run Tryd.prog w = .ok (.agg #[.int .i64 16, .int .i64 0, .int .i64 4]) w := fun _ => by kernel_rfl
  have i2 : ∀ w : World, (Instr.index 52 (.agg #[.int .i64 8, .int .i64 0, .int .i64 8, .int .i64 16, .int .i64 0, .int .i64 4, .int .i64 32, .int .i64 1, .int .i64 4, .int .i64 64, .int .i64 2, .int .i64 4]) (.int .i64 2)).run Tryd.prog w = .ok (.agg #[.int .i64 32, .int .i64 1, .int .i64 4]) w := fun _ => by kernel_rfl
  have i3 : ∀ w : World, (Instr.index 52 (.agg #[.int .i64 8, .int .i64 0, .int .i64 8, .int .i64 16, .int .i64 0, .int .i64 4, .int .i64 32, .int .i64 1, .int .i64 4, .int .i64 64, .int .i64 2, .int .i64 4]) (.int .i64 3)).run Tryd.prog w = .ok (.agg #[.int .i64 64, .int .i64 2, .int .i64 4]) w := fun _ => by kernel_rfl
  have hcc : c = 0 ∨ c = 1 ∨ c = 2 ∨ c = 3 := by omega
  rcases hcc with rfl | rfl | rfl | rfl
  · have K := hide ((Kept.refl [] w).alloc (.cells #[.int .i64 8, .int .i64 0, .int .i64 8] 42))
    obtain ⟨r0, r1, r2⟩ := row3 w 42 (.int .i64 8) (.int .i64 0) (.int .i64 8)
    go_enter Tryd.func20, Tryd.ntmps20
    go_wp2
    generalize w.alloc (.cells #[.int .i64 8, .int .i64 0, .int .i64 8] 42) = w1 at r0 r1 r2 K ⊢
    refine bodyPost_ret (by simp [results, Tryd.results20, go_sem, r0, r1, r2]; try rfl) rfl ?_
    exact ⟨rfl, K.out⟩
  · have K := hide ((Kept.refl [] w).alloc (.cells #[.int .i64 16, .int .i64 0, .int .i64 4] 42))
    obtain ⟨r0, r1, r2⟩ := row3 w 42 (.int .i64 16) (.int .i64 0) (.int .i64 4)
    go_enter Tryd.func20, Tryd.ntmps20
    go_wp2
    generalize w.alloc (.cells #[.int .i64 16, .int .i64 0, .int .i64 4] 42) = w1 at r0 r1 r2 K ⊢
    refine bodyPost_ret (by simp [results, Tryd.results20, go_sem, r0, r1, r2]; try rfl) rfl ?_
    exact ⟨rfl, K.out⟩
  · have K := hide ((Kept.refl [] w).alloc (.cells #[.int .i64 32, .int .i64 1, .int .i64 4] 42))
    obtain ⟨r0, r1, r2⟩ := row3 w 42 (.int .i64 32) (.int .i64 1) (.int .i64 4)
    go_enter Tryd.func20, Tryd.ntmps20
    go_wp2
    generalize w.alloc (.cells #[.int .i64 32, .int .i64 1, .int .i64 4] 42) = w1 at r0 r1 r2 K ⊢
    refine bodyPost_ret (by simp [results, Tryd.results20, go_sem, r0, r1, r2]; try rfl) rfl ?_
    exact ⟨rfl, K.out⟩
  · have K := hide ((Kept.refl [] w).alloc (.cells #[.int .i64 64, .int .i64 2, .int .i64 4] 42))
    obtain ⟨r0, r1, r2⟩ := row3 w 42 (.int .i64 64) (.int .i64 2) (.int .i64 4)
    go_enter Tryd.func20, Tryd.ntmps20
    go_wp2
    generalize w.alloc (.cells #[.int .i64 64, .int .i64 2, .int .i64 4] 42) = w1 at r0 r1 r2 K ⊢
    refine bodyPost_ret (by simp [results, Tryd.results20, go_sem, r0, r1, r2]; try rfl) rfl ?_
    exact ⟨rfl, K.out⟩
end Go.Proofs.YtfkekjnbjepaaaaDoor.Cl
