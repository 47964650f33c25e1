
/-
  No statement of the program: the laws' own small checks of package stats, over this seat's translation.
-/
import Derived.Test.YtbejafjpdplofaaSts5
import Derived.Laws.StructEq
namespace Go.Proofs.Ytbejafjpdplofaa.St
open Go.ChangeShapes Go.WideShapes Go.ChangeAt Go.RowKit By
/-- May the event be, of so many nodes? -/
def rightB (n : Int) (a b c : Int) : Bool := decide ((0 ≤ a ∧ a < n) ∧ (0 ≤ b ∧ b < n) ∧ (0 ≤ c ∧ c < n))
set_option maxHeartbeats 2000000 in
theorem right_any (a b c : Int) (d : Bool) (n : Int) (w : World) : Calls Try.prog 12 #[.agg #[.int .i64 a, .int .i64 b, .int .i64 c, .bool d], .int .i64 n] w fun e w' => e = .returned (.bool (rightB n a b c)) ∧ Kept [] w w' := by
  have K1 := hide ((Kept.refl [] w).alloc (.cells #[.int .i64 a, .int .i64 b, .int .i64 c, .bool d] 38))
  have E : ∀ r : Bool, rightB n a b c = r → Hid (rightB n a b c = r) := fun r h => hide h
  by_cases h1 : 0 ≤ a
  · by_cases h2 : a < n
    · by_cases h3 : 0 ≤ b
      · by_cases h4 : b < n
        · by_cases h5 : 0 ≤ c
          · by_cases h6 : c < n
            · have E := E true (decide_eq_true ⟨⟨h1, h2⟩, ⟨h3, h4⟩, ⟨h5, h6⟩⟩)
              go_enter Try.func12, Try.ntmps12
              go_wp2
              go_ret
              exact ⟨by rw [E.out]; rfl, K1.out⟩
            · have E := E false (decide_eq_false (fun h => h6 h.2.2.2))
              go_enter Try.func12, Try.ntmps12
              go_wp2
              go_ret
              exact ⟨by rw [E.out]; rfl, K1.out⟩
          · have E := E false (decide_eq_false (fun h => h5 h.2.2.1))
            go_enter Try.func12, Try.ntmps12
            go_wp2
            go_ret
            exact ⟨by rw [E.out]; rfl, K1.out⟩
        · have E := E false (decide_eq_false (fun h => h4 h.2.1.2))
          go_enter Try.func12, Try.ntmps12
          go_wp2
          go_ret
          exact ⟨by rw [E.out]; rfl, K1.out⟩
      · have E := E false (decide_eq_false (fun h => h3 h.2.1.1))
        go_enter Try.func12, Try.ntmps12
        go_wp2
        go_ret
        exact ⟨by rw [E.out]; rfl, K1.out⟩
    · have E := E false (decide_eq_false (fun h => h2 h.1.2))
      go_enter Try.func12, Try.ntmps12
      go_wp2
      go_ret
      exact ⟨by rw [E.out]; rfl, K1.out⟩
  · have E := E false (decide_eq_false (fun h => h1 h.1.1))
    go_enter Try.func12, Try.ntmps12
    go_wp2
    go_ret
    exact ⟨by rw [E.out]; rfl, K1.out⟩
theorem none_ok (w : World) : Calls Try.prog 6 #[] w fun e w' => e = .returned (.pointer none) ∧ w' = w := by
  go_enter Try.func6, Try.ntmps6
  go_wp2
  go_ret
  exact ⟨rfl, rfl⟩
def x0 : Ev := ⟨1, 0, 0, false⟩
set_option maxRecDepth 20000 in
set_option maxHeartbeats 2000000 in
theorem counts_true (w : World) : Calls Try.prog 8 #[] w fun e w' => e = .returned (.bool true) ∧ Kept [] w w' := by
  go_enter Try.func8, Try.ntmps8
  go_wp2_with fail
  refine (new_ok 2 (by omega) (by omega) w).mono ?_
  rintro e w1 ⟨p, cb, rfl, hL, hf, hk⟩
  have L1 := hide hL
  have F1 := hide hf
  have K1 := hide hk
  clear hL hf hk
  go_wp2_with fail
  refine (add_ok L1.out x0 (by decide) (by decide) (by decide) (by decide)).mono ?_
  rintro e w2 ⟨rfl, ev, hL, hk, hb⟩
  have L2 := hide hL
  have K2 := hide (K1.out.trans hk (fun x hx hl => absurd hl (Nat.not_lt.2 (F1.out x hx))))
  clear hL hk hb L1 K1 F1
  go_wp2_with fail
  refine (node_ok (k := 1) L2.out.sc (by omega) (by omega)).mono ?_
  rintro e w3 ⟨rfl, hk⟩
  have e1 : aggC (cn ([] ++ [x0])) 1 = .agg #[.int .i64 0, .int .i64 1, .int .i64 0, .int .i64 0, .int .i64 1, .int .i64 0] := by rfl
  rw [e1]
  have L3 := hide (L2.out.kept0 (hk.alloc (.cells #[.int .i64 0, .int .i64 1, .int .i64 0, .int .i64 0, .int .i64 1, .int .i64 0] 24)))
  have K3 := hide ((K2.out.next hk).alloc (.cells #[.int .i64 0, .int .i64 1, .int .i64 0, .int .i64 0, .int .i64 1, .int .i64 0] 24))
  have r3 := fun i hi => row6 w3 24 (.int .i64 0) (.int .i64 1) (.int .i64 0) (.int .i64 0) (.int .i64 1) (.int .i64 0) i hi
  clear hk L2 K2 e1
  go_wp2_with fail
  generalize w3.alloc (.cells #[.int .i64 0, .int .i64 1, .int .i64 0, .int .i64 0, .int .i64 1, .int .i64 0] 24) = w4 at *
  refine (node_ok (k := 0) L3.out.sc (by omega) (by omega)).mono ?_
  rintro e w5 ⟨rfl, hk⟩
  have e1 : aggC (cn ([] ++ [x0])) 0 = .agg #[.int .i64 0, .int .i64 0, .int .i64 1, .int .i64 0, .int .i64 0, .int .i64 0] := by rfl
  rw [e1]
  have a0 : ∀ o, (w5.alloc o).cell? ⟨w3.heap.size, 0, none⟩ = some (.int .i64 0) := fun o => ((Kept.refl [] w5).alloc o).cell (hk.cell (r3 0 (by omega)) (by simp)) (by simp)
  have a1 : ∀ o, (w5.alloc o).cell? ⟨w3.heap.size, 1, none⟩ = some (.int .i64 1) := fun o => ((Kept.refl [] w5).alloc o).cell (hk.cell (r3 1 (by omega)) (by simp)) (by simp)
  have a2 : ∀ o, (w5.alloc o).cell? ⟨w3.heap.size, 2, none⟩ = some (.int .i64 0) := fun o => ((Kept.refl [] w5).alloc o).cell (hk.cell (r3 2 (by omega)) (by simp)) (by simp)
  have a3 : ∀ o, (w5.alloc o).cell? ⟨w3.heap.size, 3, none⟩ = some (.int .i64 0) := fun o => ((Kept.refl [] w5).alloc o).cell (hk.cell (r3 3 (by omega)) (by simp)) (by simp)
  have a4 : ∀ o, (w5.alloc o).cell? ⟨w3.heap.size, 4, none⟩ = some (.int .i64 1) := fun o => ((Kept.refl [] w5).alloc o).cell (hk.cell (r3 4 (by omega)) (by simp)) (by simp)
  have a5 : ∀ o, (w5.alloc o).cell? ⟨w3.heap.size, 5, none⟩ = some (.int .i64 0) := fun o => ((Kept.refl [] w5).alloc o).cell (hk.cell (r3 5 (by omega)) (by simp)) (by simp)
  have K5 := hide ((K3.out.next hk).alloc (.cells #[.int .i64 0, .int .i64 0, .int .i64 1, .int .i64 0, .int .i64 0, .int .i64 0] 24))
  clear hk r3 L3 K3 e1
  go_wp2
  go_ret
  exact ⟨by rfl, K5.out⟩
end Go.Proofs.Ytbejafjpdplofaa.St
