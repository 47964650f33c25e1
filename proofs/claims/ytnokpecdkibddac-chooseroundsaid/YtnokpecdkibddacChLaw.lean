
/-
  No statement of the program: what the laws of layer 11 call beside package choose (tame, machine, rule, chooses), over this seat's translation.
-/
import Derived.Test.YtnokpecdkibddacChoose
import Derived.Test.YtnokpecdkibddacHeap3
import Derived.Test.YtnokpecdkibddacOpenAgg
namespace Go.Proofs.Ytnokpecdkibddac.CH
open Go.RowKit TP ZN PO

set_option maxHeartbeats 1000000 in
theorem machine_any (n fr : Int) (cA : Option Addr) (cL cC : Nat) (dA : Option Addr) (dL dC : Nat) (w : World) :
    Calls Try.prog 8 #[tval n fr cA cL cC dA dL dC] w fun e w' => e = .returned (tval n fr cA cL cC dA dL dC) ∧ Kept [] w w' := by
  unfold tval
  go_enter Try.func8, Try.ntmps8
  go_wp2
  go_returns
  refine ⟨rfl, ?_⟩
  repeat (first | exact Kept.refl _ _ | refine Kept.alloc ?_ _ | refine Kept.setCell ?_ (fun h => absurd h (by simp)) _)
set_option maxHeartbeats 1000000 in
theorem rule_any (m : Int) (s : Nat) (nd : Int) (w : World) : Calls Try.prog 9 #[pol m s nd] w fun e w' => e = .returned (pol m s nd) ∧ Kept [] w w' := by
  unfold pol
  go_enter Try.func9, Try.ntmps9
  go_wp2
  go_returns
  refine ⟨rfl, ?_⟩
  repeat (first | exact Kept.refl _ _ | refine Kept.alloc ?_ _ | refine Kept.setCell ?_ (fun h => absurd h (by simp)) _)
theorem infoIL : (Try.prog.info? 22).map (fun i => (i.zero, i.size, i.bytes)) = some (some (.slice none 0 0), 1, 24) := by kernel_rfl
set_option maxHeartbeats 1000000 in
theorem tame_any (n fr : Int) (cA : Option Addr) (cL cC : Nat) (dA : Option Addr) (dL dC : Nat) (hc : cL ≤ cC) (hd : dL ≤ dC) (w : World) :
    Calls Try.prog 6 #[tval n fr cA cL cC dA dL dC] w fun e w' => e = .returned (tval n fr cA (min cL 20) cC dA (min dL 10) dC) ∧ Kept [] w w' := by
  unfold tval
  have h1 := run_cut0 (P := Try.prog) Try.underlying22 ND.info3 cA cL cC .i64 (j := min (cL : Int) 20) (min cL 20) (by omega) (by omega)
  have h2 := run_cut0 (P := Try.prog) Try.underlying23 infoIL dA dL dC .i64 (j := min (dL : Int) 10) (min dL 10) (by omega) (by omega)
  go_enter Try.func6, Try.ntmps6
  go_wp2
  go_returns
  refine ⟨rfl, ?_⟩
  repeat (first | exact Kept.refl _ _ | refine Kept.alloc ?_ _ | refine Kept.setCell ?_ (fun h => absurd h (by simp)) _)

def Z2 (a b : Nat) : Int := if a = b then 10 else 20
theorem chk2 : tchk 2 4 1 (fun _ => 1) 2 (fun _ => 2) Z2 = 0 := by decide +kernel
theorem pol2 : chk 0 0 0 2 = 0 ∧ startOf 0 0 0 2 1 0 = (1, 0, 0) ∧ permS 0 0 0 2 = 3 := by decide
theorem near2 : NearIs (Z2 1) 2 (fun y => ND.hasB 3 y && mayB 2 (fun _ => true) y) (some 1) := by
  refine ⟨fun x hx => ?_, fun h => by cases h⟩
  simp only [Option.some.injEq] at hx
  subst hx
  refine ⟨by omega, by decide, fun y hy _ => ?_⟩
  match y, hy with
  | 0, _ => right; unfold nearer; decide
  | 1, _ => left; rfl
theorem is2 {x st cu e : Int} (h : NodeIs 2 4 1 (fun _ => 1) 2 (fun _ => 2) Z2 0 0 0 0 0 2 (fun _ => true) x st cu e) : x = 1 ∧ st = 1 ∧ e = 0 := by
  rcases h with ⟨h, -⟩ | ⟨-, h, -⟩ | ⟨-, k, -, -, h, -⟩ | ⟨-, k, -, -, -, a, -, h3, h4, -, r, hr, h5, h6⟩
  · exact absurd chk2 h
  · omega
  · exact absurd pol2.1 h
  · rw [pol2.2.1] at h3
    have ha : a = 1 := by simp at h3; omega
    subst ha
    rw [pol2.2.2] at hr
    have := hr.unique near2
    subst this
    exact ⟨h5, by omega, h6⟩
theorem is3 {x st cu e : Int} (h : NodeIs 2 4 1 (fun _ => 1) 2 (fun _ => 2) Z2 0 0 0 1 0 0 (fun _ => true) x st cu e) : e = 11 := by
  rcases h with ⟨h, -⟩ | ⟨-, -, -, -, -, h⟩ | ⟨-, k, h, h2, -⟩ | ⟨-, k, h, h2, -⟩
  · exact absurd chk2 h
  · exact h
  · omega
  · omega
set_option maxHeartbeats 2000000 in
set_option maxRecDepth 20000 in
theorem chooses_true (w : World) : Calls Try.prog 11 #[] w fun e w' => e = .returned (.bool true) ∧ Kept [] w w' := by
  go_enter Try.func11, Try.ntmps11
  go_wp2_with fail
  obtain ⟨w0, hw0⟩ : ∃ w0, w0 = w.alloc (.cells #[.int .i64 1] 3) := ⟨_, rfl⟩
  obtain ⟨w1, hw1⟩ : ∃ w1, w1 = w0.alloc (.cells #[.int .i64 10, .int .i64 20] 3) := ⟨_, rfl⟩
  obtain ⟨w2, hw2⟩ : ∃ w2, w2 = w1.alloc (.cells #[.int .i64 20, .int .i64 10] 3) := ⟨_, rfl⟩
  obtain ⟨w3, hw3⟩ : ∃ w3, w3 = w2.alloc (.cells #[.slice (some ⟨w.heap.size + 1, 0, none⟩) 2 2, .slice (some ⟨w.heap.size + 1 + 1, 0, none⟩) 2 2] 22) := ⟨_, rfl⟩
  obtain ⟨w4, hw4⟩ : ∃ w4, w4 = w3.alloc (.cells #[.int .i64 2, .int .i64 4, .slice (some ⟨w.heap.size, 0, none⟩) 1 1, .slice (some ⟨w.heap.size + 1 + 1 + 1, 0, none⟩) 2 2] 37) := ⟨_, rfl⟩
  obtain ⟨w5, hw5⟩ : ∃ w5, w5 = w4.alloc (.cells #[.bool true, .bool true] 4) := ⟨_, rfl⟩
  have s0 : w0.heap.size = w.heap.size + 1 := by rw [hw0]; simp
  have s1 : w1.heap.size = w.heap.size + 1 + 1 := by rw [hw1]; simp [s0]
  have s2 : w2.heap.size = w.heap.size + 1 + 1 + 1 := by rw [hw2]; simp [s1]
  have s3 : w3.heap.size = w.heap.size + 1 + 1 + 1 + 1 := by rw [hw3]; simp [s2]
  have s4 : w4.heap.size = w.heap.size + 1 + 1 + 1 + 1 + 1 := by rw [hw4]; simp [s3]
  have e0 : Kept [] w w0 := by rw [hw0]; exact (Kept.refl [] w).alloc _
  have e1 : Kept [] w0 w1 := by rw [hw1]; exact (Kept.refl [] w0).alloc _
  have e2 : Kept [] w1 w2 := by rw [hw2]; exact (Kept.refl [] w1).alloc _
  have e3 : Kept [] w2 w3 := by rw [hw3]; exact (Kept.refl [] w2).alloc _
  have e4 : Kept [] w3 w4 := by rw [hw4]; exact (Kept.refl [] w3).alloc _
  have e5 : Kept [] w4 w5 := by rw [hw5]; exact (Kept.refl [] w4).alloc _
  have f2 := ((e2.next e3).next e4).next e5
  have f1 := e1.next f2
  have f3 := (e3.next e4).next e5
  have f4 := e4.next e5
  have c00 : w5.cell? ⟨w.heap.size, 0, none⟩ = some (.int .i64 1) := f1.cell (by rw [hw0]; simp) (by simp)
  have c10 : w5.cell? ⟨w.heap.size + 1, 0, none⟩ = some (.int .i64 10) := f2.cell (by rw [hw1, ← s0]; simp) (by simp)
  have c11 : w5.cell? ⟨w.heap.size + 1, 1, none⟩ = some (.int .i64 20) := f2.cell (by rw [hw1, ← s0]; simp) (by simp)
  have c20 : w5.cell? ⟨w.heap.size + 1 + 1, 0, none⟩ = some (.int .i64 20) := f3.cell (by rw [hw2, ← s1]; simp) (by simp)
  have c21 : w5.cell? ⟨w.heap.size + 1 + 1, 1, none⟩ = some (.int .i64 10) := f3.cell (by rw [hw2, ← s1]; simp) (by simp)
  have c30 : w5.cell? ⟨w.heap.size + 1 + 1 + 1, 0, none⟩ = some (.slice (some ⟨w.heap.size + 1, 0, none⟩) 2 2) := f4.cell (by rw [hw3, ← s2]; simp) (by simp)
  have c31 : w5.cell? ⟨w.heap.size + 1 + 1 + 1, 1, none⟩ = some (.slice (some ⟨w.heap.size + 1 + 1, 0, none⟩) 2 2) := f4.cell (by rw [hw3, ← s2]; simp) (by simp)
  have t0 : w5.cell? ⟨w.heap.size + 1 + 1 + 1 + 1, 0, none⟩ = some (.int .i64 2) := e5.cell (by rw [hw4, ← s3]; simp) (by simp)
  have t1 : w5.cell? ⟨w.heap.size + 1 + 1 + 1 + 1, 1, none⟩ = some (.int .i64 4) := e5.cell (by rw [hw4, ← s3]; simp) (by simp)
  have t2 : w5.cell? ⟨w.heap.size + 1 + 1 + 1 + 1, 2, none⟩ = some (.slice (some ⟨w.heap.size, 0, none⟩) 1 1) := e5.cell (by rw [hw4, ← s3]; simp) (by simp)
  have t3 : w5.cell? ⟨w.heap.size + 1 + 1 + 1 + 1, 3, none⟩ = some (.slice (some ⟨w.heap.size + 1 + 1 + 1, 0, none⟩) 2 2) := e5.cell (by rw [hw4, ← s3]; simp) (by simp)
  have b0 : w5.cell? ⟨w.heap.size + 1 + 1 + 1 + 1 + 1, 0, none⟩ = some (.bool true) := by rw [hw5, ← s4]; simp
  have b1 : w5.cell? ⟨w.heap.size + 1 + 1 + 1 + 1 + 1, 1, none⟩ = some (.bool true) := by rw [hw5, ← s4]; simp
  have hrow : ∀ (b : Nat) (x y : Int), w5.cell? ⟨b, 0, none⟩ = some (.int .i64 x) → w5.cell? ⟨b, 1, none⟩ = some (.int .i64 y) → (0 ≤ x ∧ x ≤ 255) → (0 ≤ y ∧ y ≤ 255) → ∀ z : Nat → Int, z 0 = x → z 1 = y → IsInts .i64 w5 (some ⟨b, 0, none⟩) 2 z := by
    intro b x y hx hy h1 h2 z hz0 hz1 i hi
    match i, hi with
    | 0, _ => exact ⟨b, 0, rfl, by rw [hz0]; exact hx, WalkArith.wf_i64 (by omega)⟩
    | 1, _ => exact ⟨b, 0, rfl, by rw [hz1]; exact hy, WalkArith.wf_i64 (by omega)⟩
  have hAt : At w5 (some ⟨w.heap.size, 0, none⟩) 1 (fun _ => 1) (some ⟨w.heap.size + 1 + 1 + 1, 0, none⟩) 2 (fun _ => 2) Z2 := by
    refine ⟨by unfold maxLen; omega, by unfold maxLen; omega, fun i hi => ?_, fun r hr => ?_⟩
    · match i, hi with
      | 0, _ => exact ⟨_, _, rfl, c00, by decide⟩
    · match r, hr with
      | 0, _ => exact ⟨_, _, _, _, rfl, c30, by omega, by unfold maxLen; omega, hrow _ 10 20 c10 c11 (by omega) (by omega) (Z2 0) rfl rfl⟩
      | 1, _ => exact ⟨_, _, _, _, rfl, c31, by omega, by unfold maxLen; omega, hrow _ 20 10 c20 c21 (by omega) (by omega) (Z2 1) rfl rfl⟩
  have hBo : IsBools w5 (some ⟨w.heap.size + 1 + 1 + 1 + 1 + 1, 0, none⟩) 2 (fun _ => true) := by
    intro i hi
    match i, hi with
    | 0, _ => exact ⟨_, _, rfl, b0⟩
    | 1, _ => exact ⟨_, _, rfl, b1⟩
  have K5 := hide ((e0.next e1).next f2)
  have hn1 := node_any (n := 2) (fr := 4) (cC := 1) (dC := 2) (mC := 2) hAt 0 0 0 0 0 (by decide) hBo (by unfold maxLen; omega)
  have hn2 : ∀ w', Kept [] w5 w' → Calls Try.prog 7 #[.agg #[.int .i64 2, .int .i64 4, .slice (some ⟨w.heap.size, 0, none⟩) 1 1, .slice (some ⟨w.heap.size + 1 + 1 + 1, 0, none⟩) 2 2], .agg #[.int .i64 0, .int .u8 0, .int .i64 0], .int .i64 1, .int .i64 0, .slice none 0 0] w' fun e w'' => ∃ x st cu, e = .returned (.tuple #[.agg #[.int .i64 x, .int .i64 st, .int .i64 cu], .int .i64 11]) ∧ Kept [] w5 w'' ∧ Kept [] w' w'' := by
    intro w' hk
    refine (node_any (cC := 1) (dC := 2) (mA := none) (mL := 0) (mC := 0) (mz := fun _ => true) (fr := 4) (n := 2) (hAt.kept hk) 0 0 0 1 0 (by decide) (fun i hi => absurd hi (Nat.not_lt_zero _)) (by unfold maxLen; omega)).mono ?_
    rintro e w'' ⟨x, st, cu, er, rfl, hN, hK⟩
    rw [is3 hN]
    exact ⟨x, st, cu, rfl, hk.next hK, hK⟩
  unfold tval pol at hn1
  rw [← hw0, ← hw1, ← hw2, ← hw3, ← hw4, ← hw5]
  clear hBo hAt hrow c00 c10 c11 c20 c21 c30 c31 b0 b1 f1 f2 f3 f4 e0 e1 e2 e3 e4 e5 s0 s1 s2 s3 hw0 hw1 hw2 hw3 hw4 hw5
  refine hn1.mono ?_
  rintro e w6 ⟨x, st, cu, er, rfl, hN, hK6⟩
  obtain ⟨rfl, rfl, rfl⟩ := is2 hN
  have t0 := hK6.cell t0 (by simp)
  have t1 := hK6.cell t1 (by simp)
  have t2 := hK6.cell t2 (by simp)
  have t3 := hK6.cell t3 (by simp)
  have ka := (Kept.refl [] w6).alloc (.cells #[.int .i64 1, .int .i64 1, .int .i64 cu] 33)
  have t0 := ka.cell t0 (by simp)
  have t1 := ka.cell t1 (by simp)
  have t2 := ka.cell t2 (by simp)
  have t3 := ka.cell t3 (by simp)
  have g0 : (w6.alloc (.cells #[.int .i64 1, .int .i64 1, .int .i64 cu] 33)).cell? ⟨w6.heap.size, 0, none⟩ = some (.int .i64 1) := by simp
  have g1 : (w6.alloc (.cells #[.int .i64 1, .int .i64 1, .int .i64 cu] 33)).cell? ⟨w6.heap.size, 1, none⟩ = some (.int .i64 1) := by simp
  have hn3 := hn2 _ (hK6.next ka)
  have HK := hide (hK6.next ka)
  clear hn1 hn2 hN hK6 ka
  go_wp2_with fail
  generalize hw7 : w6.alloc (.cells #[.int .i64 1, .int .i64 1, .int .i64 cu] 33) = w7 at hn3 g0 g1 HK t0 t1 t2 t3 ⊢
  refine hn3.mono ?_
  rintro e w8 ⟨x8, st8, cu8, rfl, hK8, hK78⟩
  have g0 := hK78.cell g0 (by simp)
  have g1 := hK78.cell g1 (by simp)
  have ka := (Kept.refl [] w8).alloc (.cells #[.int .i64 x8, .int .i64 st8, .int .i64 cu8] 33)
  have g0 := ka.cell g0 (by simp)
  have g1 := ka.cell g1 (by simp)
  have K9 := hide (K5.out.next (hK8.next ka))
  go_wp2
  go_ret
  exact ⟨rfl, K9.out⟩
end Go.Proofs.Ytnokpecdkibddac.CH
