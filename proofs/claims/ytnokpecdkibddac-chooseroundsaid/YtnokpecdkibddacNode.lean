
/-
  No statement of the program: the contracts of package nodeset's calls on sets as numbers (isNode, Has, List, Of, between, All), over this seat's translation.
-/
import Derived.Test.YtnokpecdkibddacHeap2
import Derived.Test.YtnokpecdkibddacRows
namespace Go.Proofs.Ytnokpecdkibddac.ND
open Go.RowKit

def nodeB (n : Int) : Bool := decide (0 ≤ n ∧ n < 8)
theorem nodeB_true {n : Int} (h : 0 ≤ n ∧ n < 8) : nodeB n = true := decide_eq_true h
theorem nodeB_false {n : Int} (h : ¬ (0 ≤ n ∧ n < 8)) : nodeB n = false := decide_eq_false h
/-- Is node n in the set? -/
def hasB (s : Nat) (n : Int) : Bool := nodeB n && s.testBit n.toNat
theorem hasB_in (s i : Nat) (hi : i < 8) : hasB s i = s.testBit i := by unfold hasB; rw [nodeB_true (by omega)]; simp
theorem hasB_out (s : Nat) {n : Int} (h : ¬ (0 ≤ n ∧ n < 8)) : hasB s n = false := by unfold hasB; rw [nodeB_false h]; rfl

theorem bit_form (s i : Nat) (hs : s < 256) : (bits BinOp.and IntKind.u8 ((s : Int) / 2 ^ i) 1 == 1) = s.testBit i := by
  have e : ((s : Int) / 2 ^ i) = ((s / 2 ^ i : Nat) : Int) := by simp
  have hlt : s / 2 ^ i < 256 := Nat.lt_of_le_of_lt (Nat.div_le_self _ _) hs
  rw [e, show (1 : Int) = ((1 : Nat) : Int) from rfl, u8_and_nat _ _ hlt (by decide)]
  rw [Nat.testBit, Nat.shiftRight_eq_div_pow, Nat.and_comm]
  have h1 : 1 &&& s / 2 ^ i = s / 2 ^ i % 2 := nat_mask1' _
  rw [h1]
  have h2 : s / 2 ^ i % 2 = 0 ∨ s / 2 ^ i % 2 = 1 := by omega
  rcases h2 with h2 | h2 <;> rw [h2] <;> decide

set_option maxHeartbeats 400000 in
theorem isNode_any (n : Int) (w : World) : Calls Try.prog 59 #[.int .i64 n] w fun e w' => e = .returned (.bool (nodeB n)) ∧ w' = w := by
  rcases (show n < 0 ∨ (0 ≤ n ∧ 8 ≤ n) ∨ (0 ≤ n ∧ n < 8) from by omega) with h | ⟨ha, hb⟩ | ⟨ha, hb⟩
  all_goals
    go_enter Try.func59, Try.ntmps59
    go_wp2
    go_ret
  · exact ⟨ret_bool (nodeB_false (by omega)).symm, rfl⟩
  · exact ⟨ret_bool ((decide_eq_false (by omega)).trans (nodeB_false (by omega)).symm), rfl⟩
  · exact ⟨ret_bool (nodeB_true (by omega)).symm, rfl⟩
set_option maxHeartbeats 400000 in
theorem has_any (s : Nat) (n : Int) (hs : s < 256) (w : World) : Calls Try.prog 47 #[.int .u8 s, .int .i64 n] w fun e w' => e = .returned (.bool (hasB s n)) ∧ w' = w := by
  by_cases h : 0 ≤ n ∧ n < 8
  · obtain ⟨i, rfl⟩ := Int.eq_ofNat_of_zero_le h.1
    have hB : nodeB i = true := nodeB_true (by omega)
    have hi : i < 8 := by omega
    clear h
    go_enter Try.func47, Try.ntmps47
    go_wp2_with (go_at_call 59; refine (isNode_any _ _).mono ?_; rintro e w' ⟨rfl, hw⟩; subst w'; rw [hB])
    go_ret
    exact ⟨ret_bool ((bit_form s i hs).trans (hasB_in s i hi).symm), rfl⟩
  · have hB : nodeB n = false := nodeB_false h
    have hb := hasB_out s h
    clear h
    go_enter Try.func47, Try.ntmps47
    go_wp2_with (go_at_call 59; refine (isNode_any _ _).mono ?_; rintro e w' ⟨rfl, hw⟩; subst w'; rw [hB])
    go_ret
    exact ⟨ret_bool hb.symm, rfl⟩

/-- The nodes below k of a set. -/
def pre (s k : Nat) : List Int := ((List.range k).filter (fun i => s.testBit i)).map Int.ofNat
theorem pre_hit {s k : Nat} (h : s.testBit k = true) : pre s (k + 1) = pre s k ++ [(k : Int)] := by simp [pre, List.range_succ, List.filter_append, h]
theorem pre_miss {s k : Nat} (h : s.testBit k = false) : pre s (k + 1) = pre s k := by simp [pre, List.range_succ, List.filter_append, h]
theorem pre_le (s k : Nat) : (pre s k).length ≤ k := by
  unfold pre; rw [List.length_map]
  exact Nat.le_trans (List.length_filter_le _ _) (by simp)
theorem pre_mem {s k : Nat} {x : Int} (h : x ∈ pre s k) : 0 ≤ x ∧ x < k ∧ s.testBit x.toNat = true := by
  unfold pre at h
  simp only [List.mem_map, List.mem_filter, List.mem_range] at h
  obtain ⟨a, ⟨h1, h2⟩, rfl⟩ := h
  exact ⟨by simp, by simpa using h1, by simpa using h2⟩
theorem pre_wf (s k : Nat) (hk : k ≤ 8) : ∀ x, x ∈ pre s k → (Lit.int .i64 x).wf = true := by
  intro x hx
  have := pre_mem hx
  exact WalkArith.wf_i64 (by omega)
/-- All nodes of a set. -/
def nodes (s : Nat) : List Int := pre s 8

theorem info3 : (Try.prog.info? 3).map (fun i => (i.zero, i.size, i.bytes)) = some (some (.int .i64 0), 1, 8) := by kernel_rfl

set_option maxHeartbeats 1000000 in
set_option maxRecDepth 20000 in
theorem list_any (s : Nat) (hs : s < 256) (w : World) : Calls Try.prog 45 #[.int .u8 s] w fun e w' => ∃ v, e = .returned v ∧ Ints w' w.heap.size 3 v (nodes s) ∧ Kept [] w w' := by
  obtain ⟨i0, hi, hz0, hz1, hz2⟩ := info_parts info3
  go_enter Try.func45, Try.ntmps45
  go_wp2
  go_loopw [3, 5] (fun v i wr => ∃ k : Nat, k ≤ 8 ∧ i = .int .i64 k ∧ Ints wr w.heap.size 3 v (pre s k) ∧ Kept [] w wr) (fun _ i _ => 8 - (intOf i).toNat)
  case atStart => exact ⟨0, by omega, rfl, World.ownsRow_nil _ _ _ _, Kept.refl _ _⟩
  case round =>
    obtain ⟨k, hk, rfl, hown, hK⟩ := hrel
    have hle := pre_le s k
    by_cases hk8 : k < 8
    · have hB := hasB_in s k hk8
      by_cases hb : s.testBit k = true
      · rw [hb] at hB
        have hsz := hK.size
        go_wp2_with (first
          | (go_at_call 47; refine (has_any s k hs _).mono ?_; rintro e w' ⟨rfl, hw⟩; subst w'; rw [hB])
          | (at_builtin; refine wpList_append_own _ rfl _ _ 22 rfl w.heap.size 3 i0 (.int .i64 0) 1 8 Try.underlying22 hi hz0 hz1 hz2 rfl (by decide) _ _ _ rfl (World.ownsRow.alloc hown _) ⟨wr.heap.size, 0, none⟩ 1 1 [.int .i64 k] rfl rfl news_one (by intro u hu; simp at hu; subst hu; rfl) (by unfold maxLen; omega) (by omega) (by simp; omega) ?_))
        intro v' w1 hown' hgrow _
        have hO : Ints w1 w.heap.size 3 v' (pre s (k + 1)) := by
          unfold Ints; rw [pre_hit hb]; simpa using hown'
        have hK2 : Kept [] w w1 := own_grown (World.ownsRow.alloc hown _) hgrow w (hK.alloc _) (Nat.le_refl _)
        have R := hide (And.intro hO hK2)
        clear hown' hgrow hown hK hO hK2 hsz
        go_wp2
        go_roundw
        case rel => exact ⟨k + 1, by omega, by go_num, R.out⟩
        case measure => simp [intOf]; omega
      · have hb : s.testBit k = false := by simpa using hb
        rw [hb] at hB
        have R := hide (And.intro hown hK)
        clear hown hK
        go_wp2_with (go_at_call 47; refine (has_any s k hs _).mono ?_; rintro e w' ⟨rfl, hw⟩; subst w'; rw [hB])
        go_roundw
        case rel => exact ⟨k + 1, by omega, by go_num, by rw [pre_miss hb]; exact R.out⟩
        case measure => simp [intOf]; omega
    · have e : k = 8 := by omega
      subst e
      have R := hide (And.intro hown hK)
      clear hown hK
      go_wp2
      go_ret
      exact ⟨_, rfl, R.out⟩
end Go.Proofs.Ytnokpecdkibddac.ND
