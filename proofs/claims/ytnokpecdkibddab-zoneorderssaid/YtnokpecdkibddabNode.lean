
/-
  No statement of the program: the contracts of package nodeset's calls on sets as numbers (isNode, Has, List, Of, between, All), over this seat's translation.
-/
import Derived.Test.YtnokpecdkibddabHeap2
import Derived.Test.YtnokpecdkibddabRows
namespace Go.Proofs.Ytnokpecdkibddab.ND
open Go.RowKit

def nodeB (n : Int) : Bool := decide (0 ≤ n ∧ n < 8)
theorem nodeB_true {n : Int} (h : 0 ≤ n ∧ n < 8) : nodeB n = true := decide_eq_true h
theorem nodeB_false {n : Int} (h : ¬ (0 ≤ n ∧ n < 8)) : nodeB n = false := decide_eq_false h
/-- Is node n in the set? -/
def hasB (s : Nat) (n : Int) : Bool := nodeB n && s.testBit n.toNat
theorem hasB_in (s i : Nat) (hi : i < 8) : hasB s i = s.testBit i := by unfold hasB; rw [nodeB_true (by omega)]; simp
theorem hasB_out (s : Nat) {n : Int} (h : ¬ (0 ≤ n ∧ n < 8)) : hasB s n = false := by unfold hasB; rw [nodeB_false h]; rfl

theorem bit_form (s i : Nat) (hs : s < 256) : (bits BinOp.and IntKind.u8 ((s : Int) / 2 ^ i) 1 == 1) = s.testBit i := by
  have e : ((s : Int) / 2 ^ i) = ((s / 2 ^ i : Nat) : Int) := by simp
  have hlt : s / 2 ^ i < 256 := Nat.lt_of_le_of_lt (Nat.div_le_self _ _) hs
  rw [e, show (1 : Int) = ((1 : Nat) : Int) from rfl, u8_and_nat _ _ hlt (by decide)]
  rw [Nat.testBit, Nat.shiftRight_eq_div_pow, Nat.and_comm]
  have h1 : 1 &&& s / 2 ^ i = s / 2 ^ i % 2 := nat_mask1' _
  rw [h1]
  have h2 : s / 2 ^ i % 2 = 0 ∨ s / 2 ^ i % 2 = 1 := by omega
  rcases h2 with h2 | h2 <;> rw [h2] <;> decide

set_option maxHeartbeats 400000 in
theorem isNode_any (n : Int) (w : World) : Calls Try.prog 29 #[.int .i64 n] w fun e w' => e = .returned (.bool (nodeB n)) ∧ w' = w := by
  rcases (show n < 0 ∨ (0 ≤ n ∧ 8 ≤ n) ∨ (0 ≤ n ∧ n < 8) from by omega) with h | ⟨ha, hb⟩ | ⟨ha, hb⟩
  all_goals
    go_enter Try.func29, Try.ntmps29
    go_wp2
    go_ret
  · exact ⟨ret_bool (nodeB_false (by omega)).symm, rfl⟩
  · exact ⟨ret_bool ((decide_eq_false (by omega)).trans (nodeB_false (by omega)).symm), rfl⟩
  · exact ⟨ret_bool (nodeB_true (by omega)).symm, rfl⟩
set_option maxHeartbeats 400000 in
theorem has_any (s : Nat) (n : Int) (hs : s < 256) (w : World) : Calls Try.prog 21 #[.int .u8 s, .int .i64 n] w fun e w' => e = .returned (.bool (hasB s n)) ∧ w' = w := by
  by_cases h : 0 ≤ n ∧ n < 8
  · obtain ⟨i, rfl⟩ := Int.eq_ofNat_of_zero_le h.1
    have hB : nodeB i = true := nodeB_true (by omega)
    have hi : i < 8 := by omega
    clear h
    go_enter Try.func21, Try.ntmps21
    go_wp2_with (go_at_call 29; refine (isNode_any _ _).mono ?_; rintro e w' ⟨rfl, hw⟩; subst w'; rw [hB])
    go_ret
    exact ⟨ret_bool ((bit_form s i hs).trans (hasB_in s i hi).symm), rfl⟩
  · have hB : nodeB n = false := nodeB_false h
    have hb := hasB_out s h
    clear h
    go_enter Try.func21, Try.ntmps21
    go_wp2_with (go_at_call 29; refine (isNode_any _ _).mono ?_; rintro e w' ⟨rfl, hw⟩; subst w'; rw [hB])
    go_ret
    exact ⟨ret_bool hb.symm, rfl⟩

/-- The nodes below k of a set. -/
def pre (s k : Nat) : List Int := ((List.range k).filter (fun i => s.testBit i)).map Int.ofNat
theorem pre_hit {s k : Nat} (h : s.testBit k = true) : pre s (k + 1) = pre s k ++ [(k : Int)] := by simp [pre, List.range_succ, List.filter_append, h]
theorem pre_miss {s k : Nat} (h : s.testBit k = false) : pre s (k + 1) = pre s k := by simp [pre, List.range_succ, List.filter_append, h]
theorem pre_le (s k : Nat) : (pre s k).length ≤ k := by
  unfold pre; rw [List.length_map]
  exact Nat.le_trans (List.length_filter_le _ _) (by simp)
theorem pre_mem {s k : Nat} {x : Int} (h : x ∈ pre s k) : 0 ≤ x ∧ x < k ∧ s.testBit x.toNat = true := by
  unfold pre at h
  simp only [List.mem_map, List.mem_filter, List.mem_range] at h
  obtain ⟨a, ⟨h1, h2⟩, rfl⟩ := h
  exact ⟨by simp, by simpa using h1, by simpa using h2⟩
theorem pre_wf (s k : Nat) (hk : k ≤ 8) : ∀ x, x ∈ pre s k → (Lit.int .i64 x).wf = true := by
  intro x hx
  have := pre_mem hx
  exact WalkArith.wf_i64 (by omega)
/-- All nodes of a set. -/
def nodes (s : Nat) : List Int := pre s 8

theorem info3 : (Try.prog.info? 3).map (fun i => (i.zero, i.size, i.bytes)) = some (some (.int .i64 0), 1, 8) := by kernel_rfl

end Go.Proofs.Ytnokpecdkibddab.ND
