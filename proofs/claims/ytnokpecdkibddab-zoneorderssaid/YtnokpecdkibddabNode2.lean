
/-
  No statement of the program: the contracts of package nodeset's Of, between, All, Count and Next, over this seat's translation.
-/
import Derived.Test.YtnokpecdkibddabNode
import Derived.Test.YtnokpecdkibddabShelf
namespace Go.Proofs.Ytnokpecdkibddab.ND
open Go.RowKit

theorem or_form (a n : Nat) (ha : a < 256) (hn : n < 8) : bits BinOp.or IntKind.u8 (a : Int) (2 ^ n % 256) = ((a ||| 2 ^ n : Nat) : Int) := by
  have h : 2 ^ n < 256 := Nat.lt_of_lt_of_le (Nat.pow_lt_pow_right (by decide) hn) (by decide : 2 ^ 8 ≤ 256)
  have e : ((2 : Int) ^ n % 256) = ((2 ^ n : Nat) : Int) := by
    have e1 : ((2 : Int) ^ n) = ((2 ^ n : Nat) : Int) := by simp
    rw [e1]
    generalize 2 ^ n = d at h ⊢
    omega
  rw [e]; exact u8_or_nat _ _ ha h

/-- The set of the first k numbers of a list. -/
def orTo (z : Nat → Int) : Nat → Nat
  | 0 => 0
  | k + 1 => orTo z k ||| 2 ^ (z k).toNat
theorem orTo_lt (z : Nat → Int) (k : Nat) (h : ∀ i, i < k → z i < 8) : orTo z k < 256 := by
  induction k with
  | zero => exact Nat.zero_lt_succ _
  | succ k ih =>
    unfold orTo
    have h1 := ih (fun i hi => h i (by omega))
    have h2 := h k (by omega)
    have h3 : 2 ^ (z k).toNat < 2 ^ 8 := Nat.pow_lt_pow_right (by decide) (by omega)
    exact Nat.or_lt_two_pow (n := 8) h1 h3

/-- The set of all nodes from a on, k of them. -/
def run (a : Nat) : Nat → Nat
  | 0 => 0
  | k + 1 => run a k ||| 2 ^ (a + k)
theorem run_lt (a k : Nat) (h : a + k ≤ 8) : run a k < 256 := by
  induction k with
  | zero => exact Nat.zero_lt_succ _
  | succ k ih =>
    unfold run
    have h3 : 2 ^ (a + k) < 2 ^ 8 := Nat.pow_lt_pow_right (by decide) (by omega)
    exact Nat.or_lt_two_pow (n := 8) (ih (by omega)) h3
/-- What Next tells. -/
def nextOf (l : List Int) (n : Int) : Int × Bool := match l with
  | [] => (0, false)
  | x :: _ => ((l.find? (fun y => decide (n < y))).getD x, true)
end Go.Proofs.Ytnokpecdkibddab.ND
