
/-
  No statement of the program: package stats' calls, over this seat's translation. 'LA w p cb n ev l': at p lies a log of n nodes whose events are l.
-/
import Derived.Test.YtbejafjpdplofaaSts
namespace Go.Proofs.Ytbejafjpdplofaa.St
open Go.ChangeShapes Go.WideShapes Go.ChangeAt Go.RowKit By

structure Ev where
  a : Nat
  b : Nat
  c : Nat
  d : Bool
def Ev.v (x : Ev) : List Value := [.int .i64 x.a, .int .i64 x.b, .int .i64 x.c, .bool x.d]
def fl (l : List Ev) : List Value := l.flatMap Ev.v
theorem fl_append (l m : List Ev) : fl (l ++ m) = fl l ++ fl m := by unfold fl; simp
theorem fl_one (x : Ev) : fl [x] = x.v := by simp [fl]
theorem fl_length (l : List Ev) : (fl l).length = l.length * 4 := by
  induction l with
  | nil => rfl
  | cons x r ih =>
    have : fl (x :: r) = x.v ++ fl r := by simp [fl]
    rw [this, List.length_append, ih]
    simp [Ev.v]; omega
/-- Does an event count for a node? -/
def pE (x : Ev) (k q : Nat) : Bool :=
  if q = 0 then decide (x.a = k) && decide (x.b = k)
  else if q = 1 then decide (x.a = k) && !decide (x.b = k)
  else if q = 2 then !decide (x.a = k) && decide (x.b = k)
  else if q = 3 then decide (x.a = k) && decide (x.c = k)
  else if q = 4 then decide (x.a = k) && !decide (x.c = k)
  else decide (x.a = k) && decide (x.b = k) && x.d
def cn (l : List Ev) (i : Nat) : Nat := l.countP (fun x => pE x (i / 6) (i % 6))
theorem cn_le (l : List Ev) (i : Nat) : cn l i ≤ l.length := List.countP_le_length
theorem cn_snoc (l : List Ev) (x : Ev) (i : Nat) : cn (l ++ [x]) i = cn l i + (if pE x (i / 6) (i % 6) then 1 else 0) := by
  unfold cn
  rw [List.countP_append, List.countP_singleton]
theorem inc_ne {g : Nat → Nat} {i j : Nat} (h : j ≠ i) : inc g i j = g j := by unfold inc; rw [if_neg h]
theorem inc_eq {g : Nat → Nat} {i j : Nat} (h : j = i) : inc g i j = g j + 1 := by unfold inc; rw [if_pos h]
theorem inc_at (g : Nat → Nat) (a k q' q : Nat) (h' : q' < 6) (h : q < 6) : inc g (a * 6 + q') (k * 6 + q) = g (k * 6 + q) + (if a = k ∧ q' = q then 1 else 0) := by
  unfold inc
  by_cases e : a = k ∧ q' = q
  · rw [if_pos e, if_pos (by obtain ⟨rfl, rfl⟩ := e; rfl)]
  · rw [if_neg e, if_neg (by omega), Nat.add_zero]
theorem cS_at (a b c : Nat) (d : Bool) (g : Nat → Nat) (k q : Nat) (hq : q < 6) : cS a b d g (k * 6 + q) = g (k * 6 + q) + (if q < 3 ∨ q = 5 then (if pE ⟨a, b, c, d⟩ k q then 1 else 0) else 0) := by
  unfold cS
  by_cases hab : a = b
  · rw [if_pos hab]
    subst hab
    cases d
    · show inc g (a * 6 + 0) (k * 6 + q) = _
      rw [inc_at g a k 0 q (by omega) hq]
      congr 1
      by_cases hak : a = k <;> rcases (show q = 0 ∨ q = 1 ∨ q = 2 ∨ q = 3 ∨ q = 4 ∨ q = 5 by omega) with rfl | rfl | rfl | rfl | rfl | rfl <;> simp [pE, hak]
    · show inc (inc g (a * 6 + 0)) (a * 6 + 5) (k * 6 + q) = _
      rw [inc_at _ a k 5 q (by omega) hq, inc_at g a k 0 q (by omega) hq, Nat.add_assoc]
      congr 1
      by_cases hak : a = k <;> rcases (show q = 0 ∨ q = 1 ∨ q = 2 ∨ q = 3 ∨ q = 4 ∨ q = 5 by omega) with rfl | rfl | rfl | rfl | rfl | rfl <;> simp [pE, hak]
  · rw [if_neg hab, inc_at _ b k 2 q (by omega) hq, inc_at g a k 1 q (by omega) hq, Nat.add_assoc]
    congr 1
    by_cases hak : a = k
    · have hbk : ¬ b = k := fun e => hab (hak.trans e.symm)
      rcases (show q = 0 ∨ q = 1 ∨ q = 2 ∨ q = 3 ∨ q = 4 ∨ q = 5 by omega) with rfl | rfl | rfl | rfl | rfl | rfl <;> simp [pE, hak, hbk]
    · by_cases hbk : b = k <;> rcases (show q = 0 ∨ q = 1 ∨ q = 2 ∨ q = 3 ∨ q = 4 ∨ q = 5 by omega) with rfl | rfl | rfl | rfl | rfl | rfl <;> simp [pE, hak, hbk]
theorem cO_at (a b c : Nat) (d : Bool) (g : Nat → Nat) (k q : Nat) (hq : q < 6) : cO a c g (k * 6 + q) = g (k * 6 + q) + (if q = 3 ∨ q = 4 then (if pE ⟨a, b, c, d⟩ k q then 1 else 0) else 0) := by
  unfold cO
  by_cases hac : a = c
  · rw [if_pos hac, inc_at g a k 3 q (by omega) hq]
    congr 1
    subst hac
    by_cases hak : a = k <;> rcases (show q = 0 ∨ q = 1 ∨ q = 2 ∨ q = 3 ∨ q = 4 ∨ q = 5 by omega) with rfl | rfl | rfl | rfl | rfl | rfl <;> simp [pE, hak]
  · rw [if_neg hac, inc_at g a k 4 q (by omega) hq]
    congr 1
    by_cases hak : a = k
    · have hck : ¬ c = k := fun e => hac (hak.trans e.symm)
      rcases (show q = 0 ∨ q = 1 ∨ q = 2 ∨ q = 3 ∨ q = 4 ∨ q = 5 by omega) with rfl | rfl | rfl | rfl | rfl | rfl <;> simp [pE, hak, hck]
    · rcases (show q = 0 ∨ q = 1 ∨ q = 2 ∨ q = 3 ∨ q = 4 ∨ q = 5 by omega) with rfl | rfl | rfl | rfl | rfl | rfl <;> simp [pE, hak]
theorem step_cn (l : List Ev) (x : Ev) : cO x.a x.c (cS x.a x.b x.d (cn l)) = cn (l ++ [x]) := by
  funext i
  rw [cn_snoc]
  obtain ⟨a, b, c, d⟩ := x
  obtain ⟨k, q, hi, hq⟩ : ∃ k q, i = k * 6 + q ∧ q < 6 := ⟨i / 6, i % 6, by omega, by omega⟩
  have h1 : i / 6 = k := by omega
  have h2 : i % 6 = q := by omega
  rw [h1, h2, hi]
  show cO a c (cS a b d (cn l)) (k * 6 + q) = _
  rw [cO_at a b c d _ k q hq, cS_at a b c d _ k q hq]
  rcases (show q = 0 ∨ q = 1 ∨ q = 2 ∨ q = 3 ∨ q = 4 ∨ q = 5 by omega) with rfl | rfl | rfl | rfl | rfl | rfl <;> simp
end Go.Proofs.Ytbejafjpdplofaa.St
