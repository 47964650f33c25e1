
/-
  No statement of the program: the document's Take of a space: what it tells, over this seat's translation.
-/
import Derived.Test.YtdgmfcnblaamcaaSpc16
import Derived.OwnWalk
import Derived.BigRegion
import Derived.BigQuiet
import Derived.Deep.RegionHeld3
import Derived.Deep.RegionHeld
namespace Go.Proofs.Ytdgmfcnblaamcaa.Sc
open Go.ChangeShapes Go.WideShapes Go.ChangeAt Go.RowKit
/-- append of no list at all, as one step of a region that draws. -/
theorem step_append_own_none {P : Program} {ops : Array Oper} {o : Oper} {a : Act} {w : World} {K : Act → World → Prop} {Q : Exit → Act → World → Prop} {E : Prop} (hgd : o.guard = none) (s x : Operand) (t : TypeId)
    (ho : o.op = .call { callee := .builtin .append, args := #[s, x], argTypes := #[t, t] })
    (base : Nat) (e : TypeId) (i : TypeInfo) (size : Nat) (ht : P.underlying t = some (.slice e)) (hi : P.info? e = some i)
    (v : Value) (n : Nat) (xs : List Value) (hs : a.eval s = v) (hown : w.ownsRow base e size v n xs) (hx : a.eval x = .slice none 0 0)
    (h : K (a.put o.dst v) w) :
    if Region.wanted o (yielded ops a.tmps) = true then Oper.wp P o a w K Q else E := by
  have hw : Region.wanted o (yielded ops a.tmps) = true := by simp [Region.wanted, hgd]
  rw [if_pos hw]
  have hrun := run_append_owned_none (P := P) (w := w) base t o.type e i size ht hi v n xs hown
  unfold Oper.wp
  simp [execOp, ho, resolve, invoke, builtin, hs, hx, hrun, Result.andThen]
  exact h
/-- What the document's Take tells. -/
def TakeIs (w w' : World) (q n : Nat) (F C : Nat → Nat) (need k : Nat) (e : Ending) : Prop :=
  (4096 < fstAt F C k + need ∧ e = .returned (.tuple #[.int .i64 0, .int .i64 14]) ∧ Kept [] w w') ∨
  (fstAt F C k + need ≤ 4096 ∧ e = .returned (.tuple #[.int .i64 (fstAt F C k : Nat), .int .i64 0]) ∧ ∃ v' base', RQ w' q base' v' (n + 1) (ins F k (fstAt F C k)) (ins C k need) ∧ Kept [q] w w' ∧ w.heap.size ≤ base')
end Go.Proofs.Ytdgmfcnblaamcaa.Sc
