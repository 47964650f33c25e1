
/-
  No statement of the program: rows of the call's own behind a call; a run that Take finds; where x[l:] lies.
-/
import Derived.Test.YtpljldjdemobbaaDoorOwn
import Derived.Test.YtpljldjdemobbaaDoorBud7
namespace Go.Proofs.YtpljldjdemobbaaDoor.By
open Go.ChangeShapes Go.WideShapes Go.ChangeAt Go.RowKit
/-- A row of the call's own behind a call that kept its block. -/
theorem own_far {L : List Nat} {w w' : World} {base : Nat} {e : TypeId} {size : Nat} {v : Value} {n : Nat} {xs : List Value} (h : w.ownsRow base e size v n xs) (k : Kept L w w') (hL : ∀ g, v.ownBlock = some g → g ∉ L) : w'.ownsRow base e size v n xs := by
  refine ⟨h.1, ?_⟩
  rcases h.2 with ⟨h1, h2⟩ | ⟨g, cap, cur, rfl, hbg, hg, hnc, hcm, hcs, ht⟩
  · exact .inl ⟨h1, h2⟩
  · exact .inr ⟨g, cap, cur, rfl, hbg, k.blk hg (hL g rfl), hnc, hcm, hcs, ht⟩
/-- A run that Take finds: so many frames are free. -/
theorem BSroom {w : World} {p K f : Nat} {u : Nat → Bool} {tk : Nat → Nat} {F : List Nat} {o A : Nat} (h : BS w p K u tk f F) (hA : Finds u o A) : 2 ^ o ≤ f := by
  obtain ⟨k, a, hl, rfl⟩ := hA
  obtain ⟨L, tb, V, hB, hL, hT, -⟩ := h
  obtain ⟨r, hr⟩ := (hL.lo k (by have := hl.k10; omega)).head hl.top hl.low
  obtain ⟨f', hf', -⟩ := hL.take hl hr
  omega
theorem cut_at (g cap k s : Nat) : ∃ ad : Addr, (if cap = k then some (⟨g, 0, none⟩ : Addr) else (some (⟨g, 0, none⟩ : Addr)).map (·.add (k * s))) = some ad ∧ ∀ j, cap ≠ k → ad.add j = ⟨g, k * s + j, none⟩ := by
  by_cases hck : cap = k
  · exact ⟨_, by rw [if_pos hck], fun j hj => absurd hck hj⟩
  · refine ⟨(⟨g, 0, none⟩ : Addr).add (k * s), by rw [if_neg hck]; rfl, fun j _ => ?_⟩
    rw [add_plain, add_plain, Nat.zero_add]
theorem one_iv (l : List Nat) : ∀ u, u ∈ l.map iv → u.oneCell' = true := by
  intro u hu
  obtain ⟨x, -, rfl⟩ := List.mem_map.1 hu
  rfl
end Go.Proofs.YtpljldjdemobbaaDoor.By
