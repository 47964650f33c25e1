
/-
  No statement of the program: 'halves' of the statements on buddies answers true, over this seat's translation.
-/
import Derived.Test.YtpljldjdemobbaaDoorBud6
namespace Go.Proofs.YtpljldjdemobbaaDoor.By
open Go.RowKit
theorem ls0 {K : Nat} (hk : K ≤ 10) : Ls K (u0 K) (2 ^ K) (fun j => if j = K then [0] else []) := by
  refine ⟨fun j hj => ⟨?_, fun x => ?_⟩, fun i hi => by simp [u0, hi], ?_, hk⟩
  · by_cases h : j = K <;> simp [h]
  · constructor
    · intro hx
      by_cases h : j = K
      · rw [if_pos h] at hx
        simp at hx
        exact ⟨0, by omega, u0_top.2 ⟨h, rfl⟩⟩
      · rw [if_neg h] at hx; simp at hx
    · rintro ⟨q, rfl, hq⟩
      obtain ⟨h1, h2⟩ := u0_top.1 hq
      rw [if_pos h1, h2]; simp
  · have h0 : sumTo (fun _ => ([] : List Nat)) 11 = 0 := rfl
    have := sumTo_add (L := fun _ => []) (L' := fun j => if j = K then [0] else []) (o := K) (by simp) (fun j hj => by simp [hj]) 11 (by omega)
    omega
theorem least0 {K o : Nat} (hk : K ≤ 10) (ho : o ≤ K) : Least (u0 K) o K 0 :=
  ⟨ho, hk, u0_top.2 ⟨rfl, rfl⟩, fun b _ => Nat.zero_le _, fun j b _ h2 ht => by have := (u0_top.1 ht).1; omega⟩
/-- The lists behind the first Take. -/
theorem lo1 {K o j : Nat} (hk : K ≤ 10) (ho : o ≤ j) (hj : j < K) : Lo (upd (u0 K) (0 * 2 ^ K / 2 ^ o) o true) j [2 ^ j] := by
  obtain ⟨f', -, h⟩ := (ls0 hk).take (least0 hk (show o ≤ K by omega)) (r := []) (by simp)
  have := h.lo j (by omega)
  unfold Lh at this
  rw [if_neg (by omega), if_pos ⟨ho, hj⟩] at this
  simpa using this
end Go.Proofs.YtpljldjdemobbaaDoor.By
