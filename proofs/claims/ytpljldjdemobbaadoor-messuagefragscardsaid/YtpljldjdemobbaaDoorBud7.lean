
/-
  No statement of the program: a buddy's Take by where the run begins, over this seat's translation; small facts on numbers.
-/
import Derived.Test.YtpljldjdemobbaaDoorBud6
namespace Go.Proofs.YtpljldjdemobbaaDoor.By
open Go.RowKit
theorem BS.fle {w : World} {p K f : Nat} {u : Nat → Bool} {tk : Nat → Nat} {F : List Nat} (h : BS w p K u tk f F) : f ≤ 4194304 := by
  obtain ⟨L, tb, V, hB, hL, hT, rfl⟩ := h
  have hn := n1024 hL.k10
  have := sumTo_le L 2048 (fun j hj => by have := (hL.lo j hj).len hL.out; omega) 11 (by decide)
  rw [hL.sum] at this
  omega
theorem BS.k10 {w : World} {p K f : Nat} {u : Nat → Bool} {tk : Nat → Nat} {F : List Nat} (h : BS w p K u tk f F) : K ≤ 10 := by
  obtain ⟨L, tb, V, hB, hL, hT, rfl⟩ := h
  exact hL.k10
theorem mod_raw (x m : Int) (hm : 0 < m) : ∃ r : Nat, (r : Int) < m ∧ (IntKind.u64.wrap x).tmod m = r := by
  have h0 : 0 ≤ IntKind.u64.wrap x := by rw [IntKind.wrap_u64]; omega
  have h1 : (IntKind.u64.wrap x).tmod m = IntKind.u64.wrap x % m := Int.tmod_eq_emod_of_nonneg h0
  have h3 : 0 ≤ IntKind.u64.wrap x % m := Int.emod_nonneg _ (by omega)
  have h4 : IntKind.u64.wrap x % m < m := Int.emod_lt_of_pos _ hm
  exact ⟨(IntKind.u64.wrap x % m).toNat, by omega, by rw [h1]; omega⟩
theorem shl1 {k : Nat} (hk : k ≤ 10) : wrap64 ((2 : Int) ^ k) = ((2 ^ k : Nat) : Int) := by
  have e1 : (2 : Int) ^ k = ((2 ^ k : Nat) : Int) := by simp
  rw [e1]
  have hp := n1024 hk
  generalize 2 ^ k = y at hp ⊢
  rw [IntWalk.wrap64_in (y : Int) ⟨by omega, by omega⟩]
theorem bs_some {w : World} {p K f : Nat} {u : Nat → Bool} {tk : Nat → Nat} {F : List Nat} (o : Nat) (h : BS w p K u tk f F) (ho : o ≤ 10) {oi : Int} (eo : oi = o) :
    Calls Tryd.prog 18 #[.pointer (some ⟨p, 0, none⟩), .int .i64 oi] w fun e w' => ∃ (x z : Int) (f' : Nat) (u' : Nat → Bool) (tk' : Nat → Nat) (F' : List Nat), e = .returned (.tuple #[.int .i64 x, .int .i64 z]) ∧ BS w' p K u' tk' f' F' ∧ Kept F w w' ∧ ∀ x, x ∈ F' → x ∈ F ∨ w.heap.size ≤ x := by
  rcases h.or o with ⟨k, a, hl⟩ | hn
  · refine (bs_take o k a h hl eo).mono ?_
    rintro e w' ⟨f', F', rfl, -, h1, h2, h3⟩
    exact ⟨_, _, f', _, _, F', rfl, h1, h2, h3⟩
  · refine (bs_none o h ho hn eo).mono ?_
    rintro e w' ⟨rfl, hw⟩
    subst w'
    exact ⟨_, _, f, u, tk, F, rfl, h, Kept.refl _ _, fun x hx => .inl hx⟩
/-- Take finds a run that begins at A. -/
def Finds (u : Nat → Bool) (o A : Nat) : Prop := ∃ k a, Least u o k a ∧ A = a * 2 ^ k
theorem BS.finds {w : World} {p K f : Nat} {u : Nat → Bool} {tk : Nat → Nat} {F : List Nat} (h : BS w p K u tk f F) (o : Nat) : (∃ A, Finds u o A) ∨ Nun u o := by
  rcases h.or o with ⟨k, a, hl⟩ | hn
  · exact .inl ⟨_, k, a, hl, rfl⟩
  · exact .inr hn
theorem bs_takeA {w : World} {p K f : Nat} {u : Nat → Bool} {tk : Nat → Nat} {F : List Nat} (o A : Nat) (h : BS w p K u tk f F) (hl : Finds u o A) {oi : Int} (eo : oi = o) :
    Calls Tryd.prog 18 #[.pointer (some ⟨p, 0, none⟩), .int .i64 oi] w fun e w' => ∃ f' F', e = .returned (.tuple #[.int .i64 A, .int .i64 0]) ∧ f = f' + 2 ^ o ∧ BS w' p K (upd u (A / 2 ^ o) o true) (fun i => if i = A then o + 1 else tk i) f' F' ∧ Kept F w w' ∧ ∀ x, x ∈ F' → x ∈ F ∨ w.heap.size ≤ x := by
  obtain ⟨k, a, hl, rfl⟩ := hl
  exact bs_take o k a h hl eo
theorem BS.at_ {w : World} {p K f : Nat} {u : Nat → Bool} {tk : Nat → Nat} {F : List Nat} {o A : Nat} (h : BS w p K u tk f F) (hl : Finds u o A) :
    A < 2 ^ K ∧ tk A = 0 ∧ Fr u (A / 2 ^ o) o ∧ (A / 2 ^ o + 1) * 2 ^ o ≤ 2 ^ K ∧ A / 2 ^ o * 2 ^ o = A := by
  obtain ⟨k, a, hl, rfl⟩ := hl
  exact (h.tok.take h.out hl).2
end Go.Proofs.YtpljldjdemobbaaDoor.By
