/-
  No statement of the program: how a slice of structs of three numbers among the arguments is opened.
-/
import Derived.Test.YtjcghcibligioabLift
import Derived.Deep.Slices
import Derived.Deep.Strs
namespace Go.Proofs.Ytjcghcibligioab
open Go.ChangeShapes Go.WideShapes Go.ChangeAt Go.RowKit

/-- What a walk is told of a slice of structs of three numbers. -/
def IsTriples (w : World) (ao : Option Addr) (len : Nat) (R C X : Nat → Int) : Prop :=
  ∀ i, i < len → ∃ b off, ao = some ⟨b, off, none⟩ ∧ w.cell? ⟨b, off + i * 3, none⟩ = some (.int .i64 (R i)) ∧ w.cell? ⟨b, off + i * 3 + 1, none⟩ = some (.int .i64 (C i)) ∧ w.cell? ⟨b, off + i * 3 + 2, none⟩ = some (.int .i64 (X i))

theorem cells_three {w : World} {base : Nat} {a : Addr} {cs : List Value} (h : w.cells? base a 3 = some cs) : ∃ c0 c1 c2, cs = [c0, c1, c2] ∧ w.cell? (a.add 0) = some c0 ∧ w.cell? (a.add 1) = some c1 ∧ w.cell? (a.add 2) = some c2 := by
  obtain ⟨_, hl, hi⟩ := World.cells?_some h
  match cs, hl with
  | [c0, c1, c2], _ => exact ⟨c0, c1, c2, rfl, by simpa using hi 0 (by omega), by simpa using hi 1 (by omega), by simpa using hi 2 (by omega)⟩

theorem open_triples {H : Type} {enc : TypeId × Value → H} {P : Program} {W : World} {t e i0 : TypeId} {f0 f1 f2 : Field} {v : Value} {d : DataW H} {p : List MemPlace}
    (ht : P.underlying t = some (.slice e)) (he : P.underlying e = some (.struct #[f0, f1, f2])) (ce : P.cellsOf e = 3) (hi : P.underlying i0 = some (.int .i64)) (ci : P.cellsOf i0 = 1)
    (h0 : f0.type = i0 ∧ f0.offset = 0) (h1 : f1.type = i0 ∧ f1.offset = 1) (h2 : f2.type = i0 ∧ f2.offset = 2) (hv : ∃ a len cap, v = .slice a len cap)
    (h : DataW.Trod enc P W 0 (fun _ => true) true t v d p) : ∃ a len cap R C X, v = .slice a len cap ∧ len ≤ cap ∧ cap ≤ maxLen ∧ IsTriples W a len R C X := by
  obtain ⟨a, len, cap, rfl⟩ := hv
  obtain ⟨fuel, hf⟩ := h
  rcases Deep.open_slice ht hf with ⟨hcs, _⟩ | ⟨x, l, c, m, n, D, Pl, hcs, _, hl, hm, hmm, _, hcell⟩
  · simp [Value.cells] at hcs
    obtain ⟨rfl, rfl, rfl⟩ := hcs
    exact ⟨none, 0, 0, fun _ => 0, fun _ => 0, fun _ => 0, rfl, Nat.le_refl _, Nat.zero_le _, fun i hi => absurd hi (Nat.not_lt_zero _)⟩
  · simp [Value.cells] at hcs
    obtain ⟨rfl, rfl, rfl⟩ := hcs
    simp only [if_true] at hmm
    subst hmm
    have each : ∀ i, i < m → ∃ y : Int × Int × Int, W.cell? ((x.add (i * 3)).add 0) = some (.int .i64 y.1) ∧ W.cell? ((x.add (i * 3)).add 1) = some (.int .i64 y.2.1) ∧ W.cell? ((x.add (i * 3)).add 2) = some (.int .i64 y.2.2) := by
      intro i him
      obtain ⟨cs, h3, h4⟩ := hcell i him
      rw [ce] at h3
      obtain ⟨c0, c1, c2, rfl, e0, e1, e2⟩ := cells_three h3
      obtain ⟨y0, y1, y2, n', _, _, g0, g1, g2⟩ := Deep.trod_struct3 he h4
      rw [h0.1, h0.2, ci] at g0
      rw [h1.1, h1.2, ci] at g1
      rw [h2.1, h2.2, ci] at g2
      obtain ⟨a0, q0, _, _⟩ := DataW.trod_int hi g0
      obtain ⟨a1, q1, _, _⟩ := DataW.trod_int hi g1
      obtain ⟨a2, q2, _, _⟩ := DataW.trod_int hi g2
      simp at q0 q1 q2
      subst q0 q1 q2
      exact ⟨(a0, a1, a2), e0, e1, e2⟩
    obtain ⟨Y, hY⟩ := Deep.choose_lt (α := Int × Int × Int) each
    refine ⟨some x, len, m, fun i => (Y i).1, fun i => (Y i).2.1, fun i => (Y i).2.2, rfl, hl, hm, fun i hi2 => ?_⟩
    have him : i < m := by omega
    have z0 := (hY 0 (by omega)).1
    simp only [Nat.zero_mul] at z0
    obtain ⟨b, off, spot⟩ := x
    have hspot : spot = none := by simpa [Addr.add] using World.cell?_spot z0
    subst hspot
    obtain ⟨k0, k1, k2⟩ := hY i him
    rw [add_plain, add_plain] at k0 k1 k2
    exact ⟨b, off, rfl, k0, k1, k2⟩
end Go.Proofs.Ytjcghcibligioab
