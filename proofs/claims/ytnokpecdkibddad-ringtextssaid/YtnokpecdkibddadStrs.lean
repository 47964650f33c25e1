
/-
  No statement of the program: a list of texts among the arguments.
-/
import Derived.Test.YtnokpecdkibddadHeap2
import Derived.Deep.Slices
namespace Go.Proofs.Ytnokpecdkibddad
open Go.ChangeShapes Go.WideShapes Go.ChangeAt Go.RowKit

/-- A list of texts. -/
def IsStrs (w : World) (ao : Option Addr) (len : Nat) (z : Nat → ByteArray) : Prop := ∀ i, i < len → ∃ b off, ao = some ⟨b, off, none⟩ ∧ w.cell? ⟨b, off + i, none⟩ = some (.string (z i))
theorem IsStrs.kept {w w' : World} {ao : Option Addr} {len : Nat} {z : Nat → ByteArray} (h : IsStrs w ao len z) (hk : Kept [] w w') : IsStrs w' ao len z := by
  intro i hi
  obtain ⟨b, off, rfl, hc⟩ := h i hi
  exact ⟨b, off, rfl, hk.cell hc (by simp)⟩
theorem open_strs {H : Type} {enc : TypeId × Value → H} {P : Program} {W : World} {t e : TypeId} {v : Value} {d : DataW H} {p : List MemPlace}
    (ht : P.underlying t = some (.slice e)) (he : P.underlying e = some .string) (hc : P.cellsOf e = 1) (hv : ∃ a len cap, v = .slice a len cap)
    (h : DataW.Trod enc P W 0 (fun _ => true) true t v d p) : ∃ a len cap z, v = .slice a len cap ∧ len ≤ cap ∧ cap ≤ maxLen ∧ IsStrs W a len z := by
  obtain ⟨a, len, cap, rfl⟩ := hv
  obtain ⟨fuel, hf⟩ := h
  rcases Deep.open_slice1 ht hc hf with ⟨hcs, _⟩ | ⟨x, l, c, m, n, V, D, Pl, hcs, _, hl, hm, hmm, _, hx⟩
  · simp [Value.cells] at hcs
    obtain ⟨rfl, rfl, rfl⟩ := hcs
    exact ⟨none, 0, 0, fun _ => ⟨#[]⟩, rfl, Nat.le_refl _, Nat.zero_le _, fun i hi => absurd hi (Nat.not_lt_zero _)⟩
  · simp [Value.cells] at hcs
    obtain ⟨rfl, rfl, rfl⟩ := hcs
    simp only [if_true] at hmm
    refine ⟨some x, len, cap, fun i => (match V i with | .string s => s | _ => ⟨#[]⟩), rfl, hl, hm, fun i hi => ?_⟩
    obtain ⟨h0, -⟩ := hx 0 (by omega)
    obtain ⟨h1, h2⟩ := hx i (by omega)
    obtain ⟨b, off, rfl, hc2⟩ := plain_addr h0 h1
    refine ⟨b, off, rfl, ?_⟩
    obtain ⟨s, e2, -⟩ := DataW.trod_string he h2
    simp at e2
    simp only [hc2, e2]
end Go.Proofs.Ytnokpecdkibddad
