
/-
  No statement of the program: how a slice of structs among the arguments is opened, cell by cell.
-/
import Derived.Test.YtpljldjdemobbaaDoorLift
namespace Go.Proofs.YtpljldjdemobbaaDoor
open Go.ChangeShapes Go.WideShapes Go.ChangeAt Go.RowKit

theorem addr_add2 (x : Addr) (i j : Nat) : (x.add i).add j = x.add (i + j) := Deep.add_add x i j
/-- Each struct's cells lie one behind the other, and each field reads as its type asks. -/
theorem open_structs {H : Type} {enc : TypeId × Value → H} {P : Program} {W : World} {t e : TypeId} {fs : Array Field} {kc : Nat} {v : Value} {d : DataW H} {p : List MemPlace}
    (ht : P.underlying t = some (.slice e)) (he : P.underlying e = some (.struct fs)) (ce : P.cellsOf e = kc) (hk : 0 < kc) (hv : ∃ a len cap, v = .slice a len cap)
    (h : DataW.Trod enc P W 0 (fun _ => true) true t v d p) : ∃ a len cap, v = .slice a len cap ∧ len ≤ maxLen ∧ ∀ i, i < len → ∃ b off, a = some ⟨b, off, none⟩ ∧ ∃ (fuel : Nat) (cs : List Value), cs.length = kc ∧
      (∀ j u, cs[j]? = some u → W.cell? ⟨b, off + i * kc + j, none⟩ = some u) ∧ ∀ (q : Nat) (f : Field), fs[q]? = some f → ∃ y, DataW.trod enc P W 0 (fun _ => true) true fuel f.type ((cs.drop f.offset).take (P.cellsOf f.type)) = some y := by
  obtain ⟨a, len, cap, rfl⟩ := hv
  obtain ⟨fuel, hf⟩ := h
  rcases Deep.open_slice ht hf with ⟨hcs, _⟩ | ⟨x, l, c, m, n, D, Pl, hcs, _, hl, hm, hmm, _, hx⟩
  · simp [Value.cells] at hcs
    obtain ⟨rfl, rfl, rfl⟩ := hcs
    exact ⟨none, 0, 0, rfl, Nat.zero_le _, fun i hi => absurd hi (Nat.not_lt_zero _)⟩
  · simp [Value.cells] at hcs
    obtain ⟨rfl, rfl, rfl⟩ := hcs
    simp only [if_true] at hmm
    refine ⟨some x, len, cap, rfl, Nat.le_trans hl hm, fun i hi => ?_⟩
    obtain ⟨cs0, h1, _⟩ := hx 0 (by omega)
    obtain ⟨cs, h2, h3⟩ := hx i (by omega)
    rw [ce] at h1 h2
    obtain ⟨_, hl0, hc0⟩ := World.cells?_some h1
    obtain ⟨_, hl1, hc1⟩ := World.cells?_some h2
    obtain ⟨b, off, spot⟩ := x
    have hspot : spot = none := by
      have h5 := hc0 0 (by omega)
      rw [addr_add2, List.getElem?_eq_getElem (by omega)] at h5
      simpa [Addr.add] using World.cell?_spot h5
    subst hspot
    refine ⟨b, off, rfl, ?_⟩
    obtain ⟨xs, k, _, _, _, hxl, hfl⟩ := DataW.trod_struct he h3
    refine ⟨k, cs, hl1, fun j u hj => ?_, fun q f hq => ?_⟩
    · have hjl : j < cs.length := (List.getElem?_eq_some_iff.1 hj).1
      have h5 := hc1 j (by omega)
      have e5 : ((⟨b, off, none⟩ : Addr).add (i * kc)).add j = ⟨b, off + i * kc + j, none⟩ := by
        rw [addr_add2, add_plain, Nat.add_assoc]
      rw [e5] at h5
      rw [h5, ← hj]
    · have h6 := hfl q f hq
      cases hy : DataW.trod enc P W 0 (fun _ => true) true k f.type ((cs.drop f.offset).take (P.cellsOf f.type)) with
      | some y => exact ⟨y, rfl⟩
      | none =>
        rw [hy] at h6
        have hqs : q < fs.size := (Array.getElem?_eq_some_iff.1 hq).1
        have : xs[q]? = some (xs[q]'(by omega)) := List.getElem?_eq_getElem (by omega)
        simp [this] at h6
end Go.Proofs.YtpljldjdemobbaaDoor
