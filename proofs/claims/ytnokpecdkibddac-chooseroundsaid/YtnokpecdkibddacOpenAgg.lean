
/-
  No statement of the program: how a struct among the arguments is opened, field by field.
-/
import Derived.Test.YtnokpecdkibddacLift
namespace Go.Proofs.Ytnokpecdkibddac
open Go.ChangeShapes Go.WideShapes Go.ChangeAt Go.RowKit

theorem open_agg {H : Type} {enc : TypeId × Value → H} {P : Program} {W : World} {t : TypeId} {fs : Array Field} {kc : Nat} {v : Value} {d : DataW H} {p : List MemPlace}
    (he : P.underlying t = some (.struct fs)) (ce : P.cellsOf t = kc) (hk : 2 ≤ kc) (h : DataW.Trod enc P W 0 (fun _ => true) true t v d p) :
    ∃ (fuel : Nat) (cs : Array Value), v = .agg cs ∧ cs.size = kc ∧
      ∀ (q : Nat) (f : Field), fs[q]? = some f → ∃ y, DataW.trod enc P W 0 (fun _ => true) true fuel f.type ((cs.toList.drop f.offset).take (P.cellsOf f.type)) = some y := by
  obtain ⟨fuel, hf⟩ := h
  obtain ⟨xs, k, _, _, hl, hxl, hfl⟩ := DataW.trod_struct he hf
  rw [ce] at hl
  have hv : ∃ cs, v = .agg cs := by
    cases v with
    | agg cs => exact ⟨cs, rfl⟩
    | _ => simp [Value.cells] at hl; omega
  obtain ⟨cs, rfl⟩ := hv
  refine ⟨k, cs, rfl, by simpa [Value.cells] using hl, fun q f hq => ?_⟩
  have h6 := hfl q f hq
  simp only [Value.cells] at h6
  cases hy : DataW.trod enc P W 0 (fun _ => true) true k f.type ((cs.toList.drop f.offset).take (P.cellsOf f.type)) with
  | some y => exact ⟨y, rfl⟩
  | none =>
    rw [hy] at h6
    have hqs : q < fs.size := (Array.getElem?_eq_some_iff.1 hq).1
    have : xs[q]? = some (xs[q]'(by omega)) := List.getElem?_eq_getElem (by omega)
    simp [this] at h6

/-- Three numbers. -/
theorem open_agg3 {H : Type} {enc : TypeId × Value → H} {P : Program} {W : World} {t : TypeId} {f0 f1 f2 : Field} {k0 k1 k2 : IntKind} {v : Value} {d : DataW H} {p : List MemPlace}
    (he : P.underlying t = some (.struct #[f0, f1, f2])) (ce : P.cellsOf t = 3) (o0 : f0.offset = 0) (o1 : f1.offset = 1) (o2 : f2.offset = 2)
    (c0 : P.cellsOf f0.type = 1) (c1 : P.cellsOf f1.type = 1) (c2 : P.cellsOf f2.type = 1)
    (u0 : P.underlying f0.type = some (.int k0)) (u1 : P.underlying f1.type = some (.int k1)) (u2 : P.underlying f2.type = some (.int k2))
    (h : DataW.Trod enc P W 0 (fun _ => true) true t v d p) :
    ∃ a b c, v = .agg #[.int k0 a, .int k1 b, .int k2 c] ∧ (Lit.int k0 a).wf = true ∧ (Lit.int k1 b).wf = true ∧ (Lit.int k2 c).wf = true := by
  obtain ⟨fuel, cs, rfl, hsz, hf⟩ := open_agg he ce (by omega) h
  obtain ⟨cl⟩ := cs
  match cl, hsz with
  | [x, y, z], _ =>
    obtain ⟨y0, h0⟩ := hf 0 f0 rfl
    obtain ⟨y1, h1⟩ := hf 1 f1 rfl
    obtain ⟨y2, h2⟩ := hf 2 f2 rfl
    rw [o0, c0] at h0
    rw [o1, c1] at h1
    rw [o2, c2] at h2
    obtain ⟨a, ha, -, wa⟩ := DataW.trod_int u0 h0
    obtain ⟨b, hb, -, wb⟩ := DataW.trod_int u1 h1
    obtain ⟨c, hc, -, wc⟩ := DataW.trod_int u2 h2
    simp at ha hb hc
    subst ha hb hc
    exact ⟨a, b, c, rfl, wa, wb, wc⟩
end Go.Proofs.Ytnokpecdkibddac
