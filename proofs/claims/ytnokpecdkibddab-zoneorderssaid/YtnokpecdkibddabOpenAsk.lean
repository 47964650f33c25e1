
/-
  No statement of the program: a struct of two numbers, of whatever kinds, and a list of yes and no, opened among the arguments.
-/
import Derived.Test.YtnokpecdkibddabOpenTopo
namespace Go.Proofs.Ytnokpecdkibddab
open Go.ChangeShapes Go.WideShapes Go.ChangeAt Go.RowKit TP ZN

theorem open_ask2 {H : Type} {enc : TypeId × Value → H} {P : Program} {W : World} {t : TypeId} {f0 f1 f2 : Field} {k0 k1 : IntKind} {e2 : TypeId} {v : Value} {d : DataW H} {p : List MemPlace}
    (he : P.underlying t = some (.struct #[f0, f1, f2])) (ce : P.cellsOf t = 3) (o0 : f0.offset = 0) (o1 : f1.offset = 1) (o2 : f2.offset = 2)
    (c0 : P.cellsOf f0.type = 1) (c1 : P.cellsOf f1.type = 1) (c2 : P.cellsOf f2.type = 1)
    (u0 : P.underlying f0.type = some (.int k0)) (u1 : P.underlying f1.type = some (.int k1)) (u2 : P.underlying f2.type = some (.slice e2)) (v2 : P.underlying e2 = some .bool) (kk : P.cellsOf e2 = 1)
    (h : DataW.Trod enc P W 0 (fun _ => true) true t v d p) :
    ∃ a b mA mL mC mz, v = .agg #[.int k0 a, .int k1 b, .slice mA mL mC] ∧ mL ≤ mC ∧ mC ≤ maxLen ∧ (mA = none → mC = 0) ∧ (Lit.int k0 a).wf = true ∧ (Lit.int k1 b).wf = true ∧ IsBools W mA mL mz := by
  obtain ⟨fuel, cs, rfl, hsz, hf⟩ := open_agg he ce (by omega) h
  obtain ⟨cl⟩ := cs
  match cl, hsz with
  | [x, y, z], _ =>
    obtain ⟨y0, h0⟩ := hf 0 f0 rfl
    obtain ⟨y1, h1⟩ := hf 1 f1 rfl
    obtain ⟨y2, h2⟩ := hf 2 f2 rfl
    rw [o0, c0] at h0
    rw [o1, c1] at h1
    rw [o2, c2] at h2
    obtain ⟨a, ha, -, wa⟩ := DataW.trod_int u0 h0
    obtain ⟨b, hb, -, wb⟩ := DataW.trod_int u1 h1
    simp at ha hb
    subst ha hb
    obtain ⟨g2, T2⟩ := slice_form u2 (show DataW.trod enc P W 0 (fun _ => true) true fuel f2.type [z] = some y2 from h2)
    obtain ⟨mA, mL, mC, mz, rfl, h1, h2, h3, hB⟩ := open_bools u2 v2 kk g2 T2
    exact ⟨a, b, mA, mL, mC, mz, rfl, h1, h2, h3, wa, wb, hB⟩
end Go.Proofs.Ytnokpecdkibddab
