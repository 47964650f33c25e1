
/-
  No statement of the program: how a machine, and a struct of two numbers and a list of yes and no, are opened among the arguments.
-/
import Derived.Test.YtnokpecdkibddacZone5
import Derived.Test.YtnokpecdkibddacHeap3
import Derived.Test.YtnokpecdkibddacOpenAgg
import Derived.Deep.Slices
namespace Go.Proofs.Ytnokpecdkibddac
open Go.ChangeShapes Go.WideShapes Go.ChangeAt Go.RowKit TP ZN

theorem slice_form {H : Type} {enc : TypeId × Value → H} {P : Program} {W : World} {t e : TypeId} {fuel : Nat} {c : Value} {y : DataW H × List MemPlace} (ht : P.underlying t = some (.slice e))
    (h : DataW.trod enc P W 0 (fun _ => true) true fuel t [c] = some y) : (∃ a len cap, c = .slice a len cap) ∧ DataW.Trod enc P W 0 (fun _ => true) true t c y.1 y.2 := by
  have hc : ∃ a len cap, c = .slice a len cap := by
    rcases Deep.open_slice ht h with ⟨hcs, _⟩ | ⟨x, l, cc, m, n, D, Pl, hcs, _⟩
    · simp at hcs; exact ⟨_, _, _, hcs⟩
    · simp at hcs; exact ⟨_, _, _, hcs⟩
  refine ⟨hc, ?_⟩
  obtain ⟨a, len, cap, rfl⟩ := hc
  exact ⟨fuel, by simpa [Value.cells] using h⟩

theorem open_bools {H : Type} {enc : TypeId × Value → H} {P : Program} {W : World} {t e : TypeId} {v : Value} {d : DataW H} {p : List MemPlace}
    (ht : P.underlying t = some (.slice e)) (he : P.underlying e = some .bool) (hc : P.cellsOf e = 1) (hv : ∃ a len cap, v = .slice a len cap)
    (h : DataW.Trod enc P W 0 (fun _ => true) true t v d p) : ∃ a len cap z, v = .slice a len cap ∧ len ≤ cap ∧ cap ≤ maxLen ∧ (a = none → cap = 0) ∧ IsBools W a len z := by
  obtain ⟨a, len, cap, rfl⟩ := hv
  obtain ⟨fuel, hf⟩ := h
  rcases Deep.open_slice1 ht hc hf with ⟨hcs, _⟩ | ⟨x, l, c, m, n, V, D, Pl, hcs, _, hl, hm, hmm, _, hx⟩
  · simp [Value.cells] at hcs
    obtain ⟨rfl, rfl, rfl⟩ := hcs
    exact ⟨none, 0, 0, fun _ => false, rfl, Nat.le_refl _, Nat.zero_le _, fun _ => rfl, fun i hi => absurd hi (Nat.not_lt_zero _)⟩
  · simp [Value.cells] at hcs
    obtain ⟨rfl, rfl, rfl⟩ := hcs
    simp only [if_true] at hmm
    refine ⟨some x, len, cap, fun i => (match V i with | .bool b => b | _ => false), rfl, hl, hm, (fun h => by cases h), fun i hi => ?_⟩
    obtain ⟨h0, -⟩ := hx 0 (by omega)
    obtain ⟨h1, h2⟩ := hx i (by omega)
    obtain ⟨b, off, rfl, hc2⟩ := plain_addr h0 h1
    refine ⟨b, off, rfl, ?_⟩
    obtain ⟨bb, e2, -⟩ := DataW.trod_bool he h2
    simp at e2
    simp only [hc2, e2]

theorem open_topo {H : Type} {enc : TypeId × Value → H} {P : Program} {W : World} {t : TypeId} {f0 f1 f2 f3 : Field} {e2 e3 q3 : TypeId} {v : Value} {d : DataW H} {p : List MemPlace}
    (he : P.underlying t = some (.struct #[f0, f1, f2, f3])) (ce : P.cellsOf t = 4) (o0 : f0.offset = 0) (o1 : f1.offset = 1) (o2 : f2.offset = 2) (o3 : f3.offset = 3)
    (c0 : P.cellsOf f0.type = 1) (c1 : P.cellsOf f1.type = 1) (c2 : P.cellsOf f2.type = 1) (c3 : P.cellsOf f3.type = 1)
    (u0 : P.underlying f0.type = some (.int .i64)) (u1 : P.underlying f1.type = some (.int .i64)) (u2 : P.underlying f2.type = some (.slice e2)) (u3 : P.underlying f3.type = some (.slice e3))
    (v2 : P.underlying e2 = some (.int .i64)) (k2 : P.cellsOf e2 = 1) (v3 : P.underlying e3 = some (.slice q3)) (k3 : P.cellsOf e3 = 1) (x3 : P.underlying q3 = some (.int .i64)) (l3 : P.cellsOf q3 = 1)
    (h : DataW.Trod enc P W 0 (fun _ => true) true t v d p) :
    ∃ n fr cA cL cC cz dA dL dC L Z, v = tval n fr cA cL cC dA dL dC ∧ cL ≤ cC ∧ dL ≤ dC ∧ (Lit.int .i64 n).wf = true ∧ (Lit.int .i64 fr).wf = true ∧ At W cA cL cz dA dL L Z := by
  obtain ⟨fuel, cs, rfl, hsz, hf⟩ := open_agg he ce (by omega) h
  obtain ⟨cl⟩ := cs
  match cl, hsz with
  | [x, y, z, u], _ =>
    obtain ⟨y0, h0⟩ := hf 0 f0 rfl
    obtain ⟨y1, h1⟩ := hf 1 f1 rfl
    obtain ⟨y2, h2⟩ := hf 2 f2 rfl
    obtain ⟨y3, h3⟩ := hf 3 f3 rfl
    rw [o0, c0] at h0
    rw [o1, c1] at h1
    rw [o2, c2] at h2
    rw [o3, c3] at h3
    obtain ⟨a, ha, -, wa⟩ := DataW.trod_int u0 h0
    obtain ⟨b, hb, -, wb⟩ := DataW.trod_int u1 h1
    simp at ha hb
    subst ha hb
    obtain ⟨g2, T2⟩ := slice_form u2 (show DataW.trod enc P W 0 (fun _ => true) true fuel f2.type [z] = some y2 from h2)
    obtain ⟨g3, T3⟩ := slice_form u3 (show DataW.trod enc P W 0 (fun _ => true) true fuel f3.type [u] = some y3 from h3)
    obtain ⟨cA, cL, cC, cz, rfl, hc1, hc2, -, hI⟩ := open_list u2 v2 k2 g2 T2
    obtain ⟨dA, dL, dC, L, Z, rfl, hd1, hd2, hR⟩ := open_rows u3 v3 x3 k3 l3 g3 T3
    exact ⟨a, b, cA, cL, cC, cz, dA, dL, dC, L, Z, rfl, hc1, hd1, wa, wb, by omega, by omega, hI, hR⟩

/-- Two numbers and a list of yes and no. -/
theorem open_ask {H : Type} {enc : TypeId × Value → H} {P : Program} {W : World} {t : TypeId} {f0 f1 f2 : Field} {e2 : TypeId} {v : Value} {d : DataW H} {p : List MemPlace}
    (he : P.underlying t = some (.struct #[f0, f1, f2])) (ce : P.cellsOf t = 3) (o0 : f0.offset = 0) (o1 : f1.offset = 1) (o2 : f2.offset = 2)
    (c0 : P.cellsOf f0.type = 1) (c1 : P.cellsOf f1.type = 1) (c2 : P.cellsOf f2.type = 1)
    (u0 : P.underlying f0.type = some (.int .i64)) (u1 : P.underlying f1.type = some (.int .i64)) (u2 : P.underlying f2.type = some (.slice e2)) (v2 : P.underlying e2 = some .bool) (k2 : P.cellsOf e2 = 1)
    (h : DataW.Trod enc P W 0 (fun _ => true) true t v d p) :
    ∃ a b mA mL mC mz, v = .agg #[.int .i64 a, .int .i64 b, .slice mA mL mC] ∧ mL ≤ mC ∧ mC ≤ maxLen ∧ (mA = none → mC = 0) ∧ (Lit.int .i64 a).wf = true ∧ (Lit.int .i64 b).wf = true ∧ IsBools W mA mL mz := by
  obtain ⟨fuel, cs, rfl, hsz, hf⟩ := open_agg he ce (by omega) h
  obtain ⟨cl⟩ := cs
  match cl, hsz with
  | [x, y, z], _ =>
    obtain ⟨y0, h0⟩ := hf 0 f0 rfl
    obtain ⟨y1, h1⟩ := hf 1 f1 rfl
    obtain ⟨y2, h2⟩ := hf 2 f2 rfl
    rw [o0, c0] at h0
    rw [o1, c1] at h1
    rw [o2, c2] at h2
    obtain ⟨a, ha, -, wa⟩ := DataW.trod_int u0 h0
    obtain ⟨b, hb, -, wb⟩ := DataW.trod_int u1 h1
    simp at ha hb
    subst ha hb
    obtain ⟨g2, T2⟩ := slice_form u2 (show DataW.trod enc P W 0 (fun _ => true) true fuel f2.type [z] = some y2 from h2)
    obtain ⟨mA, mL, mC, mz, rfl, h1, h2, h3, hB⟩ := open_bools u2 v2 k2 g2 T2
    exact ⟨a, b, mA, mL, mC, mz, rfl, h1, h2, h3, wa, wb, hB⟩
end Go.Proofs.Ytnokpecdkibddac
