/-
  No statement of the program: the table of package class that the rows list lies in its variable, cell by cell.
-/
import Derived.Test.YtdgmfcnblaamcabDoorHeap3
import Derived.Test.YtdgmfcnblaamcabDoorLift
import Derived.Test.YtdgmfcnblaamcabDoorRows
import Derived.Lib.LaidTab
import Derived.Deep.RegionHeld3
namespace Go.Proofs.YtdgmfcnblaamcabDoor.Cl
open Go.RowKit
theorem cell_of_rows {H : Type} {enc : TypeId × Value → H} {P : Program} {w : World} {base : Nat} {sp : Nat → Bool} {held : Bool} {fuel : Nat} {t e : TypeId} {n : Nat} {cs : List Value} {ds : List (DataW H)} {p : List MemPlace} {f0 f1 f2 : Field}
    (ht : P.underlying t = some (.array n e)) (he : P.underlying e = some (.struct #[f0, f1, f2])) (ce : P.cellsOf e = 3) (o0 : f0.offset = 0) (o1 : f1.offset = 1) (o2 : f2.offset = 2)
    (c0 : P.cellsOf f0.type = 1) (c1 : P.cellsOf f1.type = 1) (c2 : P.cellsOf f2.type = 1)
    (u0 : P.underlying f0.type = some (.int .i64)) (u1 : P.underlying f1.type = some (.int .i64)) (u2 : P.underlying f2.type = some (.int .i64))
    (h : DataW.trod enc P w base sp held fuel t cs = some (.agg ds, p)) (i : Nat) (hi : i < n) (a b c : Int)
    (hd : ds[i]? = some (.agg [.lit (.int .i64 a), .lit (.int .i64 b), .lit (.int .i64 c)])) :
    cs[i * 3]? = some (.int .i64 a) ∧ cs[i * 3 + 1]? = some (.int .i64 b) ∧ cs[i * 3 + 2]? = some (.int .i64 c) := by
  cases fuel with
  | zero => simp [DataW.trod] at h
  | succ fuel =>
    simp only [DataW.trod, ht, ce] at h
    split at h
    · obtain ⟨xs, hm, hx⟩ := Option.map_eq_some_iff.1 h
      have hxs : xs.map (·.1) = ds := by
        have := congrArg Prod.fst hx
        simpa using this
      obtain ⟨y, hy, hf⟩ := Lib.mapM_at hm i i (by simp [hi])
      have hy1 : y.1 = .agg [.lit (.int .i64 a), .lit (.int .i64 b), .lit (.int .i64 c)] := by
        rw [← hxs] at hd
        simpa [hy] using hd
      obtain ⟨zs, k, _, hz, hl, hzl, hfl⟩ := DataW.trod_struct he hf
      match zs, hzl with
      | [z0, z1, z2], _ =>
        have g0 := hfl 0 f0 rfl
        have g1 := hfl 1 f1 rfl
        have g2 := hfl 2 f2 rfl
        rw [o0, c0] at g0
        rw [o1, c1] at g1
        rw [o2, c2] at g2
        simp only [List.getElem?_cons_zero, List.getElem?_cons_succ] at g0 g1 g2
        rw [hz] at hy1
        simp at hy1
        obtain ⟨e0, e1, e2⟩ := hy1
        obtain ⟨x0, q0, r0, -⟩ := DataW.trod_int u0 g0
        obtain ⟨x1, q1, r1, -⟩ := DataW.trod_int u1 g1
        obtain ⟨x2, q2, r2, -⟩ := DataW.trod_int u2 g2
        rw [r0] at e0
        rw [r1] at e1
        rw [r2] at e2
        simp at e0 e1 e2
        subst e0 e1 e2
        refine ⟨?_, ?_, ?_⟩
        · have := congrArg (·[0]?) q0
          simpa [List.getElem?_take, List.getElem?_drop] using this
        · have := congrArg (·[0]?) q1
          simpa [List.getElem?_take, List.getElem?_drop] using this
        · have := congrArg (·[0]?) q2
          simpa [List.getElem?_take, List.getElem?_drop] using this
    · cases h

def rowsL : List Int := [8, 0, 8, 16, 0, 4, 32, 1, 4, 64, 2, 4]
def Tab (w : World) : Prop := ∀ j, j < 12 → w.cell? ⟨0, j, none⟩ = some (.int .i64 (rowsL.getD j 0))
theorem Tab.kept {w w' : World} {F : List Nat} (h : Tab w) (k : Kept F w w') (hF : 0 ∉ F) : Tab w' := fun j hj => k.cell (h j hj) hF
theorem Tab.kept0 {w w' : World} (h : Tab w) (k : Kept [] w w') : Tab w' := h.kept k (by simp)
theorem Tab.lt {w : World} (h : Tab w) : 0 < w.heap.size := by
  have := h 0 (by decide)
  by_cases hs : 0 < w.heap.size
  · exact hs
  · have e : w.heap = #[] := Array.size_eq_zero_iff.1 (by omega)
    simp [World.cell?, e] at this
theorem tab_of_laid {W : World} (h : laidMetH Tryd.prog [("messuage/class.rows", Rows.laid_messuage_class_rows)] W) : Tab W := by
  have h0 : laidMet Tryd.prog [("messuage/class.rows", Rows.laid_messuage_class_rows)] W := h
  obtain ⟨ps, ⟨g', t', cs, fuel, p, q, hg', ht', hvar, hd, _, _⟩, _⟩ := h0
  obtain rfl : g' = 0 := (Option.some.inj ((show Tryd.prog.globalNamed "messuage/class.rows" = some 0 by kernel_rfl).symm.trans hg')).symm
  obtain rfl : t' = 86 := (Option.some.inj ((show (Tryd.prog.globals[0]?).map (·.type) = some 86 by kernel_rfl).symm.trans ht')).symm
  have hc : ∀ j v, cs.toList[j]? = some v → W.cell? ⟨0, j, none⟩ = some v := fun j v hv => by
    have := World.var?_cell (show Tryd.prog.globalNamed "messuage/class.rows" = some 0 by kernel_rfl) hvar j
    rw [this]
    simpa using hv
  have key := fun i hi a b c hh => cell_of_rows (i := i) (a := a) (b := b) (c := c) Tryd.underlying86 Tryd.underlying85 (by kernel_rfl) rfl rfl rfl (by kernel_rfl) (by kernel_rfl) (by kernel_rfl) (by kernel_rfl) (by kernel_rfl) (by kernel_rfl) hd hi hh
  have k0 := key 0 (by decide) _ _ _ rfl
  have k1 := key 1 (by decide) _ _ _ rfl
  have k2 := key 2 (by decide) _ _ _ rfl
  have k3 := key 3 (by decide) _ _ _ rfl
  intro j hj
  apply hc
  match j, hj with
  | 0, _ => exact k0.1
  | 1, _ => exact k0.2.1
  | 2, _ => exact k0.2.2
  | 3, _ => exact k1.1
  | 4, _ => exact k1.2.1
  | 5, _ => exact k1.2.2
  | 6, _ => exact k2.1
  | 7, _ => exact k2.2.1
  | 8, _ => exact k2.2.2
  | 9, _ => exact k3.1
  | 10, _ => exact k3.2.1
  | 11, _ => exact k3.2.2
end Go.Proofs.YtdgmfcnblaamcabDoor.Cl
