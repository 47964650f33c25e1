/-
  No statement of the program: a row of acts of three numbers among the arguments, over this seat's translation.
-/
import Derived.Test.YtkhcopnklfmgcaaDoorStructs
import Derived.Test.YtkhcopnklfmgcaaDoorHeap2
import Derived.Test.YtkhcopnklfmgcaaDoorProg
namespace Go.Proofs.YtkhcopnklfmgcaaDoor.By
open Go.ChangeShapes Go.WideShapes Go.ChangeAt Go.RowKit
/-- A row of acts of three numbers each. -/
def IsActs (w : World) (a : Option Addr) (len : Nat) : Prop :=
  ∀ i, i < len → ∃ (b off : Nat) (x y z : Int), a = some ⟨b, off, none⟩ ∧ w.cell? ⟨b, off + i * 3, none⟩ = some (.int .i64 x) ∧ w.cell? ⟨b, off + i * 3 + 1, none⟩ = some (.int .i64 y) ∧ w.cell? ⟨b, off + i * 3 + 2, none⟩ = some (.int .i64 z)
theorem IsActs.kept {w w' : World} {a : Option Addr} {len : Nat} (h : IsActs w a len) (k : Kept [] w w') : IsActs w' a len := fun i hi => by
  obtain ⟨b, off, x, y, z, rfl, h1, h2, h3⟩ := h i hi
  exact ⟨b, off, x, y, z, rfl, k.cell h1 (by simp), k.cell h2 (by simp), k.cell h3 (by simp)⟩
theorem list3 {α : Type} : ∀ (cs : List α), cs.length = 3 → ∃ a b c, cs = [a, b, c]
  | [a, b, c], _ => ⟨a, b, c, rfl⟩
theorem open_acts {H : Type} {enc : TypeId × Value → H} {W : World} {v : Value} {d : DataW H} {p : List MemPlace} (hv : ∃ a len cap, v = .slice a len cap)
    (h : DataW.Trod enc Tryd.prog W 0 (fun _ => true) true 22 v d p) : ∃ a len cap, v = .slice a len cap ∧ len ≤ maxLen ∧ IsActs W a len := by
  obtain ⟨fs, hfs, ho⟩ : ∃ fs : Array Field, Tryd.prog.underlying 39 = some (.struct fs) ∧ fs.map (fun f => (f.type, f.offset)) = #[(3, 0), (3, 1), (3, 2)] := ⟨_, Tryd.underlying39, by simp⟩
  obtain ⟨a, len, cap, rfl, hl, hi⟩ := open_structs (kc := 3) Tryd.underlying22 hfs (by kernel_rfl) (by decide) hv h
  refine ⟨a, len, cap, rfl, hl, fun i hlt => ?_⟩
  obtain ⟨b, off, rfl, fuel, cs, hcl, hcell, hf⟩ := hi i hlt
  have hc3 : Tryd.prog.cellsOf 3 = 1 := by kernel_rfl
  obtain ⟨u0, u1, u2, rfl⟩ := list3 cs hcl
  have fld : ∀ (q : Nat) (t o : Nat), (fs.map (fun f => (f.type, f.offset)))[q]? = some (t, o) → ∃ y, DataW.trod enc Tryd.prog W 0 (fun _ => true) true fuel t (([u0, u1, u2].drop o).take (Tryd.prog.cellsOf t)) = some y := by
    intro q t o hq
    rw [Array.getElem?_map] at hq
    obtain ⟨fd, h1, h2⟩ := Option.map_eq_some_iff.1 hq
    obtain ⟨y, hy⟩ := hf q fd h1
    simp only [Prod.mk.injEq] at h2
    rw [← h2.1, ← h2.2]
    exact ⟨y, hy⟩
  rw [ho] at fld
  have int1 : ∀ (q o : Nat) (u : Value), (#[(3, 0), (3, 1), (3, 2)] : Array (Nat × Nat))[q]? = some (3, o) → ([u0, u1, u2].drop o).take 1 = [u] → ∃ z, u = .int .i64 z := by
    intro q o u hq hu
    obtain ⟨y, hy⟩ := fld q 3 o hq
    rw [hc3, hu] at hy
    obtain ⟨z, hz, -, -⟩ := DataW.trod_int Tryd.underlying3 hy
    exact ⟨z, by simpa using hz⟩
  obtain ⟨x, rfl⟩ := int1 0 0 u0 rfl rfl
  obtain ⟨y, rfl⟩ := int1 1 1 u1 rfl rfl
  obtain ⟨z, rfl⟩ := int1 2 2 u2 rfl rfl
  exact ⟨b, off, x, y, z, rfl, hcell 0 _ rfl, hcell 1 _ rfl, hcell 2 _ rfl⟩
end Go.Proofs.YtkhcopnklfmgcaaDoor.By
