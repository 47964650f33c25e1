
/-
  No statement of the program: a row of acts of a yes or no and two numbers among the arguments; arrays of eleven numbers are the same; what a pair of buddies gives, over this seat's translation.
-/
import Derived.Test.YtpljldjdemobbaaDoorFrg4
import Derived.Test.YtpljldjdemobbaaDoorStructs
namespace Go.Proofs.YtpljldjdemobbaaDoor.By
open Go.ChangeShapes Go.WideShapes Go.ChangeAt Go.RowKit
theorem eqA11 (C D : Array Value) (T : Nat → Nat) (hC : C = ordC T) (hD : D = ordC T) (w : World) : (Op.equalIn 10000 28 (.agg C) (.agg D)).run Tryd.prog w = .ok true w := by
  subst hC hD
  rw [Op.equalIn]
  simp only [Sem.run_bind, run_underlying Tryd.underlying28, Result.andThen_ok]
  have hp : ∀ (k : Nat), k < 11 → ∀ w : World, (part 3 (ordC T) k).run Tryd.prog w = .ok (.int .i64 (T k : Nat)) w := fun k hk w => by simp [part, Tryd.isAgg3, ordC_get T k hk]
  simp only [Tryd.sizeOf3, Result.andThen_ok]
  rw [Std.Legacy.Range.forIn_eq_forIn_range']
  simp [List.range', hp, eq3]
theorem Twin.parts {w wr : World} {p K r : Nat} (h : Twin w wr p K r) : ∃ (ub base : Nat) (u : Nat → Bool) (tk : Nat → Nat) (F : List Nat) (tv : Value) (t : List (Nat × Nat)), BS wr p K u tk (cnt (2 ^ K) u) F ∧ RB wr r ub (2 ^ K) base u tv t ∧ (∀ i, 2 ^ K ≤ i → u i = true) ∧ Kept [] w wr := by
  obtain ⟨ub, base, u, tk, F, tv, t, -, h⟩ := h
  exact ⟨ub, base, u, tk, F, tv, t, h.bs, h.rb, h.bs.out, h.kept⟩
theorem list3 {α : Type} : ∀ (cs : List α), cs.length = 3 → ∃ a b c, cs = [a, b, c]
  | [a, b, c], _ => ⟨a, b, c, rfl⟩
theorem open_facts {H : Type} {enc : TypeId × Value → H} {W : World} {v : Value} {d : DataW H} {p : List MemPlace} (hv : ∃ a len cap, v = .slice a len cap)
    (h : DataW.Trod enc Tryd.prog W 0 (fun _ => true) true 22 v d p) : ∃ a len cap, v = .slice a len cap ∧ len ≤ maxLen ∧ IsFActs W a len := by
  obtain ⟨fs, hfs, ho⟩ : ∃ fs : Array Field, Tryd.prog.underlying 55 = some (.struct fs) ∧ fs.map (fun f => (f.type, f.offset)) = #[(4, 0), (3, 1), (3, 2)] := ⟨_, Tryd.underlying55, by simp⟩
  obtain ⟨a, len, cap, rfl, hl, hi⟩ := open_structs (kc := 3) Tryd.underlying22 hfs (by kernel_rfl) (by decide) hv h
  refine ⟨a, len, cap, rfl, hl, fun i hlt => ?_⟩
  obtain ⟨b, off, rfl, fuel, cs, hcl, hcell, hf⟩ := hi i hlt
  have hc3 : Tryd.prog.cellsOf 3 = 1 := by kernel_rfl
  have hc4 : Tryd.prog.cellsOf 4 = 1 := by kernel_rfl
  obtain ⟨u0, u1, u2, rfl⟩ := list3 cs hcl
  have fld : ∀ (q : Nat) (t o : Nat), (fs.map (fun f => (f.type, f.offset)))[q]? = some (t, o) → ∃ y, DataW.trod enc Tryd.prog W 0 (fun _ => true) true fuel t (([u0, u1, u2].drop o).take (Tryd.prog.cellsOf t)) = some y := by
    intro q t o hq
    rw [Array.getElem?_map] at hq
    obtain ⟨fd, h1, h2⟩ := Option.map_eq_some_iff.1 hq
    obtain ⟨y, hy⟩ := hf q fd h1
    simp only [Prod.mk.injEq] at h2
    rw [← h2.1, ← h2.2]
    exact ⟨y, hy⟩
  rw [ho] at fld
  have int1 : ∀ (q o : Nat) (u : Value), (#[(4, 0), (3, 1), (3, 2)] : Array (Nat × Nat))[q]? = some (3, o) → ([u0, u1, u2].drop o).take 1 = [u] → ∃ z, u = .int .i64 z := by
    intro q o u hq hu
    obtain ⟨y, hy⟩ := fld q 3 o hq
    rw [hc3, hu] at hy
    obtain ⟨z, hz, -, -⟩ := DataW.trod_int Tryd.underlying3 hy
    exact ⟨z, by simpa using hz⟩
  obtain ⟨g, rfl⟩ : ∃ g, u0 = .bool g := by
    obtain ⟨y, hy⟩ := fld 0 4 0 rfl
    rw [hc4, show ([u0, u1, u2].drop 0).take 1 = [u0] from rfl] at hy
    obtain ⟨z, hz, -⟩ := DataW.trod_bool Tryd.underlying4 hy
    exact ⟨z, by simpa using hz⟩
  obtain ⟨y, rfl⟩ := int1 1 1 u1 rfl rfl
  obtain ⟨z, rfl⟩ := int1 2 2 u2 rfl rfl
  exact ⟨b, off, g, y, z, rfl, hcell 0 _ rfl, hcell 1 _ rfl, hcell 2 _ rfl⟩
end Go.Proofs.YtpljldjdemobbaaDoor.By
