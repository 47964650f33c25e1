
/-
  No statement of the program: append as a step of a region that draws; x[l:] and x[:h] of rows whose elements have several cells.
-/
import Derived.Test.YtpljldjdemobbaaDoorHeap3
import Derived.Maps.AppendAt
import Derived.Deep.RegionLaw
namespace Go.Proofs.YtpljldjdemobbaaDoor.By
open Go.ChangeShapes Go.WideShapes Go.ChangeAt Go.RowKit
/-- append onto a row of the call's own, as one step of a region that draws. -/
theorem step_append_own {P : Program} {ops : Array Oper} {o : Oper} {a : Act} {w : World} {K : Act → World → Prop} {Q : Exit → Act → World → Prop} {E : Prop} (hgd : o.guard = none) (s x : Operand) (t : TypeId)
    (ho : o.op = .call { callee := .builtin .append, args := #[s, x], argTypes := #[t, t] })
    (base : Nat) (e : TypeId) (i : TypeInfo) (z : Value) (size bytes : Nat) (ht : P.underlying t = some (.slice e)) (hi : P.info? e = some i) (hz : i.zero = some z)
    (hsize : i.size = size) (hby : i.bytes = bytes) (hzs : z.cells.size = size) (hsz : 0 < size)
    (v : Value) (n : Nat) (xs : List Value) (hs : a.eval s = v) (hown : w.ownsRow base e size v n xs)
    (ad : Addr) (m c : Nat) (news : List Value) (hx : a.eval x = .slice (some ad) m c) (hl : news.length = m * size) (hnews : ∀ j u, news[j]? = some u → w.cell? (ad.add j) = some u) (h1 : ∀ u ∈ news, u.oneCell' = true)
    (h63 : n + m ≤ maxLen) (hbytes : (n + m) * bytes ≤ 140737488355328) (hbase : base ≤ w.heap.size)
    (h : ∀ v' w', w'.ownsRow base e size v' (n + m) (xs ++ news) → w.grownBy w' v.ownBlock → (v'.ownBlock = v.ownBlock ∨ v'.ownBlock = some w.heap.size) → (v ≠ .slice none 0 0 → v' ≠ .slice none 0 0) → K (a.put o.dst v') w') :
    if Region.wanted o (yielded ops a.tmps) = true then Oper.wp P o a w K Q else E := by
  have hw : Region.wanted o (yielded ops a.tmps) = true := by simp [Region.wanted, hgd]
  rw [if_pos hw]
  obtain ⟨v', w', hrun, r1, r2, r3, r4⟩ := run_append_own_at (P := P) w base t o.type e i z size bytes ht hi hz hsize hby hzs hsz v n xs hown ad m c news hl hnews h1 h63 hbytes hbase
  unfold Oper.wp
  simp [execOp, ho, resolve, invoke, builtin, hs, hx, hrun, Result.andThen]
  exact h v' w' r1 r2 r4 (fun hv hv' => hv (r3.1 hv').1)
/-- x[l:] of a slice whose elements have s cells. -/
theorem run_cutS {P : Program} {t e : TypeId} (ht : P.underlying t = some (.slice e)) {z : Option Value} {by_ s : Nat} (hi : (P.info? e).map (fun i => (i.zero, i.size, i.bytes)) = some (z, s, by_))
    (a : Option Addr) (len cap : Nat) (k' : IntKind) {j : Int} (h : Nat) (ej : j = h) (hh : h ≤ len) (w : World) :
    (Instr.slice t (.slice a len cap) (some (.int k' j)) none none).run P w = .ok (.slice (if cap = h then a else a.map (·.add (h * s))) (len - h) (cap - h)) w := by
  obtain ⟨ti, hti, hz⟩ := Option.map_eq_some_iff.1 hi
  simp only [Prod.mk.injEq] at hz
  subst ej
  have b1 : (Instr.sliceBounds true len cap (some (.int k' (h : Int))) none none).run P w = .ok (h, len, cap) w := by
    simp [Instr.sliceBounds, run_sliceBound, hh]
  simp [Instr.slice, run_underlying ht, b1, sizeOf, typeInfo, hti, hz.2.1]
theorem run_cutS0 {P : Program} {t e : TypeId} (ht : P.underlying t = some (.slice e)) {z : Option Value} {by_ s : Nat} (hi : (P.info? e).map (fun i => (i.zero, i.size, i.bytes)) = some (z, s, by_))
    (a : Option Addr) (len cap : Nat) (k' : IntKind) {j : Int} (h : Nat) (ej : j = h) (hh : h ≤ cap) (w : World) :
    (Instr.slice t (.slice a len cap) none (some (.int k' j)) none).run P w = .ok (.slice a h cap) w := by
  obtain ⟨ti, hti, hz⟩ := Option.map_eq_some_iff.1 hi
  simp only [Prod.mk.injEq] at hz
  subst ej
  have b1 : (Instr.sliceBounds true len cap none (some (.int k' (h : Int))) none).run P w = .ok (0, h, cap) w := by
    simp [Instr.sliceBounds, run_sliceBound, hh]
  have e0 : (fun x : Addr => x.add 0) = id := by funext x; simp [Addr.add]
  simp [Instr.slice, run_underlying ht, b1, sizeOf, typeInfo, hti, e0]
end Go.Proofs.YtpljldjdemobbaaDoor.By
