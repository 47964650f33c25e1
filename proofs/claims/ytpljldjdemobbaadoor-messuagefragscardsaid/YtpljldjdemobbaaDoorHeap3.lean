
/-
  No statement of the program: 'append(xs, ys...)' and 'x[:h]' whatever ys and x, nil ones among them; lists of numbers opened with their room.
-/
import Derived.Test.YtpljldjdemobbaaDoorHeap2
import Derived.Laws.AppendOwnNone
import Derived.Lib.MinMax
namespace Go.Proofs.YtpljldjdemobbaaDoor
open Go.ChangeShapes Go.WideShapes Go.ChangeAt Go.RowKit

theorem wpList_append_any {P : Program} {w : World} {ops : Array Oper} {rest : List Oper} {o : Oper} {a : Act} {Q : Exit → Act → World → Prop} (hgd : o.guard = none) (s x : Operand) (t : TypeId)
    (ho : o.op = .call { callee := .builtin .append, args := #[s, x], argTypes := #[t, t] })
    (base : Nat) (e : TypeId) (i : TypeInfo) (z : Value) (bytes : Nat) (ht : P.underlying t = some (.slice e)) (hi : P.info? e = some i) (hz : i.zero = some z)
    (hsize : i.size = 1) (hby : i.bytes = bytes) (hzs : z.cells.size = 1)
    (v : Value) (n : Nat) (xs : List Value) (hs : a.eval s = v) (hown : w.ownsRow base e 1 v n xs)
    (ao : Option Addr) (m c : Nat) (news : List Value) (hx : a.eval x = .slice ao m c) (hl : news.length = m) (hnil : ao = none → m = 0 ∧ c = 0) (hnews : ∀ j u, news[j]? = some u → ∃ ad, ao = some ad ∧ w.cell? (ad.add j) = some u) (h1 : ∀ u ∈ news, u.oneCell' = true)
    (h63 : n + m ≤ maxLen) (hbytes : (n + m) * bytes ≤ 140737488355328) (hbase : base ≤ w.heap.size)
    (h : ∀ v' w', w'.ownsRow base e 1 v' (n + m) (xs ++ news) → w.grownBy w' v.ownBlock → wpList P ops Q rest (a.put o.dst v') w') : wpList P ops Q (o :: rest) a w := by
  cases ao with
  | none =>
    obtain ⟨rfl, rfl⟩ := hnil rfl
    have : news = [] := List.length_eq_zero_iff.1 hl
    subst this
    refine wpList_append_own_none hgd s x t ho base e i 1 ht hi v n xs hs hown hx ?_
    exact h v w (by simpa using hown) ⟨rfl, rfl, rfl, Nat.le_refl _, fun _ _ _ => rfl⟩
  | some ad =>
    refine wpList_append_own w hgd s x t ho base e i z 1 bytes ht hi hz hsize hby hzs (by decide) v n xs hs hown ad m c news hx (by simpa using hl) ?_ h1 h63 hbytes hbase (fun v' w' h2 h3 _ => h v' w' h2 h3)
    intro j u hu
    obtain ⟨ad', h2, h3⟩ := hnews j u hu
    obtain rfl := Option.some.inj h2
    exact h3

/-- x[:h] of a slice. -/
theorem run_cut0 {P : Program} {t e : TypeId} (ht : P.underlying t = some (.slice e)) {z : Option Value} {by_ : Nat} (hi : (P.info? e).map (fun i => (i.zero, i.size, i.bytes)) = some (z, 1, by_))
    (a : Option Addr) (len cap : Nat) (k' : IntKind) {j : Int} (h : Nat) (ej : j = h) (hh : h ≤ cap) (w : World) :
    (Instr.slice t (.slice a len cap) none (some (.int k' j)) none).run P w = .ok (.slice a h cap) w := by
  obtain ⟨ti, hti, hz⟩ := Option.map_eq_some_iff.1 hi
  simp only [Prod.mk.injEq] at hz
  subst ej
  have b1 : (Instr.sliceBounds true len cap none (some (.int k' (h : Int))) none).run P w = .ok (0, h, cap) w := by
    simp [Instr.sliceBounds, run_sliceBound, hh]
  have e0 : (fun x : Addr => x.add 0) = id := by funext x; simp [Addr.add]
  simp [Instr.slice, run_underlying ht, b1, sizeOf, typeInfo, hti, e0]

theorem open_list {H : Type} {enc : TypeId × Value → H} {P : Program} {W : World} {t e : TypeId} {k : IntKind} {v : Value} {d : DataW H} {p : List MemPlace}
    (ht : P.underlying t = some (.slice e)) (he : P.underlying e = some (.int k)) (hc : P.cellsOf e = 1) (hv : ∃ a len cap, v = .slice a len cap)
    (h : DataW.Trod enc P W 0 (fun _ => true) true t v d p) : ∃ a len cap zs, v = .slice a len cap ∧ len ≤ cap ∧ cap ≤ maxLen ∧ (a = none → cap = 0) ∧ IsInts k W a len zs := by
  obtain ⟨a, len, cap, rfl⟩ := hv
  obtain ⟨fuel, hf⟩ := h
  rcases open_ints ht he hc hf with ⟨hcs, _⟩ | ⟨x, l, c, zs, hcs, _, hl, hm, hz, _, hcell, hws⟩
  · simp [Value.cells] at hcs
    obtain ⟨rfl, rfl, rfl⟩ := hcs
    exact ⟨none, 0, 0, fun _ => 0, rfl, Nat.le_refl _, Nat.zero_le _, fun _ => rfl, fun i hi => absurd hi (Nat.not_lt_zero _)⟩
  · simp [Value.cells] at hcs
    obtain ⟨rfl, rfl, rfl⟩ := hcs
    refine ⟨some x, len, cap, fun i => zs.getD i 0, rfl, hl, hm, (fun h => by cases h), fun i hi => ?_⟩
    have hi2 : i < zs.length := by simp at hz; omega
    obtain ⟨b, off, rfl, hc2⟩ := plain_addr (hcell 0 (by omega)) (hcell i hi2)
    refine ⟨b, off, rfl, hc2, ?_⟩
    have : zs.getD i 0 ∈ zs := by rw [List.getD_eq_getElem?_getD, List.getElem?_eq_getElem hi2]; exact List.getElem_mem hi2
    exact hws _ this
theorem IsInts.news {k : IntKind} {w : World} {ao : Option Addr} {len n : Nat} {z : Nat → Int} (h : IsInts k w ao len z) (hn : n ≤ len) : ∀ j u, ((List.range n).map (fun i => Value.int k (z i)))[j]? = some u → ∃ ad, ao = some ad ∧ w.cell? (ad.add j) = some u := by
  intro j u hu
  have hj : j < n := by simpa using getElem?_lt hu
  obtain ⟨b, off, rfl, hc, -⟩ := h j (by omega)
  refine ⟨_, rfl, ?_⟩
  rw [add_plain, hc]
  simpa [hj] using hu
end Go.Proofs.YtpljldjdemobbaaDoor
