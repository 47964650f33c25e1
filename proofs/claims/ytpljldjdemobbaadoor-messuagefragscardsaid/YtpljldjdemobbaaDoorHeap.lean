
/-
  No statement of the program: small lemmas on memory, used by the walks. 'Kept L w w'': every block that w has, but those of the list L, is in w' as it was.
-/
import Derived.WalkKit
import Derived.WalkSpells
import Derived.WalkLawsBesides
import Derived.Handy
import Derived.Deep.OwnRows
import Derived.Deep.QuietTactic
import Derived.BigQuiet
import Derived.Deep.RegionWith
namespace Go.Proofs.YtpljldjdemobbaaDoor
open Go.RowKit

theorem ret_bool {a b : Bool} (h : a = b) : Ending.returned (.bool a) = .returned (.bool b) := by rw [h]
theorem ret_int {k : IntKind} {a b : Int} (h : a = b) : Ending.returned (.int k a) = .returned (.int k b) := by rw [h]

theorem ba_ne {a b : ByteArray} (h : ¬ a = b) : (a.toList == b.toList) = false := by
  rw [beq_eq_false_iff_ne]
  intro e
  rw [ByteArray.toList_eq, ByteArray.toList_eq] at e
  have e2 : a.data = b.data := by simpa using e
  apply h
  cases a; cases b; simp_all
theorem hide {p : Prop} (h : p) : Hid p := h
theorem unhide {p : Prop} (h : Hid p) : p := h

structure Kept (L : List Nat) (w w' : World) : Prop where
  os : w'.os = w.os
  tape : w'.tape = w.tape
  output : w'.output = w.output
  size : w.heap.size ≤ w'.heap.size
  block : ∀ k, k < w.heap.size → k ∉ L → w'.heap[k]? = w.heap[k]?

namespace Kept
variable {L M : List Nat} {a b c w w' : World}

theorem refl (L : List Nat) (w : World) : Kept L w w := ⟨rfl, rfl, rfl, Nat.le_refl _, fun _ _ _ => rfl⟩
theorem trans (h : Kept L a b) (k : Kept M b c) (hM : ∀ x, x ∈ M → x < a.heap.size → x ∈ L) : Kept L a c :=
  ⟨k.os.trans h.os, k.tape.trans h.tape, k.output.trans h.output, Nat.le_trans h.size k.size,
    fun i hi hn => (k.block i (Nat.lt_of_lt_of_le hi h.size) (fun hm => hn (hM i hm hi))).trans (h.block i hi hn)⟩
theorem mono (h : Kept L a b) (hM : ∀ x, x ∈ L → x < a.heap.size → x ∈ M) : Kept M a b := (Kept.refl M a).trans h hM
theorem next (h : Kept L a b) (k : Kept [] b c) : Kept L a c := h.trans k (fun _ hx => by simp at hx)
theorem drew (h : Kept L a w) : Kept L a w.drew := ⟨h.os, h.tape, h.output, h.size, h.block⟩
theorem drewN (h : Kept L a w) (n : Nat) : Kept L a (w.drewN n) := ⟨h.os, h.tape, h.output, h.size, h.block⟩
theorem alloc (h : Kept L a w) (o : Obj) : Kept L a (w.alloc o) :=
  h.next ⟨rfl, rfl, rfl, by simp, fun k hk _ => Below.heap_alloc w o k hk⟩
theorem setCell (h : Kept L a w) {p : Addr} (hp : p.block < a.heap.size → p.block ∈ L) (v : Value) : Kept L a (w.setCell p v) :=
  ⟨h.os, h.tape, h.output, by rw [World.size_setCell]; exact h.size,
    fun k hk hn => (heap_setCell_other w p k v (fun e => hn (e ▸ hp (e ▸ hk)))).trans (h.block k hk hn)⟩
theorem below (h : Kept [] w w') : Below w.heap.size w w' := ⟨h.os, h.tape, h.output, h.size, fun k hk => h.block k hk (by simp)⟩
theorem of_below (h : Below w.heap.size w w') : Kept [] w w' := ⟨h.os, h.tape, h.output, h.size, fun k hk _ => h.block k hk⟩
theorem of_grownBy {row : Option Nat} (h : w.grownBy w' row) (hr : ∀ k, row = some k → k < w.heap.size → k ∈ L) : Kept L w w' :=
  ⟨h.os, h.tape, h.output, h.size, fun k hk hn => h.block k hk (fun e => hn (hr k e.symm hk))⟩
theorem blk (h : Kept L w w') {k : Nat} {o : Obj} (hb : w.heap[k]? = some o) (hk : k ∉ L) : w'.heap[k]? = some o :=
  (h.block k (Array.getElem?_eq_some_iff.1 hb).1 hk).trans hb
theorem cell (h : Kept L w w') {p : Addr} {v : Value} (hc : w.cell? p = some v) (hp : p.block ∉ L) : w'.cell? p = some v :=
  (World.cell?_of_block (h.block p.block (World.block_lt_of_cell? w p hc) hp)).trans hc
theorem row (h : Kept L w w') {k : Nat} {t : TypeId} {n : Nat} {f : Nat → Value} (hr : w.rowIs k t n f) (hk : k ∉ L) : w'.rowIs k t n f :=
  hr.of_block (h.block k hr.lt hk)
end Kept

theorem lt_of_blk {w : World} {k : Nat} {o : Obj} (h : w.heap[k]? = some o) : k < w.heap.size := (Array.getElem?_eq_some_iff.1 h).1
theorem blk_cell {w : World} {g : Nat} {cs : Array Value} {t : TypeId} {fr : Nat × Nat} (h : w.heap[g]? = some (.cells cs t fr)) (i : Nat) {v : Value} (hv : cs[i]? = some v) :
    w.cell? ⟨g, i, none⟩ = some v := (cell_of_row w g i cs t fr h).trans hv
theorem blk_free {w : World} {g : Nat} {cs : Array Value} {t : TypeId} (h : w.heap[g]? = some (.cells cs t (0, 0))) (i : Nat) : w.frozen? ⟨g, i, none⟩ = false := frozen_of_row w g i cs t h

/-- int(uint64(x) % m), m small. -/
theorem mod_small (x m : Int) (hm : 0 < m) (h2 : m ≤ 4096) : ∃ r : Nat, (r : Int) < m ∧ wrap64 ((IntKind.u64.wrap x).tmod m) = r := by
  have h0 : 0 ≤ IntKind.u64.wrap x := by rw [IntKind.wrap_u64]; omega
  have h1 : (IntKind.u64.wrap x).tmod m = IntKind.u64.wrap x % m := Int.tmod_eq_emod_of_nonneg h0
  have h3 : 0 ≤ IntKind.u64.wrap x % m := Int.emod_nonneg _ (by omega)
  have h4 : IntKind.u64.wrap x % m < m := Int.emod_lt_of_pos _ hm
  refine ⟨(IntKind.u64.wrap x % m).toNat, by omega, ?_⟩
  rw [h1, IntWalk.wrap64_in _ ⟨by omega, by omega⟩]; omega

/-- Where a slice begins behind a cut at l. -/
def cutA (a : Option Addr) (cap l : Nat) : Option Addr := if cap = l then a else a.map (·.add l)
theorem cutA_some (x : Addr) (cap l : Nat) : ∃ y, cutA (some x) cap l = some y := by
  unfold cutA; split
  · exact ⟨x, rfl⟩
  · exact ⟨x.add l, rfl⟩
theorem cutA_lt {cap l : Nat} (h : l < cap) (a : Option Addr) : cutA a cap l = a.map (·.add l) := by unfold cutA; rw [if_neg (by omega)]
theorem add_plain (c off i : Nat) : (⟨c, off, none⟩ : Addr).add i = ⟨c, off + i, none⟩ := by
  unfold Addr.add
  by_cases hi : i = 0 <;> simp [hi]

/-- x[l:h] of a slice, where both may be. -/
theorem run_cut {P : Program} {t e : TypeId} (ht : P.underlying t = some (.slice e)) {z : Option Value} {by_ : Nat} (hi : (P.info? e).map (fun i => (i.zero, i.size, i.bytes)) = some (z, 1, by_))
    (a : Option Addr) (len cap : Nat) (k k' : IntKind) {i j : Int} (l h : Nat) (ei : i = l) (ej : j = h) (hl : l ≤ h) (hh : h ≤ cap) (w : World) :
    (Instr.slice t (.slice a len cap) (some (.int k i)) (some (.int k' j)) none).run P w = .ok (.slice (cutA a cap l) (h - l) (cap - l)) w := by
  obtain ⟨ti, hti, hz⟩ := Option.map_eq_some_iff.1 hi
  simp only [Prod.mk.injEq] at hz
  subst ei ej
  have b1 : (Instr.sliceBounds true len cap (some (.int k (l : Int))) (some (.int k' (h : Int))) none).run P w = .ok (l, h, cap) w := by
    simp [Instr.sliceBounds, run_sliceBound, hl, hh]
  simp [Instr.slice, run_underlying ht, b1, sizeOf, typeInfo, hti, hz.2.1, cutA]

/-- A row that the call made, out of what the law on append leaves. -/
theorem own_row {w : World} {base : Nat} {e : TypeId} {v : Value} {n : Nat} {f : Nat → Value} (h : w.ownsRow base e 1 v n ((List.range n).map f)) (hv : v ≠ .slice none 0 0) :
    ∃ (b cap : Nat) (h : Nat → Value), v = .slice (some ⟨b, 0, none⟩) n cap ∧ base ≤ b ∧ n ≤ cap ∧ w.rowIs b e cap h ∧ ∀ i, i < n → h i = f i := by
  rcases h.2 with ⟨rfl, _⟩ | ⟨g, cap, cur, rfl, hb, hg, hn, hm, hs, ht⟩
  · exact absurd rfl hv
  · refine ⟨g, cap, fun i => (cur[i]?).getD .nilIface, rfl, hb, hn, ⟨cur, hg, by omega, fun i hi => ?_⟩, fun i hi => ?_⟩
    · simp [Array.getElem?_eq_getElem (show i < cur.size by omega)]
    · have h2 : cur[i]? = ((List.range n).map f)[i]? := by
        rw [← ht, List.getElem?_take, if_pos (by omega)]; simp
      show (cur[i]?).getD .nilIface = f i
      rw [h2]; simp [hi]
theorem news_cells {w : World} {x : Addr} {n : Nat} {z : Nat → Value} (hz : ∀ i, i < n → w.cell? (x.add i) = some (z i)) :
    ∀ j u, ((List.range n).map z)[j]? = some u → w.cell? (x.add j) = some u := by
  intro j u hu
  have hj : j < n := by
    by_cases h : j < n
    · exact h
    · rw [List.getElem?_eq_none (by simp; omega)] at hu; cases hu
  rw [hz j hj]
  simpa [hj] using hu

end Go.Proofs.YtpljldjdemobbaaDoor
