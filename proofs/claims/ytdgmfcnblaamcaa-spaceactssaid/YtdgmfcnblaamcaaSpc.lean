
/-
  No statement of the program: rows of pairs of numbers in memory; copy and clear of elements of two cells; where a run is found.
-/
import Derived.Test.YtdgmfcnblaamcaaOwn
import Derived.Test.YtdgmfcnblaamcaaRows
import Derived.Laws.IdiomCopy
import Derived.Lib.SliceRun
import Derived.Deep.RegionHeld3
import Derived.BigRegion
import Derived.BigQuiet
namespace Go.Proofs.Ytdgmfcnblaamcaa.Sc
open Go.ChangeShapes Go.WideShapes Go.ChangeAt Go.RowKit

def iv (n : Nat) : Value := .int .i64 n
/-- Cells laid over a row. -/
def lay (f : Nat → Value) (o : Nat) (vs : List Value) (i : Nat) : Value := if o ≤ i ∧ i < o + vs.length then vs.getD (i - o) undef else f i
theorem rowIs_setCells {b n : Nat} {t : TypeId} : ∀ (vs : List Value) (o : Nat) (f : Nat → Value) (w : World), w.rowIs b t n f → (w.setCells b o vs).rowIs b t n (lay f o vs)
  | [], o, f, w, h => by
    refine (show w.rowIs b t n _ from h.congr (fun i _ => ?_))
    unfold lay
    rw [if_neg (by simp)]
  | v :: r, o, f, w, h => by
    have ih := rowIs_setCells r (o + 1) (fun i => if i = o then v else f i) (w.setCell ⟨b, o, none⟩ v) (h.set o v)
    refine (show (w.setCells b o (v :: r)).rowIs b t n _ from ih.congr (fun i _ => ?_))
    unfold lay
    simp only [List.length_cons]
    by_cases h1 : o + 1 ≤ i ∧ i < o + 1 + r.length
    · rw [if_pos h1, if_pos (by omega), show i - o = (i - (o + 1)) + 1 by omega]
      simp
    · rw [if_neg h1]
      by_cases h2 : i = o
      · rw [if_pos h2, if_pos (by omega), h2]
        simp
      · rw [if_neg h2, if_neg (by omega)]
theorem kept_setCells (b : Nat) : ∀ (vs : List Value) (o : Nat) (w : World), Kept [b] w (w.setCells b o vs)
  | [], _, w => Kept.refl _ _
  | v :: r, o, w => ((Kept.refl [b] w).setCell (p := ⟨b, o, none⟩) (fun _ => by simp) v).trans (kept_setCells b r (o + 1) _) (fun x hx _ => hx)

/-- copy of elements of two cells. -/
theorem run_copy2 {P : Program} (w : World) (dT sT ty elem : TypeId) (b o dLen dCap : Nat) (a : Addr) (sLen sCap : Nat) (cs : List Value)
    (hu : P.underlying dT = some (.slice elem)) (hs : (P.info? elem).map (·.size) = some 2) (hn : cs.length = Nat.min sLen dLen * 2)
    (hsrc : ∀ j v, cs[j]? = some v → w.cell? (a.add j) = some v) (hc : ∀ j, j < cs.length → (w.cell? ⟨b, o + j, none⟩).isSome = true) (hf : ∀ j, j < cs.length → w.frozen? ⟨b, o + j, none⟩ = false) (h1 : ∀ v ∈ cs, v.oneCell' = true) :
    (Builtin.copy_ #[dT, sT] ty #[.slice (some ⟨b, o, none⟩) dLen dCap, .slice (some a) sLen sCap]).run P w = .ok (goInt (Nat.min sLen dLen)) (w.setCells b o cs) := by
  have hl := run_loadCells_list (P := P) w a cs hsrc
  have hst := run_storeCells_cells (P := P) b o cs 0 w (by simpa using hc) (by simpa using hf) h1
  cases hq : P.info? elem with
  | none => simp [hq] at hs
  | some i =>
    have hi : i.size = 2 := by simpa [hq] using hs
    simp [Builtin.copy_, run_underlying hu, Builtin.lenOf, Builtin.firstCells, sizeOf, typeInfo, hq, hi, ← hn, hl, hst]
/-- clear of one element of two cells. -/
theorem run_clear2 {P : Program} (w : World) (t e ty : TypeId) (z z0 z1 : Value) (ht : P.underlying t = some (.slice e)) (hv : ∀ w, (zeroValue e).run P w = .ok z w) (hz : z.cells = #[z0, z1]) (h0 : z0.oneCell' = true) (h1 : z1.oneCell' = true) (b o c : Nat)
    (hc : ∀ j, j < 2 → (w.cell? ⟨b, o + j, none⟩).isSome = true) (hf : ∀ j, j < 2 → w.frozen? ⟨b, o + j, none⟩ = false) :
    (Builtin.clear_ #[t] ty #[.slice (some ⟨b, o, none⟩) 1 c]).run P w = .ok (.tuple #[]) (w.setCells b o [z0, z1]) := by
  have hzc : (Builtin.zeroCells z.cells 1).toList = [z0, z1] := by
    rw [hz]
    simp [Builtin.zeroCells, List.range, List.range.loop]
  have hst := run_storeCells_cells (P := P) b o [z0, z1] 0 w (by simpa using hc) (by simpa using hf) (by intro v hv'; simp at hv'; rcases hv' with rfl | rfl <;> assumption)
  simp only [Nat.add_zero] at hst
  simp [Builtin.clear_, run_underlying ht, hv, hzc, hst]

/-- Where a run stands that begins at a page, or would stand: how many begin ahead of it. -/
def kOf (F : Nat → Nat) (n : Nat) (page : Int) : Nat := ((List.range n).filter (fun i => decide ((F i : Int) < page))).length
theorem kOf_succ (F : Nat → Nat) (n : Nat) (page : Int) : kOf F (n + 1) page = kOf F n page + if (F n : Int) < page then 1 else 0 := by
  unfold kOf
  rw [List.range_succ, List.filter_append, List.length_append]
  by_cases h : (F n : Int) < page <;> simp [h]
theorem kOf_le (F : Nat → Nat) (n : Nat) (page : Int) : kOf F n page ≤ n := by
  unfold kOf; exact Nat.le_trans (List.length_filter_le _ _) (by simp)
/-- In a rising row all those ahead of kOf begin ahead of the page, and no others. -/
theorem kOf_iff {F : Nat → Nat} : ∀ {n : Nat} {page : Int}, (∀ i j, i < j → j < n → F i < F j) → ∀ i, i < n → ((F i : Int) < page ↔ i < kOf F n page)
  | 0, _, _, i, hi => absurd hi (Nat.not_lt_zero _)
  | n + 1, page, hm, i, hi => by
    have ih := fun i (h : i < n) => kOf_iff (n := n) (page := page) (fun i j h1 h2 => hm i j h1 (by omega)) i h
    have hle := kOf_le F n page
    rw [kOf_succ]
    by_cases hn : (F n : Int) < page
    · rw [if_pos hn]
      have hall : ∀ j, j < n → (F j : Int) < page := fun j hj => by have := hm j n hj (by omega); omega
      have hk : kOf F n page = n := by
        by_cases h0 : n = 0
        · omega
        · have := (ih (n - 1) (by omega)).1 (hall _ (by omega)); omega
      constructor
      · intro _; omega
      · intro _
        by_cases e : i = n
        · subst e; exact hn
        · exact hall i (by omega)
    · rw [if_neg hn]
      by_cases e : i = n
      · subst e
        exact ⟨fun h => absurd h hn, fun h => by omega⟩
      · rw [ih i (by omega)]; omega
/-- Runs in a row: so many of them, where they begin, how many pages they have. -/
structure RW (w : World) (r : Nat) (ao : Option Addr) (n cap : Nat) (F C : Nat → Nat) : Prop where
  c : w.cell? ⟨r, 0, none⟩ = some (.slice ao n cap)
  le : n ≤ cap
  m : n ≤ 4096
  cm : cap ≤ maxLen
  at_ : 0 < cap → ∃ b f, ao = some ⟨b, 0, none⟩ ∧ b ≠ r ∧ w.rowIs b 51 (cap * 2) f ∧ ∀ i, i < n → f (i * 2) = iv (F i) ∧ f (i * 2 + 1) = iv (C i)
  non : cap = 0 → ao = none
theorem RW.cell {w : World} {r : Nat} {ao : Option Addr} {n cap : Nat} {F C : Nat → Nat} (h : RW w r ao n cap F C) {i : Nat} (hi : i < n) : ∃ b, ao = some ⟨b, 0, none⟩ ∧ w.cell? ⟨b, i * 2, none⟩ = some (iv (F i)) ∧ w.cell? ⟨b, i * 2 + 1, none⟩ = some (iv (C i)) := by
  have := h.le
  obtain ⟨b, f, rfl, -, hR, hf⟩ := h.at_ (by omega)
  obtain ⟨h0, h1⟩ := hf i hi
  exact ⟨b, rfl, by rw [hR.cell (by omega), h0], by rw [hR.cell (by omega), h1]⟩
theorem RW.kept {L : List Nat} {w w' : World} {r : Nat} {ao : Option Addr} {n cap : Nat} {F C : Nat → Nat} (h : RW w r ao n cap F C) (hk : Kept L w w') (hr : r ∉ L) (hb : ∀ b, ao = some ⟨b, 0, none⟩ → b ∉ L) : RW w' r ao n cap F C :=
  ⟨hk.cell h.c hr, h.le, h.m, h.cm, fun hc => by
    obtain ⟨b, f, e, h1, h2, h3⟩ := h.at_ hc
    exact ⟨b, f, e, h1, hk.row h2 (hb b e), h3⟩, h.non⟩
end Go.Proofs.Ytdgmfcnblaamcaa.Sc
