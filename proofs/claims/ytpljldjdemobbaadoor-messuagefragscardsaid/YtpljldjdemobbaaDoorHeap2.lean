
/-
  No statement of the program: small lemmas on rows that a call has made by append.
-/
import Derived.Test.YtpljldjdemobbaaDoorLift
import Derived.Laws.BitsAllLaws
namespace Go.Proofs.YtpljldjdemobbaaDoor
open Go.RowKit

theorem getElem?_lt {α : Type} {l : List α} {i : Nat} {x : α} (h : l[i]? = some x) : i < l.length := by
  by_cases hi : i < l.length
  · exact hi
  · rw [List.getElem?_eq_none (by omega)] at h; cases h

/-- A slice that a call has made: its form, and where its elements lie. -/
theorem own_form {w : World} {base : Nat} {e : TypeId} {v : Value} {n : Nat} {xs : List Value} (h : w.ownsRow base e 1 v n xs) :
    ∃ ao cap, v = .slice ao n cap ∧ n ≤ maxLen ∧ ∀ k u, xs[k]? = some u → ∃ g, ao = some ⟨g, 0, none⟩ ∧ base ≤ g ∧ w.cell? ⟨g, k, none⟩ = some u := by
  rcases h.2 with ⟨rfl, rfl⟩ | ⟨g, cap, cur, rfl, hb, hg, hn, hm, hs, ht⟩
  · refine ⟨none, 0, rfl, Nat.zero_le _, fun k u hk => ?_⟩
    have := getElem?_lt hk
    have h2 := h.1
    omega
  · refine ⟨some ⟨g, 0, none⟩, cap, rfl, Nat.le_trans hn hm, fun k u hk => ⟨g, rfl, hb, ?_⟩⟩
    rw [cell_of_row w g k cur e (0, 0) hg]
    rw [← ht, List.getElem?_take] at hk
    split at hk
    · simpa using hk
    · cases hk

theorem own_kept {L : List Nat} {w w' : World} {base : Nat} {e : TypeId} {size : Nat} {v : Value} {n : Nat} {xs : List Value} (h : w.ownsRow base e size v n xs) (k : Kept L w w') (hL : ∀ x, x ∈ L → x < base) : w'.ownsRow base e size v n xs := by
  refine ⟨h.1, ?_⟩
  rcases h.2 with hn | ⟨g, cap, cur, rfl, hb, hg, rest⟩
  · exact .inl hn
  · exact .inr ⟨g, cap, cur, rfl, hb, k.blk hg (fun hx => by have := hL g hx; omega), rest⟩

theorem own_base {w : World} {base base' : Nat} {e : TypeId} {size : Nat} {v : Value} {n : Nat} {xs : List Value} (h : w.ownsRow base e size v n xs) (hb : base' ≤ base) : w.ownsRow base' e size v n xs := by
  refine ⟨h.1, ?_⟩
  rcases h.2 with hn | ⟨g, cap, cur, hv, hg, rest⟩
  · exact .inl hn
  · exact .inr ⟨g, cap, cur, hv, Nat.le_trans hb hg, rest⟩

/-- What one append does to the world, of a row that lies from base on. -/
theorem own_grown {w w' : World} {base : Nat} {e : TypeId} {size : Nat} {v : Value} {n : Nat} {xs : List Value} (h : w.ownsRow base e size v n xs) (g : w.grownBy w' v.ownBlock) (W : World) (hK : Kept [] W w) (hb : W.heap.size ≤ base) : Kept [] W w' :=
  hK.trans (M := v.ownBlock.toList) (Kept.of_grownBy g (fun k hk _ => by rw [hk]; simp)) (fun x hx hl => by
    have hx2 : v.ownBlock = some x := by simpa using hx
    have := h.lt x hx2
    omega)

/-- The numbers of a list that a call has made. -/
def Ints (w : World) (base : Nat) (e : TypeId) (v : Value) (l : List Int) : Prop := w.ownsRow base e 1 v l.length (l.map (Value.int .i64))
theorem Ints.isInts {w : World} {base : Nat} {e : TypeId} {v : Value} {l : List Int} (h : Ints w base e v l) (hw : ∀ x, x ∈ l → (Lit.int .i64 x).wf = true) :
    ∃ ao cap, v = .slice ao l.length cap ∧ IsInts .i64 w ao l.length (fun i => l.getD i 0) := by
  obtain ⟨ao, cap, rfl, -, hc⟩ := own_form h
  refine ⟨ao, cap, rfl, fun i hi => ?_⟩
  obtain ⟨g, rfl, -, hg⟩ := hc i (.int .i64 (l.getD i 0)) (by simp [hi])
  exact ⟨g, 0, rfl, by rw [Nat.zero_add]; exact hg, hw _ (by show l.getD i 0 ∈ l; rw [List.getD_eq_getElem?_getD, List.getElem?_eq_getElem hi]; exact List.getElem_mem hi)⟩
theorem IsInts.kept {k : IntKind} {w w' : World} {ao : Option Addr} {len : Nat} {z : Nat → Int} (h : IsInts k w ao len z) (hk : Kept [] w w') : IsInts k w' ao len z := by
  intro i hi
  obtain ⟨b, off, rfl, hc, hw⟩ := h i hi
  exact ⟨b, off, rfl, hk.cell hc (by simp), hw⟩

theorem news_one {w : World} {v : Value} {t : TypeId} : ∀ j u, [v][j]? = some u → (w.alloc (.cells #[v] t)).cell? ((⟨w.heap.size, 0, none⟩ : Addr).add j) = some u := by
  intro j u hj
  match j, hj with
  | 0, hj => simp at hj; subst hj; simp [Addr.add]
end Go.Proofs.YtpljldjdemobbaaDoor
