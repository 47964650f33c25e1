
/-
  No statement of the program: a list of small numbers of the call's own, of which one after the other is struck.
-/
import Derived.Test.YtdgmfcnblaamcabOwn
import Derived.Test.YtdgmfcnblaamcabChecked
import Derived.Deep.AppendLies
import Derived.Deep.RegionHeld3
namespace Go.Proofs.Ytdgmfcnblaamcab.By
open Go.ChangeShapes Go.WideShapes Go.ChangeAt Go.RowKit
def ivn (x : Nat) : Value := .int .i64 x
theorem one_ivn (l : List Nat) : ∀ u ∈ l.map ivn, u.oneCell' = true := by
  intro u hu
  obtain ⟨x, -, rfl⟩ := List.mem_map.1 hu
  rfl
theorem cut_at1 (g cap k : Nat) : ∃ ad : Addr, (if cap = k then some (⟨g, 0, none⟩ : Addr) else (some (⟨g, 0, none⟩ : Addr)).map (·.add (k * 1))) = some ad ∧ ∀ j, cap ≠ k → ad.add j = ⟨g, k + j, none⟩ := by
  by_cases hck : cap = k
  · exact ⟨_, by rw [if_pos hck], fun j hj => absurd hck hj⟩
  · refine ⟨(⟨g, 0, none⟩ : Addr).add (k * 1), by rw [if_neg hck]; rfl, fun j _ => ?_⟩
    rw [add_plain, add_plain, Nat.zero_add, Nat.mul_one]
theorem drop_one {l : List Nat} (hn : l.Nodup) {k : Nat} (hk : k < l.length) : (l.take k ++ l.drop (k + 1)).Nodup ∧ (∀ y, y ∈ l.take k ++ l.drop (k + 1) ↔ y ∈ l ∧ y ≠ l.getD k 0) ∧ l.getD k 0 ∈ l ∧ (l.take k ++ l.drop (k + 1)).length + 1 = l.length := by
  have hd := List.drop_eq_getElem_cons hk
  have e : l.getD k 0 = l[k] := by simp [hk]
  rw [e]
  have hl : l = l.take k ++ l[k] :: l.drop (k + 1) := by rw [← hd, List.take_append_drop]
  have hn2 := hn
  rw [hl, List.nodup_append] at hn2
  obtain ⟨n1, n2, n3⟩ := hn2
  have n4 := List.nodup_cons.1 n2
  have hmem : ∀ y, y ∈ l ↔ y ∈ l.take k ∨ y = l[k] ∨ y ∈ l.drop (k + 1) := fun y => by
    conv => lhs; rw [hl]
    simp only [List.mem_append, List.mem_cons]
  have hxn : l[k] ∉ l.take k ++ l.drop (k + 1) := fun h => by
    rcases List.mem_append.1 h with h | h
    · exact n3 _ h _ List.mem_cons_self rfl
    · exact n4.1 h
  refine ⟨?_, fun y => ?_, List.getElem_mem hk, by simp; omega⟩
  · rw [List.nodup_append]
    exact ⟨n1, n4.2, fun a ha b hb => n3 a ha b (List.mem_cons_of_mem _ hb)⟩
  · rw [hmem]
    constructor
    · intro h
      refine ⟨?_, fun e => hxn (e ▸ h)⟩
      rcases List.mem_append.1 h with h | h
      · exact .inl h
      · exact .inr (.inr h)
    · rintro ⟨h | h | h, hne⟩
      · exact List.mem_append.2 (.inl h)
      · exact absurd h hne
      · exact List.mem_append.2 (.inr h)
theorem info_int : (Try.prog.info? 3).map (fun i => (i.zero, i.size, i.bytes)) = some (some (.int .i64 0), 1, 8) := by kernel_rfl
theorem info_int' : ∃ i, Try.prog.info? 3 = some i ∧ i.zero = some (.int .i64 0) ∧ i.size = 1 ∧ i.bytes = 8 := by
  obtain ⟨ti, hti, hz⟩ := Option.map_eq_some_iff.1 info_int
  simp only [Prod.mk.injEq] at hz
  exact ⟨ti, hti, hz.1, hz.2.1, hz.2.2⟩
theorem own_cell {w : World} {base : Nat} {g cap : Nat} {t : TypeId} {l : List Nat} (h : w.ownsRow base t 1 (.slice (some ⟨g, 0, none⟩) l.length cap) l.length (l.map ivn)) {k : Nat} (hk : k < l.length) : w.cell? ⟨g, k, none⟩ = some (.int .i64 (l.getD k 0 : Nat)) := by
  have h2 := World.ownsRow.cells h (g := g) rfl k (ivn (l.getD k 0)) (by simp [hk])
  rw [add_plain, Nat.zero_add] at h2
  exact h2
theorem own_cap {w : World} {base : Nat} {ao : Option Addr} {n cap : Nat} {t : TypeId} {size : Nat} {xs : List Value} (h : w.ownsRow base t size (.slice ao n cap) n xs) : n ≤ cap ∧ cap ≤ maxLen := by
  rcases h.2 with ⟨h, hn⟩ | ⟨g', cap', cur, h, -, -, h1, h2, -⟩
  · cases h; exact ⟨Nat.le_refl _, Nat.zero_le _⟩
  · cases h; exact ⟨h1, h2⟩
end Go.Proofs.Ytdgmfcnblaamcab.By
