
/-
  No statement of the program: rows of pairs of numbers as lists; append and cuts of them.
-/
import Derived.Test.YtdgmfcnblaamcaaSpc14
import Derived.Deep.AppendLies
namespace Go.Proofs.Ytdgmfcnblaamcaa.Sc
open Go.ChangeShapes Go.WideShapes Go.ChangeAt Go.RowKit
def flat (l : List (Nat × Nat)) : List Value := l.flatMap (fun p => [iv p.1, iv p.2])
theorem flat_nil : flat [] = [] := rfl
theorem flat_cons (p : Nat × Nat) (l : List (Nat × Nat)) : flat (p :: l) = iv p.1 :: iv p.2 :: flat l := rfl
theorem flat_append (l m : List (Nat × Nat)) : flat (l ++ m) = flat l ++ flat m := by simp [flat]
theorem flat_length : ∀ l : List (Nat × Nat), (flat l).length = l.length * 2
  | [] => rfl
  | p :: l => by rw [flat_cons, List.length_cons, List.length_cons, flat_length l, List.length_cons]; omega
theorem flat_get : ∀ (l : List (Nat × Nat)) (k : Nat), k < l.length → (flat l)[k * 2]? = some (iv (l.getD k (0, 0)).1) ∧ (flat l)[k * 2 + 1]? = some (iv (l.getD k (0, 0)).2)
  | p :: l, 0, _ => ⟨rfl, rfl⟩
  | p :: l, k + 1, h => by
    have ih := flat_get l k (by simpa using h)
    rw [flat_cons, show (k + 1) * 2 = k * 2 + 1 + 1 by omega]
    exact ih
theorem flat_take : ∀ (l : List (Nat × Nat)) (k : Nat), flat (l.take k) = (flat l).take (k * 2)
  | _, 0 => by simp [flat]
  | [], k + 1 => by simp [flat]
  | p :: l, k + 1 => by rw [List.take_succ_cons, flat_cons, flat_cons, flat_take l k, show (k + 1) * 2 = k * 2 + 1 + 1 by omega]; rfl
theorem flat_drop : ∀ (l : List (Nat × Nat)) (k : Nat), flat (l.drop k) = (flat l).drop (k * 2)
  | _, 0 => by simp
  | [], k + 1 => by simp [flat]
  | p :: l, k + 1 => by rw [List.drop_succ_cons, flat_cons, flat_drop l k, show (k + 1) * 2 = k * 2 + 1 + 1 by omega]; rfl
theorem one_flat (l : List (Nat × Nat)) : ∀ u, u ∈ flat l → u.oneCell' = true := by
  intro u hu
  simp only [flat, List.mem_flatMap] at hu
  obtain ⟨p, -, h⟩ := hu
  rcases List.mem_cons.1 h with rfl | h
  · rfl
  · rw [List.mem_singleton.1 h]; rfl
theorem info2 : (Try.prog.info? 41).map (fun i => (i.zero, i.size, i.bytes)) = some (some (.agg #[.int .i64 0, .int .i64 0]), 2, 16) := by kernel_rfl
theorem hi2e : ∃ i, Try.prog.info? 41 = some i ∧ i.zero = some (.agg #[.int .i64 0, .int .i64 0]) ∧ i.size = 2 ∧ i.bytes = 16 := by
  have := info2
  obtain ⟨i, h1, h2⟩ := Option.map_eq_some_iff.1 this
  simp only [Prod.mk.injEq] at h2
  exact ⟨i, h1, h2.1, h2.2.1, h2.2.2⟩
theorem drop_two {l : List (Nat × Nat)} (hn : l.Nodup) {k : Nat} (hk : k < l.length) : (l.take k ++ l.drop (k + 1)).Nodup ∧ (∀ y, y ∈ l.take k ++ l.drop (k + 1) ↔ y ∈ l ∧ y ≠ l.getD k (0, 0)) ∧ l.getD k (0, 0) ∈ l ∧ l.getD k (0, 0) ∉ l.take k ++ l.drop (k + 1) ∧ (l.take k ++ l.drop (k + 1)).length + 1 = l.length := by
  have hd := List.drop_eq_getElem_cons hk
  have e : l.getD k (0, 0) = l[k] := by simp [hk]
  rw [e]
  have hl : l = l.take k ++ l[k] :: l.drop (k + 1) := by rw [← hd, List.take_append_drop]
  have hn2 := hn
  rw [hl, List.nodup_append] at hn2
  obtain ⟨n1, n2, n3⟩ := hn2
  have n4 := List.nodup_cons.1 n2
  have hmem : ∀ y, y ∈ l ↔ y ∈ l.take k ∨ y = l[k] ∨ y ∈ l.drop (k + 1) := fun y => by
    conv => lhs; rw [hl]
    simp only [List.mem_append, List.mem_cons]
  have hxn : l[k] ∉ l.take k ++ l.drop (k + 1) := fun h => by
    rcases List.mem_append.1 h with h | h
    · exact n3 _ h _ List.mem_cons_self rfl
    · exact n4.1 h
  refine ⟨?_, fun y => ?_, List.getElem_mem hk, hxn, by simp; omega⟩
  · rw [List.nodup_append]
    exact ⟨n1, n4.2, fun a ha b hb => n3 a ha b (List.mem_cons_of_mem _ hb)⟩
  · rw [hmem]
    constructor
    · intro h
      refine ⟨?_, fun e => hxn (e ▸ h)⟩
      rcases List.mem_append.1 h with h | h
      · exact .inl h
      · exact .inr (.inr h)
    · rintro ⟨h | h | h, hne⟩
      · exact List.mem_append.2 (.inl h)
      · exact absurd h hne
      · exact List.mem_append.2 (.inr h)
theorem news_two {w : World} {a b : Value} {t : TypeId} : ∀ j u, [a, b][j]? = some u → (w.alloc (.cells #[a, b] t)).cell? ((⟨w.heap.size, 0, none⟩ : Addr).add j) = some u := by
  intro j u hu
  have := getElem?_lt hu
  rcases (show j = 0 ∨ j = 1 by simp at this; omega) with rfl | rfl
  · rw [add_plain, World.cell?_alloc_mark]; simpa using hu
  · rw [add_plain, World.cell?_alloc_mark]; simpa using hu
theorem own_far {L : List Nat} {w w' : World} {base : Nat} {e : TypeId} {size : Nat} {v : Value} {n : Nat} {xs : List Value} (h : w.ownsRow base e size v n xs) (k : Kept L w w') (hL : ∀ g, v.ownBlock = some g → g ∉ L) : w'.ownsRow base e size v n xs := by
  refine ⟨h.1, ?_⟩
  rcases h.2 with ⟨h1, h2⟩ | ⟨g, cap, cur, rfl, hbg, hg, hnc, hcm, hcs, ht⟩
  · exact .inl ⟨h1, h2⟩
  · exact .inr ⟨g, cap, cur, rfl, hbg, k.blk hg (hL g rfl), hnc, hcm, hcs, ht⟩
theorem cut_at (g cap k s : Nat) : ∃ ad : Addr, (if cap = k then some (⟨g, 0, none⟩ : Addr) else (some (⟨g, 0, none⟩ : Addr)).map (·.add (k * s))) = some ad ∧ ∀ j, cap ≠ k → ad.add j = ⟨g, k * s + j, none⟩ := by
  by_cases hck : cap = k
  · exact ⟨_, by rw [if_pos hck], fun j hj => absurd hck hj⟩
  · refine ⟨(⟨g, 0, none⟩ : Addr).add (k * s), by rw [if_neg hck]; rfl, fun j _ => ?_⟩
    rw [add_plain, add_plain, Nat.zero_add]
def offs : List Value → Nat → Bool
  | [], 0 => true
  | .bool false :: r, n + 1 => offs r n
  | _, _ => false
theorem offs_rep : ∀ (l : List Value) (n : Nat), offs l n = true → l = List.replicate n (.bool false) := by
  intro l
  induction l with
  | nil => intro n h; cases n with
    | zero => rfl
    | succ n => simp [offs] at h
  | cons x r ih =>
    intro n h
    unfold offs at h
    split at h
    · exact absurd ‹x :: r = []› (by simp)
    · rename_i r' n' h1
      cases h1
      rw [List.replicate_succ, ← ih _ h]
    · cases h
def zeroOffs (P : Program) (t : TypeId) (n : Nat) : Bool := match P.info? t with
  | some i => match i.zero with
    | some (.agg cs) => offs cs.toList n
    | _ => false
  | none => false
set_option maxRecDepth 1000000 in
theorem zeroUsedb : zeroOffs Try.prog 43 4096 = true := by kernel_rfl
theorem zeroUsed : ∃ zs : Array Value, zs.toList = List.replicate 4096 (.bool false) ∧ ∀ w, (zeroValue 43).run Try.prog w = .ok (.agg zs) w := by
  have h := zeroUsedb
  unfold zeroOffs at h
  split at h
  · rename_i i hi
    split at h
    · rename_i cs hcs
      exact ⟨cs, offs_rep _ _ h, fun w => by simp [zeroValue, typeInfo, hi, hcs]⟩
    · cases h
  · cases h
end Go.Proofs.Ytdgmfcnblaamcaa.Sc
