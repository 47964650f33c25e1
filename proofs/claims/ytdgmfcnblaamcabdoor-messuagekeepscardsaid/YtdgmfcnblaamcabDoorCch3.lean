
/-
  No statement of the program: a cache of a law's own, and the laws' own small check, over this seat's translation. 'CB W w p L': at p, behind W, lies a cache whose lists are L; 'CV': and v is the list l, apart from it.
-/
import Derived.Test.YtdgmfcnblaamcabDoorCch2
namespace Go.Proofs.YtdgmfcnblaamcabDoor.Cc
open Go.ChangeShapes Go.WideShapes Go.ChangeAt Go.RowKit By
def CB (W w : World) (p : Nat) (L : Nat → List Nat) : Prop := ∃ S, CA w 91 p S L ∧ Kept [] W w ∧ ∀ b, b ∈ foot p S → W.heap.size ≤ b
def CV (W w : World) (p : Nat) (L : Nat → List Nat) (v : Value) (l : List Nat) : Prop := ∃ S, CA w 91 p S L ∧ Kept [] W w ∧ (∀ b, b ∈ foot p S → W.heap.size ≤ b) ∧ NL w v l ∧ (∀ b, v.ownBlock = some b → W.heap.size ≤ b ∧ b ∉ foot p S)
section
variable {W w : World} {p : Nat} {L : Nat → List Nat} {v : Value} {l : List Nat}
theorem CB.kept (h : CB W w p L) : Kept [] W w := by obtain ⟨S, h1, h2, h3⟩ := h; exact h2
theorem CV.kept (h : CV W w p L v l) : Kept [] W w := by obtain ⟨S, h1, h2, h3⟩ := h; exact h2
theorem CB.next {w' : World} (h : CB W w p L) (k : Kept [] w w') : CB W w' p L := by obtain ⟨S, h1, h2, h3⟩ := h; exact ⟨S, h1.kept0 k, h2.next k, h3⟩
theorem CV.next {w' : World} (h : CV W w p L v l) (k : Kept [] w w') : CV W w' p L v l := by obtain ⟨S, h1, h2, h3, h4, h5⟩ := h; exact ⟨S, h1.kept0 k, h2.next k, h3, h4.kept k (fun _ _ => by simp), h5⟩
theorem CV.cb (h : CV W w p L v l) : CB W w p L := by obtain ⟨S, h1, h2, h3, -⟩ := h; exact ⟨S, h1, h2, h3⟩
theorem CV.nl (h : CV W w p L v l) : NL w v l := by obtain ⟨S, h1, h2, h3, h4, -⟩ := h; exact h4
theorem CV.of_cb (h : CB W w p L) : CV W w p L (.slice none 0 0) [] := by obtain ⟨S, h1, h2, h3⟩ := h; exact ⟨S, h1, h2, h3, .inl ⟨rfl, rfl⟩, fun b hb => by cases hb⟩
theorem CB.congr {M : Nat → List Nat} (h : CB W w p L) (e : ∀ k, k < 4 → L k = M k) : CB W w p M := by
  obtain ⟨S, h1, h2, h3⟩ := h
  exact ⟨S, ⟨h1.row, fun k hk => e k hk ▸ h1.list k hk, h1.np, h1.apart⟩, h2, h3⟩
theorem CV.congr {M : Nat → List Nat} (h : CV W w p L v l) (e : ∀ k, k < 4 → L k = M k) : CV W w p M v l := by
  obtain ⟨S, h1, h2⟩ := h
  exact ⟨S, ⟨h1.row, fun k hk => e k hk ▸ h1.list k hk, h1.np, h1.apart⟩, h2⟩
theorem CB.new (h : Kept [] W w) : Calls Tryd.prog 24 #[] w fun e w' => ∃ p, e = .returned (.pointer (some ⟨p, 0, none⟩)) ∧ CB W w' p (fun _ => []) := by
  refine (new_ok w).mono ?_
  rintro e w' ⟨rfl, h1, h2, -⟩
  refine ⟨_, rfl, _, h1, h.next h2, fun b hb => ?_⟩
  rcases mem_foot.1 hb with e | ⟨k, hk, e⟩
  · rw [e]; exact h.size
  · cases e
theorem CV.push (h : CV W w p L v l) {k : Nat} (hk : k < 4) (hl : (L k).length < 8) (x : Nat) : Calls Tryd.prog 29 #[.pointer (some ⟨p, 0, none⟩), .int .i64 k, .int .i64 x] w fun e w' => e = .returned (.tuple #[.bool true, .int .i64 0]) ∧ CV W w' p (up L k (L k ++ [x])) v l := by
  obtain ⟨S, h1, h2, h3, h4, h5⟩ := h
  refine (push_ok h1 hk hl x).mono ?_
  rintro e w' ⟨rfl, S', a1, a2, a3⟩
  refine ⟨rfl, S', a1, h2.trans a2 (fun y hy hlt => absurd (h3 y hy) (Nat.not_le.2 hlt)), fun b hb => ?_, h4.kept a2 (fun b hb => (h5 b hb).2), fun b hb => ⟨(h5 b hb).1, fun hf => ?_⟩⟩
  · rcases a3 b hb with e | e
    · exact h3 b e
    · exact Nat.le_trans h2.size e
  · rcases a3 b hf with e | e
    · exact (h5 b hb).2 e
    · have := h4.lt hb; omega
theorem CV.full (h : CV W w p L v l) {k : Nat} (hk : k < 4) (hl : (L k).length = 8) (x : Int) : Calls Tryd.prog 29 #[.pointer (some ⟨p, 0, none⟩), .int .i64 k, .int .i64 x] w fun e w' => e = .returned (.tuple #[.bool false, .int .i64 0]) ∧ w' = w := by
  obtain ⟨S, h1, -⟩ := h
  exact push_full h1 hk hl x
theorem CV.len (h : CV W w p L v l) {k : Nat} (hk : k < 4) : Calls Tryd.prog 38 #[.pointer (some ⟨p, 0, none⟩), .int .i64 k] w fun e w' => e = .returned (.int .i64 (L k).length) ∧ w' = w := by
  obtain ⟨S, h1, -⟩ := h
  exact len_ok h1 hk
theorem CV.pop (h : CV W w p L v l) {k n : Nat} (hk : k < 4) (hl : (L k).length = n + 1) (h8 : n < 8) : Calls Tryd.prog 30 #[.pointer (some ⟨p, 0, none⟩), .int .i64 k] w fun e w' => e = .returned (.tuple #[.int .i64 ((L k).getD n 0 : Nat), .bool true]) ∧ CV W w' p (up L k ((L k).take n)) v l := by
  obtain ⟨S, h1, h2, h3, h4, h5⟩ := h
  refine (pop_ok h1 hk hl h8).mono ?_
  rintro e w' ⟨rfl, S', a1, a2, a3⟩
  refine ⟨rfl, S', a1, h2.trans a2 (fun y hy hlt => absurd (h3 y hy) (Nat.not_le.2 hlt)), fun b hb => ?_, h4.kept a2 (fun b hb => (h5 b hb).2), fun b hb => ⟨(h5 b hb).1, fun hf => ?_⟩⟩
  · rcases a3 b hb with e | e
    · exact h3 b e
    · exact Nat.le_trans h2.size e
  · rcases a3 b hf with e | e
    · exact (h5 b hb).2 e
    · have := h4.lt hb; omega
theorem CB.flush (h : CB W w p L) {k n : Nat} (hk : k < 4) (h1 : 1 ≤ n) (hl : n ≤ (L k).length) (h8 : (L k).length ≤ 8) : Calls Tryd.prog 31 #[.pointer (some ⟨p, 0, none⟩), .int .i64 k, .int .i64 n] w fun e w' => ∃ v, e = .returned v ∧ CV W w' p (up L k ((L k).drop n)) v ((L k).take n) := by
  obtain ⟨S, g1, g2, g3⟩ := h
  refine (flush_ok g1 hk h1 hl h8).mono ?_
  rintro e w' ⟨v, rfl, a1, a2, S', a3, a4, a5, a6⟩
  refine ⟨v, rfl, S', a3, g2.trans a4 (fun y hy hlt => absurd (g3 y hy) (Nat.not_le.2 hlt)), fun b hb => ?_, a1, fun b hb => ⟨Nat.le_trans g2.size (a2 b hb), a6 b hb⟩⟩
  rcases a5 b hb with e | e
  · exact g3 b e
  · exact Nat.le_trans g2.size e
end
theorem up_up {α : Type} (S : Nat → α) (k : Nat) (a b : α) : up (up S k a) k b = up S k b := by
  funext j
  unfold up
  by_cases e : j = k <;> simp [e]
theorem up_at {α : Type} (S : Nat → α) (k : Nat) (a : α) : up S k a k = a := by unfold up; rw [if_pos rfl]
end Go.Proofs.YtdgmfcnblaamcabDoor.Cc
