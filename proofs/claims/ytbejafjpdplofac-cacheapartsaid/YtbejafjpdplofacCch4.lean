
/-
  No statement of the program: a cache and an array of four lists of the law's own side by side, over this seat's translation.
-/
import Derived.Test.YtbejafjpdplofacCch3
import Derived.Laws.AppendOwnNone
import Derived.OwnWalk
namespace Go.Proofs.Ytbejafjpdplofac.Cc
open Go.ChangeShapes Go.WideShapes Go.ChangeAt Go.RowKit By
structure AP' (W w : World) (p q : Nat) (S S2 : Nat → Value) (L M : Nat → List Nat) : Prop where
  one : CA w 53 p S L
  two : CA w 26 q S2 M
  kept : Kept [] W w
  f1 : ∀ b, b ∈ foot p S → W.heap.size ≤ b
  f2 : ∀ b, b ∈ foot q S2 → W.heap.size ≤ b
  apart : ∀ b, b ∈ foot p S → b ∉ foot q S2
def AP (W w : World) (p q : Nat) (L M : Nat → List Nat) : Prop := ∃ S S2, AP' W w p q S S2 L M
section
variable {W w : World} {p q : Nat} {L M : Nat → List Nat} {S S2 : Nat → Value}
theorem AP.kept (h : AP W w p q L M) : Kept [] W w := by obtain ⟨S, S2, h⟩ := h; exact h.kept
theorem AP.next {w' : World} (h : AP W w p q L M) (k : Kept [] w w') : AP W w' p q L M := by
  obtain ⟨S, S2, h⟩ := h
  exact ⟨S, S2, h.one.kept0 k, h.two.kept0 k, h.kept.next k, h.f1, h.f2, h.apart⟩
theorem AP.congr {L' : Nat → List Nat} (h : AP W w p q L M) (e : ∀ k, k < 4 → L k = L' k) : AP W w p q L' M := by
  obtain ⟨S, S2, h⟩ := h
  exact ⟨S, S2, ⟨h.one.row, fun k hk => e k hk ▸ h.one.list k hk, h.one.np, h.one.apart⟩, h.two, h.kept, h.f1, h.f2, h.apart⟩
theorem AP'.turn {w' : World} {S' : Nat → Value} {L' : Nat → List Nat} (h : AP' W w p q S S2 L M) (a1 : CA w' 53 p S' L') (a2 : Kept (foot p S) w w') (a3 : ∀ b, b ∈ foot p S' → b ∈ foot p S ∨ w.heap.size ≤ b) : AP' W w' p q S' S2 L' M := by
  refine ⟨a1, h.two.kept a2 (fun b hb hf => h.apart b hf hb), h.kept.trans a2 (fun y hy hlt => absurd (h.f1 y hy) (Nat.not_le.2 hlt)), fun b hb => ?_, h.f2, fun b hb hf => ?_⟩
  · rcases a3 b hb with e | e
    · exact h.f1 b e
    · exact Nat.le_trans h.kept.size e
  · rcases a3 b hb with e | e
    · exact h.apart b e hf
    · have := h.two.lt hf; omega
theorem AP.push (h : AP W w p q L M) {k : Nat} (hk : k < 4) (hl : (L k).length < 8) (x : Nat) : Calls Try.prog 8 #[.pointer (some ⟨p, 0, none⟩), .int .i64 k, .int .i64 x] w fun e w' => e = .returned (.tuple #[.bool true, .int .i64 0]) ∧ AP W w' p q (up L k (L k ++ [x])) M := by
  obtain ⟨S, S2, h⟩ := h
  refine (push_ok h.one hk hl x).mono ?_
  rintro e w' ⟨rfl, S', a1, a2, a3⟩
  exact ⟨rfl, S', S2, h.turn a1 a2 a3⟩
theorem AP.full (h : AP W w p q L M) {k : Nat} (hk : k < 4) (hl : (L k).length = 8) (x : Int) : Calls Try.prog 8 #[.pointer (some ⟨p, 0, none⟩), .int .i64 k, .int .i64 x] w fun e w' => e = .returned (.tuple #[.bool false, .int .i64 0]) ∧ w' = w := by
  obtain ⟨S, S2, h⟩ := h
  exact push_full h.one hk hl x
theorem AP.pop (h : AP W w p q L M) {k n : Nat} (hk : k < 4) (hl : (L k).length = n + 1) (h8 : n < 8) : Calls Try.prog 9 #[.pointer (some ⟨p, 0, none⟩), .int .i64 k] w fun e w' => e = .returned (.tuple #[.int .i64 ((L k).getD n 0 : Nat), .bool true]) ∧ AP W w' p q (up L k ((L k).take n)) M := by
  obtain ⟨S, S2, h⟩ := h
  refine (pop_ok h.one hk hl h8).mono ?_
  rintro e w' ⟨rfl, S', a1, a2, a3⟩
  exact ⟨rfl, S', S2, h.turn a1 a2 a3⟩
theorem AP'.app {w5 : World} {v' : Value} {k x : Nat} (h : AP' W w p q S S2 L M) (hk : k < 4) (K5 : Kept (S2 k).ownBlock.toList w w5) (n5 : NL w5 v' (M k ++ [x])) (b5 : ∀ b, v'.ownBlock = some b → (S2 k).ownBlock = some b ∨ w.heap.size ≤ b) : AP W (w5.setCell ⟨q, k, none⟩ v') p q L (up M k (M k ++ [x])) := by
  obtain ⟨r1, r2, r3⟩ := h.two.swap hk K5 n5 b5
  refine ⟨S, _, h.one.kept r2 (fun b hb hf => h.apart b hb hf), r1, h.kept.trans r2 (fun y hy hlt => absurd (h.f2 y hy) (Nat.not_le.2 hlt)), h.f1, fun b hb => ?_, fun b hb hf => ?_⟩
  · rcases r3 b hb with e | e
    · exact h.f2 b e
    · exact Nat.le_trans h.kept.size e
  · rcases r3 b hf with e | e
    · exact h.apart b hb e
    · have := h.one.lt hb; omega
set_option maxHeartbeats 1000000 in
theorem all_empty (h : CA w 53 p S L) (he : ∀ k, k < 4 → L k = []) : Calls Try.prog 10 #[.pointer (some ⟨p, 0, none⟩)] w fun e w' => e = .returned (.slice none 0 0) ∧ w' = w := by
  obtain ⟨i3, I3, Z3, S3, B3⟩ : ∃ i, Try.prog.info? 3 = some i ∧ i.zero = some (.int .i64 0) ∧ i.size = 1 ∧ i.bytes = 8 := by
    obtain ⟨ti, hti, hz⟩ := Option.map_eq_some_iff.1 info3
    simp only [Prod.mk.injEq] at hz
    exact ⟨ti, hti, hz.1, hz.2.1, hz.2.2⟩
  have I := hide I3
  have H := hide h
  have HE := hide he
  clear h he I3 Z3 S3 B3
  go_enter Try.func10, Try.ntmps10
  go_wp2_with fail
  go_loop [3, 5] (fun x v => ∃ k : Nat, k ≤ 4 ∧ v = .int .i64 k ∧ x = .slice none 0 0) (fun _ v => 4 - (intOf v).toNat)
  case atStart => exact ⟨0, by omega, rfl, rfl⟩
  case round =>
    obtain ⟨k, hk, rfl, rfl⟩ := hrel
    by_cases hk4 : k < 4
    · have hki : (k : Int) < 4 := by omega
      go_wp2_with fail
      refine (flush_none H.out hk4 (HE.out k hk4) 8 (by decide) (by decide)).mono ?_
      rintro e w' ⟨rfl, hw⟩
      subst w'
      go_wp2_with (at_builtin; refine wpList_append_own_none rfl _ _ _ rfl 0 3 i3 1 Try.underlying25 I.out (.slice none 0 0) 0 [] rfl (World.ownsRow_nil _ _ _ _) rfl ?_)
      go_round
      case rel => exact ⟨k + 1, by omega, by go_num, rfl⟩
      case measure => simp [intOf]; omega
    · have hki : ¬ (k : Int) < 4 := by omega
      go_wp2
      go_ret
      exact ⟨rfl, rfl⟩
end
end Go.Proofs.Ytbejafjpdplofac.Cc
