
/-
  No statement of the program: a cache of a law's own, and the laws' own small check, over this seat's translation. 'CB W w p L': at p, behind W, lies a cache whose lists are L; 'CV': and v is the list l, apart from it.
-/
import Derived.Test.YtbejafjpdplofacCch2
namespace Go.Proofs.Ytbejafjpdplofac.Cc
open Go.ChangeShapes Go.WideShapes Go.ChangeAt Go.RowKit By
def CB (W w : World) (p : Nat) (L : Nat → List Nat) : Prop := ∃ S, CA w 53 p S L ∧ Kept [] W w ∧ ∀ b, b ∈ foot p S → W.heap.size ≤ b
def CV (W w : World) (p : Nat) (L : Nat → List Nat) (v : Value) (l : List Nat) : Prop := ∃ S, CA w 53 p S L ∧ Kept [] W w ∧ (∀ b, b ∈ foot p S → W.heap.size ≤ b) ∧ NL w v l ∧ (∀ b, v.ownBlock = some b → W.heap.size ≤ b ∧ b ∉ foot p S)
section
variable {W w : World} {p : Nat} {L : Nat → List Nat} {v : Value} {l : List Nat}
theorem CB.kept (h : CB W w p L) : Kept [] W w := by obtain ⟨S, h1, h2, h3⟩ := h; exact h2
theorem CV.kept (h : CV W w p L v l) : Kept [] W w := by obtain ⟨S, h1, h2, h3⟩ := h; exact h2
theorem CB.next {w' : World} (h : CB W w p L) (k : Kept [] w w') : CB W w' p L := by obtain ⟨S, h1, h2, h3⟩ := h; exact ⟨S, h1.kept0 k, h2.next k, h3⟩
theorem CV.next {w' : World} (h : CV W w p L v l) (k : Kept [] w w') : CV W w' p L v l := by obtain ⟨S, h1, h2, h3, h4, h5⟩ := h; exact ⟨S, h1.kept0 k, h2.next k, h3, h4.kept k (fun _ _ => by simp), h5⟩
theorem CV.cb (h : CV W w p L v l) : CB W w p L := by obtain ⟨S, h1, h2, h3, -⟩ := h; exact ⟨S, h1, h2, h3⟩
theorem CV.nl (h : CV W w p L v l) : NL w v l := by obtain ⟨S, h1, h2, h3, h4, -⟩ := h; exact h4
theorem CV.of_cb (h : CB W w p L) : CV W w p L (.slice none 0 0) [] := by obtain ⟨S, h1, h2, h3⟩ := h; exact ⟨S, h1, h2, h3, .inl ⟨rfl, rfl⟩, fun b hb => by cases hb⟩
theorem CB.congr {M : Nat → List Nat} (h : CB W w p L) (e : ∀ k, k < 4 → L k = M k) : CB W w p M := by
  obtain ⟨S, h1, h2, h3⟩ := h
  exact ⟨S, ⟨h1.row, fun k hk => e k hk ▸ h1.list k hk, h1.np, h1.apart⟩, h2, h3⟩
theorem CV.congr {M : Nat → List Nat} (h : CV W w p L v l) (e : ∀ k, k < 4 → L k = M k) : CV W w p M v l := by
  obtain ⟨S, h1, h2⟩ := h
  exact ⟨S, ⟨h1.row, fun k hk => e k hk ▸ h1.list k hk, h1.np, h1.apart⟩, h2⟩
theorem CB.new (h : Kept [] W w) : Calls Try.prog 6 #[] w fun e w' => ∃ p, e = .returned (.pointer (some ⟨p, 0, none⟩)) ∧ CB W w' p (fun _ => []) := by
  refine (new_ok w).mono ?_
  rintro e w' ⟨rfl, h1, h2, -⟩
  refine ⟨_, rfl, _, h1, h.next h2, fun b hb => ?_⟩
  rcases mem_foot.1 hb with e | ⟨k, hk, e⟩
  · rw [e]; exact h.size
  · cases e
theorem CV.push (h : CV W w p L v l) {k : Nat} (hk : k < 4) (hl : (L k).length < 8) (x : Nat) : Calls Try.prog 8 #[.pointer (some ⟨p, 0, none⟩), .int .i64 k, .int .i64 x] w fun e w' => e = .returned (.tuple #[.bool true, .int .i64 0]) ∧ CV W w' p (up L k (L k ++ [x])) v l := by
  obtain ⟨S, h1, h2, h3, h4, h5⟩ := h
  refine (push_ok h1 hk hl x).mono ?_
  rintro e w' ⟨rfl, S', a1, a2, a3⟩
  refine ⟨rfl, S', a1, h2.trans a2 (fun y hy hlt => absurd (h3 y hy) (Nat.not_le.2 hlt)), fun b hb => ?_, h4.kept a2 (fun b hb => (h5 b hb).2), fun b hb => ⟨(h5 b hb).1, fun hf => ?_⟩⟩
  · rcases a3 b hb with e | e
    · exact h3 b e
    · exact Nat.le_trans h2.size e
  · rcases a3 b hf with e | e
    · exact (h5 b hb).2 e
    · have := h4.lt hb; omega
theorem CV.full (h : CV W w p L v l) {k : Nat} (hk : k < 4) (hl : (L k).length = 8) (x : Int) : Calls Try.prog 8 #[.pointer (some ⟨p, 0, none⟩), .int .i64 k, .int .i64 x] w fun e w' => e = .returned (.tuple #[.bool false, .int .i64 0]) ∧ w' = w := by
  obtain ⟨S, h1, -⟩ := h
  exact push_full h1 hk hl x
theorem CV.len (h : CV W w p L v l) {k : Nat} (hk : k < 4) : Calls Try.prog 12 #[.pointer (some ⟨p, 0, none⟩), .int .i64 k] w fun e w' => e = .returned (.int .i64 (L k).length) ∧ w' = w := by
  obtain ⟨S, h1, -⟩ := h
  exact len_ok h1 hk
theorem CV.pop (h : CV W w p L v l) {k n : Nat} (hk : k < 4) (hl : (L k).length = n + 1) (h8 : n < 8) : Calls Try.prog 9 #[.pointer (some ⟨p, 0, none⟩), .int .i64 k] w fun e w' => e = .returned (.tuple #[.int .i64 ((L k).getD n 0 : Nat), .bool true]) ∧ CV W w' p (up L k ((L k).take n)) v l := by
  obtain ⟨S, h1, h2, h3, h4, h5⟩ := h
  refine (pop_ok h1 hk hl h8).mono ?_
  rintro e w' ⟨rfl, S', a1, a2, a3⟩
  refine ⟨rfl, S', a1, h2.trans a2 (fun y hy hlt => absurd (h3 y hy) (Nat.not_le.2 hlt)), fun b hb => ?_, h4.kept a2 (fun b hb => (h5 b hb).2), fun b hb => ⟨(h5 b hb).1, fun hf => ?_⟩⟩
  · rcases a3 b hb with e | e
    · exact h3 b e
    · exact Nat.le_trans h2.size e
  · rcases a3 b hf with e | e
    · exact (h5 b hb).2 e
    · have := h4.lt hb; omega
theorem CB.flush (h : CB W w p L) {k n : Nat} (hk : k < 4) (h1 : 1 ≤ n) (hl : n ≤ (L k).length) (h8 : (L k).length ≤ 8) : Calls Try.prog 11 #[.pointer (some ⟨p, 0, none⟩), .int .i64 k, .int .i64 n] w fun e w' => ∃ v, e = .returned v ∧ CV W w' p (up L k ((L k).drop n)) v ((L k).take n) := by
  obtain ⟨S, g1, g2, g3⟩ := h
  refine (flush_ok g1 hk h1 hl h8).mono ?_
  rintro e w' ⟨v, rfl, a1, a2, S', a3, a4, a5, a6⟩
  refine ⟨v, rfl, S', a3, g2.trans a4 (fun y hy hlt => absurd (g3 y hy) (Nat.not_le.2 hlt)), fun b hb => ?_, a1, fun b hb => ⟨Nat.le_trans g2.size (a2 b hb), a6 b hb⟩⟩
  rcases a5 b hb with e | e
  · exact g3 b e
  · exact Nat.le_trans g2.size e
end
theorem up_up {α : Type} (S : Nat → α) (k : Nat) (a b : α) : up (up S k a) k b = up S k b := by
  funext j
  unfold up
  by_cases e : j = k <;> simp [e]
theorem up_at {α : Type} (S : Nat → α) (k : Nat) (a : α) : up S k a k = a := by unfold up; rw [if_pos rfl]
set_option maxRecDepth 20000 in
set_option maxHeartbeats 2000000 in
theorem caches_true (w : World) : Calls Try.prog 7 #[] w fun e w' => e = .returned (.bool true) ∧ Kept [] w w' := by
  go_enter Try.func7, Try.ntmps7
  go_wp2_with fail
  refine (CB.new (Kept.refl [] w)).mono ?_
  rintro e w1 ⟨p, rfl, hC⟩
  have C1 := hide (show CV w w1 p (up (fun _ => []) 2 ((List.range 0).map (· + 1))) (.slice none 0 0) [] from CV.of_cb (hC.congr (fun k hk => by unfold up; split <;> rfl)))
  clear hC
  go_wp2_with fail
  go_loopw [2] (fun v wr => ∃ i : Nat, i ≤ 3 ∧ v = .int .i64 (i + 1 : Nat) ∧ CV w wr p (up (fun _ => []) 2 ((List.range i).map (· + 1))) (.slice none 0 0) []) (fun v _ => 4 - (intOf v).toNat)
  case atStart => exact ⟨0, by omega, rfl, C1.out⟩
  case round =>
    obtain ⟨i, hi, rfl, hC⟩ := hrel
    have C := hide hC
    clear hC C1
    by_cases hi3 : i < 3
    · have hii : ((i + 1 : Nat) : Int) < 4 := by omega
      have hP := C.out.push (k := 2) (by decide) (by rw [up_at]; simp; omega) (i + 1)
      rw [up_at, up_up] at hP
      have P := hide hP
      clear hP
      go_wp2_with fail
      refine P.out.mono ?_
      rintro e w2 ⟨rfl, hC⟩
      have C2 := hide hC
      clear hC P C
      go_wp2
      go_roundw
      case rel => exact ⟨i + 1, by omega, by go_num, by rw [List.range_succ, List.map_append]; exact C2.out⟩
      case measure => simp [intOf]; omega
    · have hie : i = 3 := by omega
      subst hie
      have hP := C.out.pop (k := 2) (n := 2) (by decide) (by rw [up_at]; rfl) (by decide)
      rw [up_at, up_up] at hP
      have P := hide hP
      clear hP
      go_wp2_with fail
      refine P.out.mono ?_
      rintro e w2 ⟨rfl, hC⟩
      have C2 := hide hC
      clear hC P C
      have hF := C2.out.cb.flush (k := 2) (n := 1) (by decide) (by decide) (by rw [up_at]; decide) (by rw [up_at]; decide)
      rw [up_at, up_up] at hF
      have F := hide hF
      clear hF
      go_wp2_with fail
      refine F.out.mono ?_
      rintro e w3 ⟨v, rfl, hC⟩
      have C3 := hide hC
      clear hC F C2
      obtain ⟨ao, cap, hv, hc⟩ := C3.out.nl.slice
      obtain ⟨b, hao, hcb⟩ := hc 0 (by decide)
      subst hao
      subst hv
      have hcb2 : w3.cell? ⟨b, 0, none⟩ = some (.int .i64 1) := hcb
      have hL := C3.out.len (k := 2) (by decide)
      rw [up_at] at hL
      have HL := hide hL
      clear hL hc hcb
      have e1 : (List.take 1 (List.take 2 ((List.range 3).map (· + 1)))).length = 1 := by decide

      rw [e1]
      go_wp2_with (go_at_call 12; refine HL.out.mono ?_; rintro e w' ⟨rfl, hw⟩; subst w')
      go_ret
      exact ⟨by rfl, C3.out.kept⟩
end Go.Proofs.Ytbejafjpdplofac.Cc
