
/-
  No statement of the program: New, Runs, the calls of no space and Take out of its range, of package space, over this seat's translation.
-/
import Derived.Test.YtdgmfcnblaamcaaSpc12
namespace Go.Proofs.Ytdgmfcnblaamcaa.Sc
open Go.ChangeShapes Go.WideShapes Go.ChangeAt Go.RowKit
set_option maxHeartbeats 1000000 in
theorem take_bad {w : World} {r : Nat} {need : Int} (h : need < 1 ∨ 4095 < need) :
    Calls Try.prog 7 #[.pointer (some ⟨r, 0, none⟩), .int .i64 need] w fun e w' => e = .returned (.tuple #[.int .i64 0, .int .i64 1]) ∧ Kept [] w w' := by
  rcases h with h | h
  · go_enter Try.func7, Try.ntmps7
    go_wp2_with fail
    go_ret2
    exact ⟨rfl, Kept.refl _ _⟩
  · have h2 : ¬ need < 1 := by omega
    go_enter Try.func7, Try.ntmps7
    go_wp2_with fail
    go_ret2
    exact ⟨rfl, Kept.refl _ _⟩
theorem take_nil (w : World) (need : Int) : Calls Try.prog 7 #[.pointer none, .int .i64 need] w fun e w' => e = .returned (.tuple #[.int .i64 0, .int .i64 1]) ∧ w' = w := by
  go_enter Try.func7, Try.ntmps7
  go_wp2_with fail
  go_ret2
  exact ⟨rfl, rfl⟩
theorem give_nil (w : World) (first : Int) : Calls Try.prog 8 #[.pointer none, .int .i64 first] w fun e w' => e = .returned (.tuple #[.int .i64 0, .int .i64 1]) ∧ w' = w := by
  go_enter Try.func8, Try.ntmps8
  go_wp2_with fail
  go_ret2
  exact ⟨rfl, rfl⟩
theorem of_nil (w : World) (page : Int) : Calls Try.prog 9 #[.pointer none, .int .i64 page] w fun e w' => e = .returned (.tuple #[.int .i64 0, .int .i64 0, .bool false]) ∧ w' = w := by
  go_enter Try.func9, Try.ntmps9
  go_wp2_with fail
  go_ret3
  exact ⟨rfl, rfl⟩
theorem runs_nil (w : World) : Calls Try.prog 11 #[.pointer none] w fun e w' => e = .returned (.slice none 0 0) ∧ w' = w := by
  go_enter Try.func11, Try.ntmps11
  go_wp2_with fail
  go_ret
  exact ⟨rfl, rfl⟩
theorem free_nil (w : World) : Calls Try.prog 12 #[.pointer none] w fun e w' => e = .returned (.int .i64 0) ∧ w' = w := by
  go_enter Try.func12, Try.ntmps12
  go_wp2_with fail
  go_ret
  exact ⟨rfl, rfl⟩
theorem none_ok (w : World) : Calls Try.prog 6 #[] w fun e w' => e = .returned (.pointer none) ∧ w' = w := by
  go_enter Try.func6, Try.ntmps6
  go_wp2_with fail
  go_ret
  exact ⟨rfl, rfl⟩
theorem new_ok (w : World) : Calls Try.prog 13 #[] w fun e w' => e = .returned (.pointer (some ⟨w.heap.size, 0, none⟩)) ∧ w' = w.alloc (.cells #[.slice none 0 0] 53) := by
  go_enter Try.func13, Try.ntmps13
  go_wp2_with fail
  go_ret
  exact ⟨rfl, rfl⟩
def ivn (n : Nat) : Value := .int .i64 n
theorem info3 : (Try.prog.info? 3).map (fun i => (i.zero, i.size, i.bytes)) = some (some (.int .i64 0), 1, 8) := by kernel_rfl
set_option maxHeartbeats 4000000 in
set_option maxRecDepth 100000 in
theorem runs_any {w : World} {r : Nat} {ao : Option Addr} {n cap : Nat} {F C : Nat → Nat} (h : RW w r ao n cap F C) :
    Calls Try.prog 11 #[.pointer (some ⟨r, 0, none⟩)] w fun e w' => ∃ v, e = .returned v ∧ Kept [] w w' ∧ w'.ownsRow w.heap.size 3 1 v n ((List.range n).map (fun i => ivn (F i))) := by
  have hc := h.c
  have hle := h.le
  have h8 := h.m
  have HR := hide h
  obtain ⟨i3, I3, Z3, S3, B3⟩ : ∃ i, Try.prog.info? 3 = some i ∧ i.zero = some (.int .i64 0) ∧ i.size = 1 ∧ i.bytes = 8 := by
    obtain ⟨ti, hti, hz⟩ := Option.map_eq_some_iff.1 info3
    simp only [Prod.mk.injEq] at hz
    exact ⟨ti, hti, hz.1, hz.2.1, hz.2.2⟩
  have I := hide I3
  have Z := hide Z3
  have S := hide S3
  have B := hide B3
  clear h I3 Z3 S3 B3
  go_enter Try.func11, Try.ntmps11
  go_wp2_with fail
  go_loopw [3, 13] (fun v i wr => ∃ k : Nat, k ≤ n ∧ i = .int .i64 k ∧ Kept [] w wr ∧ wr.ownsRow w.heap.size 3 1 v k ((List.range k).map (fun i => ivn (F i)))) (fun _ i _ => n - (intOf i).toNat)
  case atStart => exact ⟨0, by omega, rfl, Kept.refl _ _, World.ownsRow_nil _ _ _ _⟩
  case round =>
    obtain ⟨k, hk, rfl, hKk, hO⟩ := hrel
    have K := hide hKk
    have O := hide hO
    clear hO
    by_cases hkn : k < n
    · have hki : (k : Int) < (n : Int) := by omega
      obtain ⟨b, rfl, c0, c1⟩ := (HR.out.kept hKk (by simp) (fun _ _ => by simp)).cell (i := k) hkn
      unfold iv at c0 c1
      obtain ⟨f, hf⟩ : ∃ f, f = F k := ⟨_, rfl⟩
      rw [← hf] at c0
      have HE := hide hf
      generalize C k = cc at c1
      clear hf hKk
      go_wp2_with (at_builtin; go_loud (refine wpList_append_own_at _ rfl _ _ _ rfl w.heap.size 3 i3 (.int .i64 0) 1 8 Try.underlying31 I.out Z.out S.out B.out rfl (by decide) u3 k ((List.range k).map (fun i => ivn (F i))) rfl ((O.out.alloc _).alloc _) ⟨_, 0, none⟩ 1 1 [ivn f] rfl rfl (fun j u hj => by have h9 := news_one (w := wr.alloc (.cells #[.int .i64 f, .int .i64 cc] 51)) (v := ivn f) (t := 3) j u hj; rw [show (wr.alloc (.cells #[.int .i64 f, .int .i64 cc] 51)).heap.size = wr.heap.size + 1 from by simp] at h9; exact h9) (by simp [ivn, Value.oneCell']) (by unfold maxLen; omega) (by omega) (by have := K.out.size; simp; omega) ?_))
      intro v' w7 o7 g7 _ b7
      have K7 := hide (own_grown ((O.out.alloc _).alloc _) g7 w ((K.out.alloc _).alloc _) (Nat.le_refl _))
      have O7 := hide (show w7.ownsRow w.heap.size 3 1 v' (k + 1) ((List.range (k + 1)).map (fun i => ivn (F i))) from by
        rw [List.range_succ, List.map_append]
        show w7.ownsRow _ 3 1 v' (k + 1) (_ ++ [ivn (F k)])
        rw [← HE.out]; exact o7)
      clear o7 g7 b7 O K
      go_wp2
      go_roundw
      case rel => exact ⟨k + 1, by omega, by go_num, K7.out, O7.out⟩
      case measure => simp [intOf]; omega
    · have e : k = n := by omega
      subst e
      have hki : ¬ (k : Int) < (k : Int) := by omega
      clear hKk
      go_wp2
      go_ret
      exact ⟨_, rfl, K.out, O.out⟩
end Go.Proofs.Ytdgmfcnblaamcaa.Sc
