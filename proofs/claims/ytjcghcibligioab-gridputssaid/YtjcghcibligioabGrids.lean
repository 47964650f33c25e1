/-
  No statement of the program: the statements' own helper 'grids' (a small table, put and turned) answers true, over this seat's translation.
-/
import Derived.Test.YtjcghcibligioabTurnedI
namespace Go.Proofs.Ytjcghcibligioab
open Go.RowKit GI

set_option maxHeartbeats 1000000 in
theorem grids_true (w : World) : Calls Try.prog 9 #[] w fun e w' => e = .returned (.bool true) ∧ Kept [] w w' := by
  go_enter Try.func9, Try.ntmps9
  go_wp2_with fail
  refine (new_ok 2 3 (by decide) (by decide)).mono ?_
  rintro e w1 ⟨g, c, rfl, hG, hg, hc, k1⟩
  go_wp2_with fail
  refine (put_ok 1 2 7 hG (by decide) (by decide)).mono ?_
  rintro e w2 ⟨rfl, hG2, k2⟩
  have K2 : Kept [] w w2 := k1.trans k2 (by intro x hx hl; simp at hx; omega)
  go_wp2_with fail
  refine (turned_ok hG2).mono ?_
  rintro e w3 ⟨g', c', rfl, hT, hg', hc', k3⟩
  have hG3 := hG2.kept k3 (by simp) (by simp)
  have K3 := K2.next k3
  have e5 : turn 2 3 (fun j => if j = 1 * 3 + 2 then (7 : Int) else 0) 5 = 7 := by decide
  have a0 := hG3.c0
  have a1 := hG3.c1
  have hA := at_ok 2 1 hT (by decide) (by decide)
  rw [e5] at hA
  clear hG hG2 hG3 hT k1 k2 K2 k3 e5
  have HA := hide hA
  clear hA
  go_wp2_with fail
  refine HA.out.mono ?_
  rintro e w4 ⟨rfl, rfl⟩
  go_wp2_with (first | (go_at_call 11; refine (rows_any g 2 _ (by exact a0)).mono ?_; rintro e w5 ⟨rfl, rfl⟩) | (go_at_call 12; refine (cols_any g 3 _ (by exact a1)).mono ?_; rintro e w5 ⟨rfl, rfl⟩))
  go_ret
  exact ⟨rfl, K3.drew⟩
end Go.Proofs.Ytjcghcibligioab
