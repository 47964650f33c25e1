/-
  No statement of the program: 'holds' of the statements on frames answers true, over this seat's translation.
-/
import Derived.Test.YtockkmoanbddpaaFrm3
import Derived.Lib.SlBytesConst
namespace Go.Proofs.Ytockkmoanbddpaa.Fr
open Go.RowKit

def ab (i : Nat) : UInt8 := if i = 0 then 97 else 98
theorem ab_text : bt 2 (fun i => over (fun _ => 0) 382 2 ab (382 + i)) = ⟨#[97, 98]⟩ := by
  simp [bt, bl, over, ab, List.range_succ]
theorem ab_bytes (w : World) (fr : Nat × Nat) : Bs (w.alloc (.cells #[.int .u8 97, .int .u8 98] 5 fr)) (some ⟨w.heap.size, 0, none⟩) 2 ab := by
  intro i hi
  refine ⟨w.heap.size, 0, rfl, ?_⟩
  rw [World.cell?_alloc_mark]
  rcases (show i = 0 ∨ i = 1 by omega) with rfl | rfl <;> rfl
set_option maxHeartbeats 1000000 in
theorem holds_true (w : World) : Calls Try.prog 17 #[] w fun e w' => e = .returned (.bool true) ∧ Kept [] w w' := by
  have kc := fun (w : World) (C : Array Value) (n c : Nat) => Lib.run_convert_bytes_const (P := Try.prog) w 23 5 C n c Try.underlying23 Try.underlying5
  go_enter Try.func17, Try.ntmps17
  go_wp2_with fail
  refine (new_ok 2 4 (by decide) (by decide) (by decide) (by decide) 8 rfl).mono ?_
  rintro e w1 ⟨g, c, rfl, hS, hg, hc, k1⟩
  have S1 := hide hS
  have K1 := hide k1
  clear hS k1
  go_wp2_with fail
  refine (save_ok 5 62 2 2 _ (S1.out.kept0 ((Kept.refl [] w1).alloc _)) (by decide) (by decide) (ab_bytes w1 _)).mono ?_
  rintro e w2 ⟨rfl, hS2, k2⟩
  have S2 := hide hS2
  have K2 := hide ((K1.out.alloc _).trans k2 (by intro x hx hl; simp at hx; omega))
  clear hS2 k2 K1 S1
  go_wp2_with fail
  refine (load_ok 5 62 2 S2.out (by decide) (by decide)).mono ?_
  rintro e w3 ⟨ao, cap, rfl, hB, hb, k3⟩
  have S3 := hide (S2.out.kept0 k3)
  have K3 := hide (K2.out.next k3)
  have B3 := hide hB
  clear K2 S2 k3 hB hb
  go_wp2_with fail
  refine (node_ok 5 S3.out (by decide)).mono ?_
  rintro e w4 ⟨rfl, k4⟩
  have S4 := hide (S3.out.kept0 k4)
  have K4 := hide (K3.out.next k4)
  have B4 := hide (B3.out.kept0 k4)
  clear K3 S3 k4 B3
  go_wp2_with fail
  refine (first_ok 1 S4.out (by decide)).mono ?_
  rintro e w5 ⟨rfl, hw5⟩
  subst w5
  have hcv := run_text (cap := cap) Try.underlying23 Try.underlying5 Try.underlying9 B4.out
  rw [show bt 2 (fun i => over (fun _ => 0) (5 * 64 + 62) 2 ab (5 * 64 + 62 + i)) = ⟨#[97, 98]⟩ from ab_text] at hcv
  go_wp2_with fail
  refine (len_any S4.out).mono ?_
  rintro e w5 ⟨rfl, k5⟩
  have K5 := hide (K4.out.next k5)
  clear K4 S4 k5 B4 hcv
  go_wp2
  go_ret
  exact ⟨rfl, K5.out⟩
end Go.Proofs.Ytockkmoanbddpaa.Fr
