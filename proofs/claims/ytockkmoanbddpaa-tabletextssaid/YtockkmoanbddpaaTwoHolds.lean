/-
  No statement of the program: 'tables' of the statements on tables answers true, over this seat's translation.
-/
import Derived.Test.YtockkmoanbddpaaTwoII
import Derived.Test.YtockkmoanbddpaaTwoIS
namespace Go.Proofs.Ytockkmoanbddpaa.Tb
open Go.RowKit

theorem okSI {x : Int} (h : -9223372036854775808 ≤ x) (h2 : x ≤ 9223372036854775807) : SI.ok x := okI_of h h2
theorem okSS {x : ByteArray} (h : x.size ≤ maxLen) : SS.ok x := h
set_option maxRecDepth 20000 in
set_option maxHeartbeats 1000000 in
theorem tables_true (w : World) : Calls Try.prog 28 #[] w fun e w' => e = .returned (.bool true) ∧ Kept [] w w' := by
  have oa : SS.ok ⟨#[97]⟩ := okSS (by decide)
  have ob : SS.ok ⟨#[98]⟩ := okSS (by decide)
  have o1 : SI.ok 1 := okSI (by decide) (by decide)
  have E1 := hide (mput_same (fun _ : Int => (none : Option ByteArray)) 1 ⟨#[97]⟩)
  have E2 : Hid (mput (fun _ : ByteArray => (none : Option Int)) ⟨#[97]⟩ 1 ⟨#[98]⟩ = none) := hide (mput_other _ _ _ _ (by decide))
  have F1 : Hid (mput (mdel (mput (fun _ : ByteArray => (none : Option Int)) ⟨#[97]⟩ 1) ⟨#[97]⟩) ⟨#[98]⟩ 1 ⟨#[97]⟩ = none) := hide (by rw [mput_other _ _ _ _ (by decide), mdel_same])
  have F2 := hide (mput_same (mdel (mput (fun _ : ByteArray => (none : Option Int)) ⟨#[97]⟩ 1) ⟨#[97]⟩) ⟨#[98]⟩ 1)
  have OK := hide (And.intro oa (And.intro ob o1))
  clear oa ob o1
  go_enter Try.func28, Try.ntmps28
  go_wp2_with fail
  refine (TIS.new_ok _).mono ?_
  rintro e w1 ⟨g, bt, bf, rfl, t1, hg, hbt, hbf, k1⟩
  have T1 := hide t1
  have K1 := hide k1
  clear t1 k1
  go_wp2_with fail
  refine (TIS.map_ok 1 ⟨#[97]⟩ OK.out.2.2 OK.out.1 T1.out (by decide) (by decide) (by decide) rfl rfl).mono ?_
  rintro e w2 ⟨rfl, t2, k2⟩
  have T2 := hide t2
  have K2 := hide (K1.out.trans k2 (by intro x hx hl; simp at hx; omega))
  clear t2 k2 T1 K1
  go_wp2_with fail
  refine (TIS.remap_ok 1 ⟨#[97]⟩ ⟨#[98]⟩ OK.out.2.2 OK.out.1 OK.out.2.1 T2.out (by decide) (by decide) (by decide) E1.out E2.out).mono ?_
  rintro e w3 ⟨rfl, t3, k3⟩
  have T3 := hide t3
  have K3 := hide (K2.out.trans k3 (by intro x hx hl; simp at hx; omega))
  clear t3 k3 T2 K2
  go_wp2_with fail
  refine (TIS.from_any ⟨#[97]⟩ OK.out.1 T3.out 0 false (by rw [F1.out]; rfl) (by rw [F1.out]; rfl)).mono ?_
  rintro e w4 ⟨rfl, k4⟩
  have T4 := hide (T3.out.kept0 k4)
  have K4 := hide (K3.out.next k4)
  clear k4 T3 K3
  go_wp2_with fail
  refine (TIS.from_any ⟨#[98]⟩ OK.out.2.1 T4.out 1 true (by rw [F2.out]; rfl) (by rw [F2.out]; rfl)).mono ?_
  rintro e w5 ⟨rfl, k5⟩
  have T5 := hide (T4.out.kept0 k5)
  have K5 := hide (K4.out.next k5)
  clear k5 T4 K4
  go_wp2_with fail
  refine (TIS.len_any T5.out).mono ?_
  rintro e w6 ⟨rfl, hw6⟩
  subst w6
  go_wp2
  go_ret
  exact ⟨rfl, K5.out⟩
end Go.Proofs.Ytockkmoanbddpaa.Tb
