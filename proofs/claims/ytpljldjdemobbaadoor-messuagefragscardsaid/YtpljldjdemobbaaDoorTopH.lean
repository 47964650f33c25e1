
/-
  No statement of the program: 'halves' of the statements through the layers answers true, over this seat's translation.
-/
import Derived.Test.YtpljldjdemobbaaDoorHalves
namespace Go.Proofs.YtpljldjdemobbaaDoor.By
open Go.ChangeShapes Go.WideShapes Go.ChangeAt Go.RowKit
set_option maxHeartbeats 1000000 in
/-- 'halves' of the statements through the layers. -/
theorem toph_true {w : World} (hT : Tab w) : Calls Tryd.prog 22 #[] w fun e w' => e = .returned (.bool true) ∧ Kept [] w w' := by
  have T := hide hT
  clear hT
  go_enter Tryd.func22, Tryd.ntmps22
  go_wp2_with fail
  refine (bs_new 2 4 (by decide) rfl T.out rfl).mono ?_
  rintro e w1 ⟨p, F, rfl, hB, -, hF, hk⟩
  have B1 := hide hB
  have HF := hide hF
  have K1 := hide hk
  clear hB hF hk
  go_wp2_with fail
  refine (bs_take 0 2 0 B1.out (least0 (by decide) (by decide)) rfl).mono ?_
  rintro e w2 ⟨f', F2, rfl, hf, hB, hk, hF2⟩
  have hf7 : f' = 3 := by omega
  subst hf7
  have B2 := hide hB
  have K2 := hide (K1.out.trans hk (fun x hx hl => by have := HF.out x hx; omega))
  clear hB hk hF2 K1 HF B1 hf T
  go_wp2_with (go_at_call 16; refine (bs_free B2.out).mono ?_; rintro e w' ⟨rfl, hw⟩; subst w')
  go_ret
  exact ⟨rfl, K2.out⟩
end Go.Proofs.YtpljldjdemobbaaDoor.By
