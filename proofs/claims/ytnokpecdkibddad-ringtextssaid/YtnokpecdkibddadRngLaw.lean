
/-
  No statement of the program: 'rings' of messuagelaw14, over this seat's translation.
-/
import Derived.Test.YtnokpecdkibddadRngS
import Derived.Test.YtnokpecdkibddadRngI
namespace Go.Proofs.Ytnokpecdkibddad.RL
open Go.RowKit

set_option maxRecDepth 20000 in
set_option maxHeartbeats 1000000 in
theorem rings_true (w : World) : Calls Try.prog 6 #[] w fun e w' => e = .returned (.bool true) ∧ Kept [] w w' := by
  have hn := RS.new_ok 1 (by omega) (by omega) w
  go_enter Try.func6, Try.ntmps6
  go_wp2_with fail
  refine hn.mono ?_
  rintro e w1 ⟨v, rfl, r, c, rfl, hR, hr, hc, hK⟩
  have K1 := hide hK
  have hp := RS.put_room hR (show ([] : List ByteArray).length < 1 by simp) ⟨#[97]⟩
  rw [show ([] : List ByteArray) ++ [⟨#[97]⟩] = [⟨#[97]⟩] from rfl] at hp
  clear hn hR hK
  go_wp2_with fail
  refine hp.mono ?_
  rintro e w2 ⟨rfl, hR2, hK2⟩
  have K2 := hide (K1.out.trans hK2 (fun x hx hl => by simp at hx; omega))
  have hf := RS.put_full hR2 (by simp) ⟨#[98]⟩
  have ht := RS.take_some hR2
  clear hp hK2 hR2
  go_wp2_with fail
  refine hf.mono ?_
  rintro e w' ⟨rfl, hw⟩
  subst w'
  clear hf
  go_wp2_with fail
  refine ht.mono ?_
  rintro e w3 ⟨rfl, hR3, hK3⟩
  have K3 := hide (K2.out.trans hK3 (fun x hx hl => by simp at hx; omega))
  have ht2 := RS.take_none hR3
  have hrm := RS.room_any hR3 (by simp) (by omega)
  clear ht hK3 hR3
  go_wp2_with fail
  refine ht2.mono ?_
  rintro e w' ⟨rfl, hw⟩
  subst w'
  clear ht2
  go_wp2_with (go_at_call 17; refine hrm.mono ?_; rintro e w' ⟨rfl, hw⟩; subst w')
  go_ret
  exact ⟨rfl, K3.out⟩
end Go.Proofs.Ytnokpecdkibddad.RL
