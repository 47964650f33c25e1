/-
  No statement of the program: 'cut' of the statements through the layers, over this seat's translation.
-/
import Derived.Test.YtockkmoanbddpaaFrm3
namespace Go.Proofs.Ytockkmoanbddpaa.St
open Go.RowKit

set_option maxHeartbeats 400000 in
theorem cut_ok {w : World} {ao : Option Addr} {len cap m : Nat} {z : Nat → UInt8} (n : Int) (hn : (m : Int) = min (len : Int) n) (hlen : len ≤ cap) (hnil : ao = none → cap = 0) (hm : m ≤ 65536) (hz : Bs w ao len z) :
    Calls Try.prog 49 #[.slice ao len cap, .int .i64 n] w fun r w' => ∃ a2 c2, r = .returned (.slice a2 m c2) ∧ m ≤ c2 ∧ Bs w' a2 m z ∧ (∀ a, a2 = some a → w.heap.size ≤ a.block) ∧ Kept [] w w' := by
  have en : min (len : Int) n = (m : Int) := hn.symm
  have hcut := run_cut0 Try.underlying23 Fr.info ao len cap .i64 (j := (m : Int)) m rfl (by omega)
  obtain ⟨i0, hi, hz0, hz1, hz2⟩ := info_parts Fr.info
  have HZ := hide (hz.take (show m ≤ len by omega))
  have HN : Hid (ao = none → m = 0 ∧ cap = 0) := hide (fun e => by have := hnil e; omega)
  clear hn hz hnil
  have OW : Hid ((w.alloc (.cells #[] 5)).ownsRow w.heap.size 5 1 (.slice (some ⟨w.heap.size, 0, none⟩) 0 0) 0 []) := hide (World.ownsRow_made w #[] 0 (Nat.le_refl _) (by decide) rfl)
  go_enter Try.func49, Try.ntmps49
  go_wp2_with (at_builtin; refine wpList_append_any rfl _ _ 23 rfl w.heap.size 5 i0 (.int .u8 0) 1 Try.underlying23 hi hz0 hz1 hz2 rfl _ 0 [] rfl OW.out ao m cap (bvs m z) rfl (bvs_length _ _) HN.out ?news (bvs_one _ _) ?c1 ?c2 ?c3 ?_)
  case news => exact (HZ.out.kept0 ((Kept.refl [] w).alloc _)).news
  case c1 => unfold maxLen; omega
  case c2 => omega
  case c3 => simp
  intro v2 w2 hown hgrow
  have hk2 : Kept [] w w2 := own_grown OW.out hgrow w ((Kept.refl [] w).alloc _) (Nat.le_refl _)
  have hf : ∃ a2 c2, v2 = .slice a2 m c2 ∧ m ≤ c2 ∧ Bs w2 a2 m z ∧ ∀ a, a2 = some a → w.heap.size ≤ a.block := by
    obtain ⟨a2, c2, rfl, _, h5, h6⟩ := Bs.of_own hown
    refine ⟨a2, c2, rfl, ?_, h5, h6⟩
    rcases hown.2 with ⟨hv, h0⟩ | ⟨g, c', cur, hv, _, _, hc, _⟩
    · rw [h0]; exact Nat.zero_le _
    · cases hv; exact hc
  obtain ⟨a2, c2, rfl, h5, h6, h7⟩ := hf
  have R := hide (And.intro h5 (And.intro h6 (And.intro h7 hk2)))
  clear hown hgrow hk2 h5 h6 h7
  go_wp2
  go_ret
  exact ⟨a2, c2, rfl, R.out⟩
end Go.Proofs.Ytockkmoanbddpaa.St
