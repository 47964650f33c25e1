
/-
  No statement of the program: Load of package frames once more, saying also that what is nil has no room.
-/
import Derived.Test.YtdgmfcnblaamcabFrm3
namespace Go.Proofs.Ytdgmfcnblaamcab.Fr
open Go.RowKit

theorem of_own2 {w : World} {n base : Nat} {z : Nat → UInt8} {t : TypeId} {v : Value} (h : w.ownsRow base t 1 v n (bvs n z)) : ∃ ao cap, v = .slice ao n cap ∧ Bs w ao n z ∧ (∀ a, ao = some a → base ≤ a.block) ∧ (ao = none → n = 0 ∧ cap = 0) := by
  obtain ⟨ao, cap, rfl, -, hb, ha⟩ := Bs.of_own h
  refine ⟨ao, cap, rfl, hb, ha, ?_⟩
  rintro rfl
  rcases h.2 with ⟨hv, h0⟩ | ⟨g, c', cur, hv, _⟩
  · cases hv; exact ⟨h0, rfl⟩
  · cases hv
set_option maxHeartbeats 400000 in
/-- Load, of bytes that there are. -/
theorem load_full {w : World} {g c n e t : Nat} {f : Nat → UInt8} (k at_ m : Nat) (h : StoreAt w g c n e t f) (hk : k < t) (hm : at_ + m ≤ 64) :
    Calls Try.prog 19 #[.pointer (some ⟨g, 0, none⟩), .int .i64 k, .int .i64 at_, .int .i64 m] w fun r w' => ∃ ao cap, r = .returned (.tuple #[.slice ao m cap, .int .i64 0]) ∧ Bs w' ao m (fun i => f (k * 64 + at_ + i)) ∧ (∀ a, ao = some a → w.heap.size ≤ a.block) ∧ (ao = none → m = 0 ∧ cap = 0) ∧ Kept [] w w' := by
  have H := hide h
  have ht := h.t8192
  have hchk : chk t k at_ m = 0 := chk_ok (hasB_true (by omega)) (by omega)
  have CH := hide hchk
  have hcut := run_cut Try.underlying23 info (some ⟨c, k * 64, none⟩) 64 (t * 64 - k * 64) .i64 .i64 (i := (at_ : Int)) (j := (at_ : Int) + (m : Int)) at_ (at_ + m) rfl (by omega) (by omega) (by omega)
  rw [Nat.add_sub_cancel_left] at hcut
  obtain ⟨x, hx⟩ := cutA_some ⟨c, k * 64, none⟩ (t * 64 - k * 64) at_
  rw [hx] at hcut
  have HX := hide hx
  obtain ⟨i0, hi, hz0, hz1, hz2⟩ := info_parts info
  clear h hx hchk
  go_enter Try.func19, Try.ntmps19
  go_wp2_with (first | (go_at_call 29; refine (check_any k at_ m H.out (by omega)).mono ?_; rintro r w1 ⟨rfl, k1⟩; rw [CH.out]) | (go_at_call 30; refine (all_ok k (by exact H.out.kept0 k1) hk).mono ?_; rintro r w2 ⟨rfl, hw2⟩; subst w2) | (at_builtin; refine wpList_append_own _ rfl _ _ 23 rfl w.heap.size 5 i0 (.int .u8 0) 1 1 Try.underlying23 hi hz0 hz1 hz2 rfl (by decide) _ _ _ rfl (own_nil _ _ _) x m _ (bvs m (fun i => f (k * 64 + at_ + i))) rfl ?c0 ?c1 ?c2 ?c3 ?c4 ?c5 ?_))
  case c0 => simp [bvs_length]
  case c1 =>
    intro j u hu
    have hj : j < m := by simpa [bvs_length] using getElem?_lt hu
    have hx := HX.out
    rw [cutA_lt (by omega), Option.map_some, add_plain] at hx
    obtain rfl := Option.some.inj hx
    have hr := (H.out.kept0 k1).row.cell (i := k * 64 + at_ + j) (by omega)
    rw [add_plain, hr, ← hu, bvs_at hj]
  case c2 => exact bvs_one _ _
  case c3 => unfold maxLen; omega
  case c4 => omega
  case c5 => exact k1.size
  intro v' w2 hown hgrow _
  obtain ⟨ao, cap, rfl, hb, ha, hno⟩ := of_own2 hown
  have R := hide (And.intro hb (And.intro ha (And.intro hno (k1.trans (Kept.of_grownBy (L := []) hgrow (by simp [Value.ownBlock])) (by simp)))))
  clear hown hgrow hb ha hno k1
  go_wp2
  go_ret2
  exact ⟨ao, cap, rfl, R.out⟩
end Go.Proofs.Ytdgmfcnblaamcab.Fr
