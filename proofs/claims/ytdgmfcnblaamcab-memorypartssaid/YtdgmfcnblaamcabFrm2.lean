
/-
  No statement of the program: the contracts of package frames, over this seat's translation (Load, Save, Copy, Clear).
-/
import Derived.Test.YtdgmfcnblaamcabFrm
namespace Go.Proofs.Ytdgmfcnblaamcab.Fr
open Go.RowKit

set_option maxHeartbeats 400000 in
/-- Load, of bytes that there are. -/
theorem load_ok {w : World} {g c n e t : Nat} {f : Nat → UInt8} (k at_ m : Nat) (h : StoreAt w g c n e t f) (hk : k < t) (hm : at_ + m ≤ 64) :
    Calls Try.prog 19 #[.pointer (some ⟨g, 0, none⟩), .int .i64 k, .int .i64 at_, .int .i64 m] w fun r w' => ∃ ao cap, r = .returned (.tuple #[.slice ao m cap, .int .i64 0]) ∧ Bs w' ao m (fun i => f (k * 64 + at_ + i)) ∧ (∀ a, ao = some a → w.heap.size ≤ a.block) ∧ Kept [] w w' := by
  have H := hide h
  have ht := h.t8192
  have hchk : chk t k at_ m = 0 := chk_ok (hasB_true (by omega)) (by omega)
  have CH := hide hchk
  have hcut := run_cut Try.underlying23 info (some ⟨c, k * 64, none⟩) 64 (t * 64 - k * 64) .i64 .i64 (i := (at_ : Int)) (j := (at_ : Int) + (m : Int)) at_ (at_ + m) rfl (by omega) (by omega) (by omega)
  rw [Nat.add_sub_cancel_left] at hcut
  obtain ⟨x, hx⟩ := cutA_some ⟨c, k * 64, none⟩ (t * 64 - k * 64) at_
  rw [hx] at hcut
  have HX := hide hx
  obtain ⟨i0, hi, hz0, hz1, hz2⟩ := info_parts info
  clear h hx hchk
  go_enter Try.func19, Try.ntmps19
  go_wp2_with (first | (go_at_call 29; refine (check_any k at_ m H.out (by omega)).mono ?_; rintro r w1 ⟨rfl, k1⟩; rw [CH.out]) | (go_at_call 30; refine (all_ok k (by exact H.out.kept0 k1) hk).mono ?_; rintro r w2 ⟨rfl, hw2⟩; subst w2) | (at_builtin; refine wpList_append_own _ rfl _ _ 23 rfl w.heap.size 5 i0 (.int .u8 0) 1 1 Try.underlying23 hi hz0 hz1 hz2 rfl (by decide) _ _ _ rfl (own_nil _ _ _) x m _ (bvs m (fun i => f (k * 64 + at_ + i))) rfl ?c0 ?c1 ?c2 ?c3 ?c4 ?c5 ?_))
  case c0 => simp [bvs_length]
  case c1 =>
    intro j u hu
    have hj : j < m := by simpa [bvs_length] using getElem?_lt hu
    have hx := HX.out
    rw [cutA_lt (by omega), Option.map_some, add_plain] at hx
    obtain rfl := Option.some.inj hx
    have hr := (H.out.kept0 k1).row.cell (i := k * 64 + at_ + j) (by omega)
    rw [add_plain, hr, ← hu, bvs_at hj]
  case c2 => exact bvs_one _ _
  case c3 => unfold maxLen; omega
  case c4 => omega
  case c5 => exact k1.size
  intro v' w2 hown hgrow _
  obtain ⟨ao, cap, rfl, -, hb, ha⟩ := Bs.of_own hown
  have R := hide (And.intro hb (And.intro ha (k1.trans (Kept.of_grownBy (L := []) hgrow (by simp [Value.ownBlock])) (by simp))))
  clear hown hgrow hb ha k1
  go_wp2
  go_ret2
  exact ⟨ao, cap, rfl, R.out.1, R.out.2.1, R.out.2.2⟩
set_option maxHeartbeats 400000 in
theorem load_bad {w : World} {g c n e t : Nat} {f : Nat → UInt8} (k at_ m : Int) (h : StoreAt w g c n e t f) (hm : m ≤ 9223372036854775807) {x : Int} (hx : chk t k at_ m = x) (h0 : x = 1 ∨ x = 7) :
    Calls Try.prog 19 #[.pointer (some ⟨g, 0, none⟩), .int .i64 k, .int .i64 at_, .int .i64 m] w fun r w' => r = .returned (.tuple #[.slice none 0 0, .int .i64 x]) ∧ Kept [] w w' := by
  have H := hide h
  have HX := hide hx
  clear h hx
  rcases h0 with rfl | rfl
  all_goals
    go_enter Try.func19, Try.ntmps19
    go_wp2_with (go_at_call 29; refine (check_any k at_ m H.out hm).mono ?_; rintro r w1 ⟨rfl, k1⟩; rw [HX.out])
    go_ret2
    exact ⟨rfl, k1⟩
set_option maxHeartbeats 400000 in
theorem load_nil (k at_ m : Int) (w : World) :
    Calls Try.prog 19 #[.pointer none, .int .i64 k, .int .i64 at_, .int .i64 m] w fun r w' => r = .returned (.tuple #[.slice none 0 0, .int .i64 1]) ∧ w' = w := by
  go_enter Try.func19, Try.ntmps19
  go_wp2_with (go_at_call 29; refine (check_nil k at_ m _).mono ?_; rintro r w1 ⟨rfl, rfl⟩)
  go_ret2
  exact ⟨rfl, rfl⟩

set_option maxHeartbeats 400000 in
/-- Save, of bytes that there is room for. -/
theorem save_ok {w : World} {g c n e t : Nat} {f z : Nat → UInt8} (k at_ m cap : Nat) (ao : Option Addr) (h : StoreAt w g c n e t f) (hk : k < t) (hm : at_ + m ≤ 64) (hz : Bs w ao m z) :
    Calls Try.prog 18 #[.pointer (some ⟨g, 0, none⟩), .int .i64 k, .int .i64 at_, .slice ao m cap] w fun r w' => r = .returned (.int .i64 0) ∧ StoreAt w' g c n e t (over f (k * 64 + at_) m z) ∧ Kept [c] w w' := by
  have H := hide h
  have ht := h.t8192
  have hchk : chk t k at_ m = 0 := chk_ok (hasB_true (by omega)) (by omega)
  have CH := hide hchk
  have HZ := hide hz
  have hcut := run_cut_from Try.underlying23 info (some ⟨c, k * 64, none⟩) 64 (t * 64 - k * 64) .i64 (i := (at_ : Int)) at_ rfl (by omega)
  obtain ⟨x, hx⟩ := cutA_some ⟨c, k * 64, none⟩ (t * 64 - k * 64) at_
  rw [hx] at hcut
  have HX := hide hx
  clear h hx hchk hz
  go_enter Try.func18, Try.ntmps18
  go_wp2_with (first | (go_at_call 29; refine (check_any k at_ m H.out (by omega)).mono ?_; rintro r w1 ⟨rfl, k1⟩; rw [CH.out]) | (go_at_call 30; refine (all_ok k (by exact H.out.kept0 k1) hk).mono ?_; rintro r w2 ⟨rfl, hw2⟩; subst w2) | (refine wpList_copy_bytes rfl _ _ 23 rfl 5 Try.underlying23 size1 (some x) ao (64 - at_) (t * 64 - k * 64 - at_) m cap rfl rfl c (k * 64 + at_) (t * 64) m f z ?c0 ?c1 ?c2 ?c3 ?c4 ?_))
  case c0 => exact (H.out.kept0 k1).row
  case c1 => show m = min m (64 - at_); omega
  case c2 =>
    intro h0
    have hx := HX.out
    rw [cutA_lt (by omega), Option.map_some, add_plain] at hx
    exact hx.symm
  case c3 => exact HZ.out.kept0 k1
  case c4 => omega
  intro w2 hr hk2
  have R := hide (And.intro ((H.out.kept0 k1).write hk2 hr) ((k1.mono (M := [c]) (by simp)).trans hk2 (by simp)))
  clear hr hk2 k1
  go_wp2
  go_ret
  exact ⟨rfl, R.out⟩
set_option maxHeartbeats 400000 in
theorem save_bad {w : World} {g c n e t : Nat} {f : Nat → UInt8} (k at_ : Int) (m cap : Nat) (ao : Option Addr) (h : StoreAt w g c n e t f) (hm : m ≤ maxLen) {x : Int} (hx : chk t k at_ m = x) (h0 : x = 1 ∨ x = 7) :
    Calls Try.prog 18 #[.pointer (some ⟨g, 0, none⟩), .int .i64 k, .int .i64 at_, .slice ao m cap] w fun r w' => r = .returned (.int .i64 x) ∧ Kept [] w w' := by
  have H := hide h
  have HX := hide hx
  unfold maxLen at hm
  clear h hx
  rcases h0 with rfl | rfl
  all_goals
    go_enter Try.func18, Try.ntmps18
    go_wp2_with (go_at_call 29; refine (check_any k at_ m H.out (by omega)).mono ?_; rintro r w1 ⟨rfl, k1⟩; rw [HX.out])
    go_ret
    exact ⟨rfl, k1⟩
set_option maxHeartbeats 400000 in
theorem save_nil (k at_ : Int) (ao : Option Addr) (m cap : Nat) (w : World) :
    Calls Try.prog 18 #[.pointer none, .int .i64 k, .int .i64 at_, .slice ao m cap] w fun r w' => r = .returned (.int .i64 1) ∧ w' = w := by
  go_enter Try.func18, Try.ntmps18
  go_wp2_with (go_at_call 29; refine (check_nil k at_ m _).mono ?_; rintro r w1 ⟨rfl, rfl⟩)
  go_ret
  exact ⟨rfl, rfl⟩

set_option maxHeartbeats 400000 in
/-- Copy. -/
theorem copy_ok {w : World} {g c n e t : Nat} {f : Nat → UInt8} (k q : Nat) (h : StoreAt w g c n e t f) (hk : k < t) (hq : q < t) :
    Calls Try.prog 21 #[.pointer (some ⟨g, 0, none⟩), .int .i64 k, .int .i64 q] w fun r w' => r = .returned (.int .i64 0) ∧ StoreAt w' g c n e t (over f (q * 64) 64 (fun i => f (k * 64 + i))) ∧ Kept [c] w w' := by
  have H := hide h
  have hB1 : hasB t k = true := hasB_true (by omega)
  have hB2 : hasB t q = true := hasB_true (by omega)
  clear h
  go_enter Try.func21, Try.ntmps21
  go_wp2_with fail
  refine (has_any k H.out).mono ?_; rintro r w1 ⟨rfl, k1⟩; rw [hB1]
  go_wp2_with fail
  refine (has_any q (H.out.kept0 k1)).mono ?_; rintro r w2 ⟨rfl, k2⟩; rw [hB2]
  have K2 := hide (k1.next k2)
  clear k1 k2
  go_wp2_with fail
  refine (all_ok q (by exact H.out.kept0 K2.out) hq).mono ?_; rintro r w3 ⟨rfl, hw3⟩; subst w3
  go_wp2_with fail
  refine (all_ok k (by exact H.out.kept0 K2.out) hk).mono ?_; rintro r w3 ⟨rfl, hw3⟩; subst w3
  go_wp2_with (refine wpList_copy_bytes rfl _ _ 23 rfl 5 Try.underlying23 size1 _ _ _ _ _ _ rfl rfl c (q * 64) (t * 64) 64 f (fun i => f (k * 64 + i)) ?c0 ?c1 ?c2 ?c3 ?c4 ?_)
  case c0 => exact (H.out.kept0 K2.out).row
  case c1 => rfl
  case c3 => exact Bs.of_rowAt (H.out.kept0 K2.out).row (by omega)
  case c4 => omega
  intro w3 hr hk3
  have R := hide (And.intro ((H.out.kept0 K2.out).write hk3 hr) ((K2.out.mono (M := [c]) (by simp)).trans hk3 (by simp)))
  clear hr hk3 K2
  go_wp2
  go_ret
  exact ⟨rfl, R.out⟩
set_option maxHeartbeats 400000 in
theorem copy_bad {w : World} {g c n e t : Nat} {f : Nat → UInt8} (k q : Int) (h : StoreAt w g c n e t f) (hB : hasB t k = false ∨ hasB t k = true ∧ hasB t q = false) :
    Calls Try.prog 21 #[.pointer (some ⟨g, 0, none⟩), .int .i64 k, .int .i64 q] w fun r w' => r = .returned (.int .i64 1) ∧ Kept [] w w' := by
  have H := hide h
  clear h
  rcases hB with hB | ⟨hB, hB2⟩
  · go_enter Try.func21, Try.ntmps21
    go_wp2_with fail
    refine (has_any k H.out).mono ?_; rintro r w1 ⟨rfl, k1⟩; rw [hB]
    go_wp2
    go_ret
    exact ⟨rfl, k1⟩
  · go_enter Try.func21, Try.ntmps21
    go_wp2_with fail
    refine (has_any k H.out).mono ?_; rintro r w1 ⟨rfl, k1⟩; rw [hB]
    go_wp2_with fail
    refine (has_any q (H.out.kept0 k1)).mono ?_; rintro r w2 ⟨rfl, k2⟩; rw [hB2]
    go_wp2
    go_ret
    exact ⟨rfl, k1.next k2⟩
set_option maxHeartbeats 400000 in
theorem copy_nil (k q : Int) (w : World) :
    Calls Try.prog 21 #[.pointer none, .int .i64 k, .int .i64 q] w fun r w' => r = .returned (.int .i64 1) ∧ w' = w := by
  go_enter Try.func21, Try.ntmps21
  go_wp2_with fail
  refine (has_nil k _).mono ?_; rintro r w1 ⟨rfl, rfl⟩
  go_wp2
  go_ret
  exact ⟨rfl, rfl⟩

end Go.Proofs.Ytdgmfcnblaamcab.Fr
