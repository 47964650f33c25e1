/-
  No statement of the program: the contracts of the reference's DocSave and DocLoad, over this seat's translation.
-/
import Derived.Test.YtockkmoanbddpaaFrmRef
namespace Go.Proofs.Ytockkmoanbddpaa.Rf
open Go.RowKit

theorem over_step (f z : Nat → UInt8) (o i j : Nat) : (if j = o + i then z i else over f o i z j) = over f o (i + 1) z j := by
  unfold over
  by_cases e : j = o + i
  · subst e; rw [if_pos rfl, if_pos (by omega)]; congr 1; omega
  · rw [if_neg e]
    by_cases h : o ≤ j ∧ j < o + i
    · rw [if_pos h, if_pos (by omega)]
    · rw [if_neg h, if_neg (by omega)]
set_option maxRecDepth 20000 in
set_option maxHeartbeats 1000000 in
/-- DocSave, of bytes that there is room for. -/
theorem save_ok {w : World} {g c n e t : Nat} {f z : Nat → UInt8} (k at_ m cap : Nat) (ao : Option Addr) (h : RefAt w g c n e t f) (hk : k < t) (hm : at_ + m ≤ 64) (hz : Bs w ao m z) (hzc : ∀ a, ao = some a → 0 < m → a.block ≠ c) :
    Calls Try.prog 24 #[.pointer (some ⟨g, 0, none⟩), .int .i64 k, .int .i64 at_, .slice ao m cap] w fun r w' => r = .returned (.int .i64 0) ∧ RefAt w' g c n e t (over f (k * 64 + at_) m z) ∧ Kept [c] w w' := by
  have H := hide h
  have HZ := hide (And.intro hz hzc)
  have ht := h.t8192
  have hB : Fr.hasB t k = true := Fr.hasB_true (by omega)
  have HB := hide hB
  clear h hz hzc hB
  go_enter Try.func24, Try.ntmps24
  go_wp2_with fail
  refine (has_any k H.out).mono ?_
  rintro r w1 ⟨rfl, k1⟩
  rw [HB.out]
  have H1 := hide (H.out.kept0 k1)
  have K1 := hide (k1.mono (M := [c]) (by simp))
  have Z1 := hide (HZ.out.1.kept0 k1)
  clear k1 H HB
  go_wp2_with fail
  go_loopw [9] (fun i wr => ∃ j : Nat, j ≤ m ∧ i = .int .i64 j ∧ RefAt wr g c n e t (over f (k * 64 + at_) j z) ∧ Kept [c] w wr ∧ Kept [c] w1 wr) (fun i _ => m - (intOf i).toNat)
  case atStart => exact ⟨0, by omega, rfl, by rw [over_none]; exact H1.out, K1.out, Kept.refl _ _⟩
  case round =>
    obtain ⟨j, hj, rfl, hR, hK, hK1⟩ := hrel
    by_cases hjm : j < m
    · obtain ⟨b, off, hao, hc⟩ := Z1.out j hjm
      subst hao
      have hbc : b ≠ c := HZ.out.2 ⟨b, off, none⟩ rfl (by omega)
      have cb := hK1.cell hc (by simpa using hbc)
      have c2 := hR.c2
      have hin : k * 64 + at_ + j < t * 64 := by omega
      have cc := hR.row.cell hin
      have fc := hR.row.frozen (k * 64 + at_ + j)
      have R5 := hide (And.intro ((hR.set (k * 64 + at_ + j) (z j)).congr (fun i _ => over_step f z (k * 64 + at_) j i)) (And.intro (hK.setCell (p := ⟨c, k * 64 + at_ + j, none⟩) (by simp) (bv (z j))) (hK1.setCell (p := ⟨c, k * 64 + at_ + j, none⟩) (by simp) (bv (z j)))))
      have i1 : 64 * (k : Int) + (at_ : Int) + (j : Int) = ((k * 64 + at_ + j : Nat) : Int) := by omega
      obtain ⟨q, hq⟩ : ∃ q, q = k * 64 + at_ + j := ⟨_, rfl⟩
      rw [← hq] at cc fc hin i1 R5
      unfold bv at cb cc
      clear hR hK hK1 hc hq
      go_wp2_with fail
      go_region
      all_goals
        go_wp2
        go_roundw
        case rel => exact ⟨j + 1, by omega, by go_num, R5.out.1.kept0 (Kept.refl [] _).drew, R5.out.2.1.drew, R5.out.2.2.drew⟩
        case measure => simp [intOf]; omega
    · obtain rfl : j = m := by omega
      have R5 := hide (And.intro hR hK)
      clear hR hK hK1
      go_wp2
      go_ret
      exact ⟨rfl, R5.out⟩
set_option maxHeartbeats 400000 in
theorem save_bad {w : World} {g c n e t : Nat} {f : Nat → UInt8} (k at_ : Int) (m cap : Nat) (ao : Option Addr) (h : RefAt w g c n e t f) (hm : m ≤ maxLen) {x : Int} (hx : Fr.chk t k at_ m = x) (h0 : x = 1 ∨ x = 7) :
    Calls Try.prog 24 #[.pointer (some ⟨g, 0, none⟩), .int .i64 k, .int .i64 at_, .slice ao m cap] w fun r w' => r = .returned (.int .i64 x) ∧ Kept [] w w' := by
  have H := hide h
  unfold maxLen at hm
  clear h
  cases hB : Fr.hasB t k with
  | false =>
    obtain rfl : x = 1 := by rw [← hx]; exact Fr.chk_arg hB
    have HB := hide hB
    clear hx hB
    go_enter Try.func24, Try.ntmps24
    go_wp2_with fail
    refine (has_any k H.out).mono ?_
    rintro r w1 ⟨rfl, k1⟩
    rw [HB.out]
    go_wp2
    go_ret
    exact ⟨rfl, k1⟩
  | true =>
    have hn : ¬ (0 ≤ at_ ∧ 0 ≤ (m : Int) ∧ at_ + m ≤ 64) := by
      intro hh
      rw [Fr.chk_ok hB hh] at hx
      omega
    obtain rfl : x = 7 := by rw [← hx]; exact Fr.chk_bound hB hn
    have HB := hide hB
    clear hx hB
    rcases (show at_ < 0 ∨ (0 ≤ at_ ∧ 64 < at_) ∨ (0 ≤ at_ ∧ at_ ≤ 64 ∧ 64 - at_ < m) from by omega) with h | ⟨ha, hb⟩ | ⟨ha, hb, hc⟩
    all_goals
      go_enter Try.func24, Try.ntmps24
      go_wp2_with fail
      refine (has_any k H.out).mono ?_
      rintro r w1 ⟨rfl, k1⟩
      rw [HB.out]
      go_wp2
      go_ret
      exact ⟨rfl, k1⟩
set_option maxRecDepth 20000 in
set_option maxHeartbeats 400000 in
/-- DocLoad, of bytes that there are. -/
theorem load_ok {w : World} {g c n e t : Nat} {f : Nat → UInt8} (k at_ m : Nat) (h : RefAt w g c n e t f) (hk : k < t) (hm : at_ + m ≤ 64) :
    Calls Try.prog 25 #[.pointer (some ⟨g, 0, none⟩), .int .i64 k, .int .i64 at_, .int .i64 m] w fun r w' => ∃ ao cap, r = .returned (.tuple #[.slice ao m cap, .int .i64 0]) ∧ Bs w' ao m (fun i => f (k * 64 + at_ + i)) ∧ (∀ a, ao = some a → w.heap.size ≤ a.block) ∧ Kept [] w w' := by
  have H := hide h
  have ht := h.t8192
  have HB := hide (Fr.hasB_true (t := t) (k := (k : Int)) (by omega))
  have hcut := run_cut Try.underlying23 Fr.info (some ⟨c, 0, none⟩) (t * 64) (t * 64) .i64 .i64 (i := 64 * (k : Int) + (at_ : Int)) (j := 64 * (k : Int) + (at_ : Int) + (m : Int)) (k * 64 + at_) (k * 64 + at_ + m) (by omega) (by omega) (by omega) (by omega)
  rw [Nat.add_sub_cancel_left] at hcut
  obtain ⟨x, hx⟩ := cutA_some ⟨c, 0, none⟩ (t * 64) (k * 64 + at_)
  rw [hx] at hcut
  have HX := hide hx
  obtain ⟨i0, hi, hz0, hz1, hz2⟩ := info_parts Fr.info
  clear h hx
  go_enter Try.func25, Try.ntmps25
  go_wp2_with fail
  refine (has_any k H.out).mono ?_
  rintro r w1 ⟨rfl, k1⟩
  rw [HB.out]
  have c2 := ((H.out.kept0 k1).kept0 ((Kept.refl [] w1).alloc (.cells #[] 5))).c2
  have H1 := hide (H.out.kept0 k1)
  have K1 := hide k1
  have OW : Hid ((w1.alloc (.cells #[] 5)).ownsRow w1.heap.size 5 1 (.slice (some ⟨w1.heap.size, 0, none⟩) 0 0) 0 []) := hide (World.ownsRow_made w1 #[] 0 (Nat.le_refl _) (by decide) rfl)
  clear k1 H
  go_wp2_with (at_builtin; refine wpList_append_own _ rfl _ _ 23 rfl w1.heap.size 5 i0 (.int .u8 0) 1 1 Try.underlying23 hi hz0 hz1 hz2 rfl (by decide) _ 0 [] rfl OW.out x m _ (bvs m (fun i => f (k * 64 + at_ + i))) rfl ?c0 ?c1 (bvs_one _ _) ?c3 ?c4 ?c5 ?_)
  case c0 => simp [bvs_length]
  case c1 =>
    intro j u hu
    have hj : j < m := by simpa [bvs_length] using getElem?_lt hu
    have hx := HX.out
    rw [cutA_lt (by omega), Option.map_some, add_plain, Nat.zero_add] at hx
    obtain rfl := Option.some.inj hx
    have hr := (H1.out.kept0 ((Kept.refl [] w1).alloc (.cells #[] 5))).row.cell (i := k * 64 + at_ + j) (by omega)
    rw [add_plain, hr, ← hu, bvs_at hj]
  case c3 => unfold maxLen; omega
  case c4 => omega
  case c5 => simp
  intro v2 w2 hown hgrow _
  have hk2 : Kept [] w1 w2 := own_grown OW.out hgrow w1 ((Kept.refl [] w1).alloc _) (Nat.le_refl _)
  obtain ⟨a2, c22, rfl, -, h5, h6⟩ := Bs.of_own hown
  have hs := K1.out.size
  have R := hide (And.intro h5 (And.intro (show ∀ a, a2 = some a → w.heap.size ≤ a.block from fun a ha => Nat.le_trans hs (h6 a ha)) (K1.out.next hk2)))
  clear hown hgrow hk2 h5 h6 hs
  go_wp2
  go_ret2
  exact ⟨a2, c22, rfl, R.out⟩
set_option maxHeartbeats 400000 in
theorem load_bad {w : World} {g c n e t : Nat} {f : Nat → UInt8} (k at_ m : Int) (h : RefAt w g c n e t f) (hm : m ≤ 9223372036854775807) {x : Int} (hx : Fr.chk t k at_ m = x) (h0 : x = 1 ∨ x = 7) :
    Calls Try.prog 25 #[.pointer (some ⟨g, 0, none⟩), .int .i64 k, .int .i64 at_, .int .i64 m] w fun r w' => r = .returned (.tuple #[.slice none 0 0, .int .i64 x]) ∧ Kept [] w w' := by
  have H := hide h
  clear h
  cases hB : Fr.hasB t k with
  | false =>
    obtain rfl : x = 1 := by rw [← hx]; exact Fr.chk_arg hB
    have HB := hide hB
    clear hx hB
    go_enter Try.func25, Try.ntmps25
    go_wp2_with fail
    refine (has_any k H.out).mono ?_
    rintro r w1 ⟨rfl, k1⟩
    rw [HB.out]
    go_wp2
    go_ret2
    exact ⟨rfl, k1⟩
  | true =>
    have hn : ¬ (0 ≤ at_ ∧ 0 ≤ m ∧ at_ + m ≤ 64) := by
      intro hh
      rw [Fr.chk_ok hB hh] at hx
      omega
    obtain rfl : x = 7 := by rw [← hx]; exact Fr.chk_bound hB hn
    have HB := hide hB
    clear hx hB
    rcases (show at_ < 0 ∨ (0 ≤ at_ ∧ 64 < at_) ∨ (0 ≤ at_ ∧ at_ ≤ 64 ∧ m < 0) ∨ (0 ≤ at_ ∧ at_ ≤ 64 ∧ 0 ≤ m ∧ 64 - at_ < m) from by omega) with h | ⟨ha, hb⟩ | ⟨ha, hb, hc⟩ | ⟨ha, hb, hc, hd⟩
    all_goals
      go_enter Try.func25, Try.ntmps25
      go_wp2_with fail
      refine (has_any k H.out).mono ?_
      rintro r w1 ⟨rfl, k1⟩
      rw [HB.out]
      go_wp2
      go_ret2
      exact ⟨rfl, k1⟩
end Go.Proofs.Ytockkmoanbddpaa.Rf
