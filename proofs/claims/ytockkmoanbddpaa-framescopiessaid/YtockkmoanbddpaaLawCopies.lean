/-
  FramesCopies: for every two frames and all bytes, the law answers true, and its arguments read behind the call as before. No condition.
-/
import Derived.Test.YtockkmoanbddpaaFrmHolds
import Derived.Test.YtockkmoanbddpaaLift
namespace Go.Proofs.Ytockkmoanbddpaa.copies
open Go.ChangeShapes Go.WideShapes Go.ChangeAt Go.RowKit Fr

def F1 (z : Nat → UInt8) (x m : Nat) : Nat → UInt8 := over (fun _ => 0) (x * 64 + 0) m z
def F2 (z : Nat → UInt8) (x y m : Nat) : Nat → UInt8 := over (F1 z x m) (y * 64) 64 (fun i => F1 z x m (x * 64 + i))
def F3 (z : Nat → UInt8) (x y m : Nat) : Nat → UInt8 := over (F2 z x y m) (x * 64) 64 (fun _ => 0)
theorem f1 (z : Nat → UInt8) (x m i : Nat) (h : i < m) : F1 z x m (x * 64 + i) = z i := by
  unfold F1 over; rw [if_pos (by omega)]; congr 1; omega
theorem f2y (z : Nat → UInt8) (x y m i : Nat) (h : i < m) (hm : m ≤ 64) : F2 z x y m (y * 64 + i) = z i := by
  unfold F2 over; rw [if_pos (by omega)]; show F1 z x m (x * 64 + (y * 64 + i - y * 64)) = z i
  rw [Nat.add_sub_cancel_left]; exact f1 z x m i h
theorem f2x (z : Nat → UInt8) (x y m i : Nat) (h : i < m) (hm : m ≤ 64) : F2 z x y m (x * 64 + i) = z i := by
  by_cases hxy : x = y
  · subst hxy; exact f2y z x x m i h hm
  · unfold F2; rw [over_out (by omega)]; exact f1 z x m i h
theorem tx (z : Nat → UInt8) (x y m : Nat) (hm : m ≤ 64) : bt m (fun i => F2 z x y m (x * 64 + 0 + i)) = bt m z := bt_congr (fun i h => f2x z x y m i h hm)
theorem ty (z : Nat → UInt8) (x y m : Nat) (hm : m ≤ 64) : bt m (fun i => F2 z x y m (y * 64 + 0 + i)) = bt m z := bt_congr (fun i h => f2y z x y m i h hm)
theorem tz (z : Nat → UInt8) (x y m : Nat) (hm : m ≤ 64) (h : x < y ∨ y < x) : bt m (fun i => F3 z x y m (y * 64 + 0 + i)) = bt m z :=
  bt_congr (fun i hi => by unfold F3; rw [over_out (by omega)]; exact f2y z x y m i hi hm)
theorem t0 (z : Nat → UInt8) (x m : Nat) (hm : m ≤ 64) : bt m (fun i => F3 z x x m (x * 64 + 0 + i)) = bt m (fun _ => 0) :=
  bt_congr (fun i hi => by unfold F3 over; rw [if_pos (by omega)])

set_option maxRecDepth 20000 in
set_option maxHeartbeats 1000000 in
theorem walk (from_ to_ : Int) (ao : Option Addr) (len cap : Nat) (z : Nat → UInt8) (w : World) (hlen : len ≤ cap) (hcap : cap ≤ maxLen) (hz : Bs w ao len z) :
    Calls Try.prog 5 #[.int .i64 from_, .int .i64 to_, .slice ao len cap] w fun e w' => e = .returned (.bool true) ∧ Kept [] w w' := by
  unfold maxLen at hcap
  obtain ⟨x, hx, ex⟩ := mod_small from_ 16 (by decide) (by decide)
  obtain ⟨y, hy, ey⟩ := mod_small to_ 16 (by decide) (by decide)
  obtain ⟨m, hm⟩ : ∃ m : Nat, m = min len 64 := ⟨_, rfl⟩
  have hcut := run_cut0 Try.underlying23 info ao len cap .i64 (j := min (len : Int) 64) m (by omega) (by omega)
  have HZ := hide (hz.take (show m ≤ len by omega))
  have HM : m ≤ 64 := by omega
  clear hz hm
  go_enter Try.func5, Try.ntmps5
  go_wp2_with fail
  refine (new_at 2 8 rfl rfl (by decide) (by decide) (by decide) (by decide) 16 rfl).mono ?_
  rintro e w1 ⟨g, c, rfl, hS, hg, hc, k1⟩
  have S1 := hide hS
  have K1 := hide k1
  clear hS k1
  go_wp2_with fail
  refine (holds_true _).mono ?_
  rintro e w2 ⟨rfl, k2⟩
  have S2 := hide (S1.out.kept0 k2)
  have K2 := hide (K1.out.next k2)
  clear S1 K1 k2
  go_wp2_with fail
  refine (save_at x 0 m cap rfl rfl ao S2.out (by omega) (by omega) (HZ.out.kept0 K2.out)).mono ?_
  rintro e w3 ⟨rfl, hS3, k3⟩
  have S3 := hide hS3
  have K3 := hide (K2.out.trans k3 (by intro x hx hl; simp at hx; omega))
  clear S2 K2 k3 hS3
  go_wp2_with fail
  refine (copy_at x y rfl rfl S3.out (by omega) (by omega)).mono ?_
  rintro e w4 ⟨rfl, hS4, k4⟩
  have S4 : Hid (StoreAt w4 g c 2 8 16 (F2 z x y m)) := hide hS4
  have K4 := hide (K3.out.trans k4 (by intro x hx hl; simp at hx; omega))
  clear S3 K3 k4 hS4
  go_wp2_with fail
  refine (load_at x 0 m rfl rfl rfl S4.out (by omega) (by omega)).mono ?_
  rintro e w5 ⟨ao5, cap5, rfl, hB5, -, k5⟩
  have S5 := hide (S4.out.kept0 k5)
  have K5 := hide (K4.out.next k5)
  have B5 := hide hB5
  clear S4 K4 k5 hB5
  go_wp2_with fail
  refine (load_at y 0 m rfl rfl rfl S5.out (by omega) (by omega)).mono ?_
  rintro e w6 ⟨ao6, cap6, rfl, hB6, -, k6⟩
  have S6 := hide (S5.out.kept0 k6)
  have K6 := hide (K5.out.next k6)
  have h5 := run_text (cap := cap5) Try.underlying23 Try.underlying5 Try.underlying9 (B5.out.kept0 k6)
  have h6 := run_text (cap := cap6) Try.underlying23 Try.underlying5 Try.underlying9 hB6
  have hb := run_text (cap := cap) Try.underlying23 Try.underlying5 Try.underlying9 (HZ.out.kept0 K6.out)
  rw [tx z x y m HM] at h5
  rw [ty z x y m HM] at h6
  obtain ⟨X, hX⟩ : ∃ X, X = bt m z := ⟨_, rfl⟩
  rw [← hX] at h5 h6 hb
  have HX := hide hX
  clear S5 K5 k6 hB6 B5 hX
  go_wp2_with fail
  refine (clear_at x rfl S6.out (by omega)).mono ?_
  rintro e w7 ⟨rfl, hS7, k7⟩
  have S7 : Hid (StoreAt w7 g c 2 8 16 (F3 z x y m)) := hide hS7
  have K7 := hide (K6.out.trans k7 (by intro x hx hl; simp at hx; omega))
  clear S6 K6 k7 hS7 h5 h6 hb
  go_wp2_with fail
  refine (load_at y 0 m rfl rfl rfl S7.out (by omega) (by omega)).mono ?_
  rintro e w8 ⟨ao8, cap8, rfl, hB8, -, k8⟩
  have S8 := hide (S7.out.kept0 k8)
  have K8 := hide (K7.out.next k8)
  have h8 := run_text (cap := cap8) Try.underlying23 Try.underlying5 Try.underlying9 hB8
  have hb := run_text (cap := cap) Try.underlying23 Try.underlying5 Try.underlying9 (HZ.out.kept0 K8.out)
  have B8 := hide hB8
  have hB1 : hasB 16 16 = false := hasB_false (by omega)
  have hB2 : hasB 16 (-1) = false := hasB_false (by omega)
  have hB3 : hasB 16 x = true := hasB_true (by omega)
  clear S7 K7 k8 hB8
  rcases (show (x < y ∨ y < x) ∨ (x ≤ y ∧ y ≤ x) by omega) with hxy | ⟨ha, hb2⟩
  · rw [tz z x y m HM hxy, ← HX.out] at h8
    rw [← HX.out] at hb
    rcases hxy with hxy | hxy
    all_goals
      go_wp2_with fail
      refine (copy_bad x 16 S8.out (Or.inr ⟨hB3, hB1⟩)).mono ?_
      rintro e w9 ⟨rfl, k9⟩
      have S9 := hide (S8.out.kept0 k9)
      have K9 := hide (K8.out.next k9)
      clear S8 K8 k9 h8 hb
      go_wp2_with fail
      refine (copy_bad (-1) y S9.out (Or.inl hB2)).mono ?_
      rintro e w10 ⟨rfl, k10⟩
      have K10 := hide (K9.out.next k10)
      clear S9 K9 k10
      go_wp2
      go_ret
      exact ⟨rfl, K10.out⟩
  · obtain rfl : x = y := by omega
    clear ha hb2
    rw [t0 z x m HM] at h8
    have hmk := run_make_row' (P := Try.prog) 23 5 (.int .u8 0) 1 Try.underlying23 info rfl .i64 .i64 m (by omega) (by omega)
    have hC := Bs.of_row (z := fun _ => 0) (World.rowIs_made w8 (.int .u8 0) m 5) (Nat.le_refl m)
    have hc0 := run_text (cap := m) Try.underlying23 Try.underlying5 Try.underlying9 hC
    have h82 := run_text (cap := cap8) Try.underlying23 Try.underlying5 Try.underlying9 (B8.out.kept0 ((Kept.refl [] w8).alloc (.cells (madeCells #[.int .u8 0] m) 5)))
    rw [t0 z x m HM] at h82
    obtain ⟨Y, hY⟩ : ∃ Y, Y = bt m (fun _ => 0) := ⟨_, rfl⟩
    rw [← hY] at h82 hc0
    rw [← HX.out] at hb
    clear h8 hC hY
    have SA := hide (S8.out.kept0 ((Kept.refl [] w8).alloc (.cells (madeCells #[.int .u8 0] m) 5)))
    have KA := hide (K8.out.alloc (.cells (madeCells #[.int .u8 0] m) 5))
    go_wp2_with fail
    refine (copy_bad x 16 SA.out (Or.inr ⟨hB3, hB1⟩)).mono ?_
    rintro e w9 ⟨rfl, k9⟩
    have S9 := hide (SA.out.kept0 k9)
    have K9 := hide (KA.out.next k9)
    clear SA KA S8 K8 k9 hb hc0 h82 hmk
    go_wp2_with fail
    refine (copy_bad (-1) x S9.out (Or.inl hB2)).mono ?_
    rintro e w10 ⟨rfl, k10⟩
    have K10 := hide (K9.out.next k10)
    clear S9 K9 k10
    go_wp2
    go_ret
    exact ⟨rfl, K10.out⟩

theorem own : ownKnob Try.prog.godebug = none := by kernel_rfl
theorem laidOut : laidOutB Try.prog = true := by kernel_rfl

set_option maxRecDepth 100000 in
theorem lifted (os : Os) (started : os.Started) (H : Type) (enc : TypeId × Value → H) :
    ReturnsInHanded {} Try.checked os 5 .any (Rows.framesCopiesSpec.pre6 enc Try.prog Try.f5 Rows.framesCopiesRow.domain false) (Rows.framesCopiesSpec.post enc Try.prog Try.f5 false true false false) := by
  refine returnsInHanded_of_change (C := Try.checked) own started (by kernel_rfl) Try.func5
    (ChangeSpec.witness6 (enc := enc) (C := Try.checked) false ⟨#[], #[.int .i64 0, .int .i64 0, .slice none 0 0], []⟩ 8 (by kernel_rfl) (by kernel_rfl) (by kernel_rfl) (by kernel_rfl)) ?_
  intro W base args ds gs before hval0 hW hcnd _
  have hval : ∀ (j : Nat) t v, Try.f5.params[j]? = some t → args[j]? = some v → Value.okWide Try.prog W .any base t v := hval0
  have hW' := hW
  obtain ⟨p, q, hA0, hV, rfl, hfz, hnd⟩ := hW
  have hA : DataW.TrodAll enc Try.prog W 0 (fun _ => true) true Try.f5.params.toList args.toList ds p := hA0
  have hK := hA
  rw [Try.params5] at hA hval
  obtain ⟨v0, vs0, d0, ds0, p0, q0, hargs, rfl, rfl, h0, r0⟩ := trodAll_cons hA
  obtain ⟨v1, vs1, d1, ds1, p1, q1, rfl, rfl, rfl, h1, r1⟩ := trodAll_cons r0
  obtain ⟨v2, vs2, d2, ds2, p2, q2, rfl, rfl, rfl, h2, r2⟩ := trodAll_cons r1
  obtain ⟨rfl, rfl, rfl⟩ := trodAll_nil r2
  obtain rfl : args = #[v0, v1, v2] := by cases args; simp_all
  obtain ⟨rfl, rfl⟩ := trodVars_none hV
  obtain ⟨from_, rfl, rfl, rfl, w0⟩ := open_int Try.underlying3 (hval 0 3 v0 rfl rfl) h0
  obtain ⟨to_, rfl, rfl, rfl, w1⟩ := open_int Try.underlying3 (hval 1 3 v1 rfl rfl) h1
  obtain ⟨a2, len2, cap2, zs2, rfl, hl2, hm2, hn2, hT2⟩ := open_list Try.underlying23 Try.underlying5 (by kernel_rfl) (okWide_slice Try.underlying23 (hval 2 23 v2 rfl rfl)) h2
  clear hA0 hval0
  refine (walk from_ to_ a2 len2 cap2 _ W hl2 hm2 (Bs.of_ints hT2)).mono fun e W' ⟨he, hk⟩ => ?_
  subst he
  exact ⟨_, rfl, _, _, _, [], _, [], hW', trodAll_mk1 (shut_bool Try.underlying4 _), trodAll_below laidOut hk.below _ _ _ _ hK (by kernel_rfl), rfl, hk.below.frame _, fun h => by cases h⟩

theorem said : Rows.FramesCopiesSaid :=
  OpenClaim.holds_of_wide 5 Try.f5 rfl rfl rfl rfl rfl rfl rfl ⟨rfl, rfl, rfl, rfl, rfl⟩ rfl rfl rfl rfl rfl (by kernel_rfl) Try.func5 (by kernel_rfl)
    (of_decide_eq_true (by kernel_rfl)) (by unfold Func.isWrapper; first | (rw [if_pos (by decide +kernel)]; kernel_rfl) | (rw [if_neg (by decide +kernel)]; exact ⟨rfl, rfl⟩))
    (fun os started H enc _ => lifted os started H enc)
end Go.Proofs.Ytockkmoanbddpaa.copies
