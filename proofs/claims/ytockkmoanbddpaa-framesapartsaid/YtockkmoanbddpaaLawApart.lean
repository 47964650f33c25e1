/-
  FramesApart: for every number of nodes, every frame and all bytes, the law answers true, and its arguments read behind the call as before. No condition.
-/
import Derived.Test.YtockkmoanbddpaaFrmHolds
namespace Go.Proofs.Ytockkmoanbddpaa.apart
open Go.ChangeShapes Go.WideShapes Go.ChangeAt Go.RowKit Fr

/-- What lies at byte i of frame j behind the Save at frame k. -/
theorem same_at (z : Nat → UInt8) (k m : Nat) : bt 64 (fun i => over (fun _ => 0) (k * 64 + 0) m z (k * 64 + 0 + i)) = bt 64 (fun i => over (fun _ => 0) 0 m z i) :=
  bt_congr (fun i _ => by unfold over; simp only [Nat.add_zero, Nat.zero_add]; by_cases h : i < m
                          · rw [if_pos (by omega), if_pos (by omega)]; congr 1; omega
                          · rw [if_neg (by omega), if_neg (by omega)])
theorem other_at (z : Nat → UInt8) (k m j : Nat) (hm : m ≤ 64) (h : j < k ∨ k < j) : bt 64 (fun i => over (fun _ => 0) (k * 64 + 0) m z (j * 64 + 0 + i)) = bt 64 (fun _ => 0) :=
  bt_congr (fun i hi => by unfold over; rw [if_neg (by omega)])
set_option maxRecDepth 20000 in
set_option maxHeartbeats 1000000 in
theorem walk (nodes frame : Int) (ao : Option Addr) (len cap : Nat) (z : Nat → UInt8) (w : World) (hlen : len ≤ cap) (hcap : cap ≤ maxLen) (hz : Bs w ao len z) :
    Calls Try.prog 4 #[.int .i64 nodes, .int .i64 frame, .slice ao len cap] w fun e w' => e = .returned (.bool true) ∧ Kept [] w w' := by
  unfold maxLen at hcap
  obtain ⟨r, hr, er⟩ := mod_small nodes 8 (by decide) (by decide)
  obtain ⟨k, hk, ek⟩ := mod_small frame (4 * (1 + r)) (by omega) (by omega)
  obtain ⟨m, hm⟩ : ∃ m : Nat, m = min len 64 := ⟨_, rfl⟩
  have hcut := run_cut0 Try.underlying23 info ao len cap .i64 (j := min (len : Int) 64) m (by omega) (by omega)
  have HZ := hide (hz.take (show m ≤ len by omega))
  have HM : m ≤ 64 := by omega
  have hmk := run_make_row' (P := Try.prog) 23 5 (.int .u8 0) 1 Try.underlying23 info rfl .i64 .i64 64 (by omega) (by omega)
  rw [show (((64 : Nat)) : Int) = 64 from rfl] at hmk
  clear hz hm
  go_enter Try.func4, Try.ntmps4
  go_wp2_with fail
  refine (new_at (1 + r) 4 (by omega) rfl (by omega) (by omega) (by decide) (by decide) (4 * (1 + r)) (by omega)).mono ?_
  rintro e w1 ⟨g, c, rfl, hS, hg, hc, k1⟩
  have S1 := hide hS
  have K1 := hide k1
  clear hS k1
  go_wp2_with fail
  refine (holds_true _).mono ?_
  rintro e w2 ⟨rfl, k2⟩
  have S2 := hide (S1.out.kept0 k2)
  have K2 := hide (K1.out.next k2)
  clear S1 K1 k2
  go_wp2_with fail
  refine (save_at k 0 m cap rfl rfl ao S2.out (by omega) (by omega) (HZ.out.kept0 K2.out)).mono ?_
  rintro e w3 ⟨rfl, hS3, k3⟩
  have S3 := hide hS3
  have K3 := hide (K2.out.trans k3 (by intro x hx hl; simp at hx; omega))
  clear S2 K2 k3 hS3
  go_wp2_with fail
  clear er ek hcut
  go_loopw [11] (fun i wr => ∃ j : Nat, j ≤ 4 * (1 + r) ∧ i = .int .i64 j ∧ StoreAt wr g c (1 + r) 4 (4 * (1 + r)) (over (fun _ => 0) (k * 64 + 0) m z) ∧ Kept [] w wr) (fun i _ => 4 * (1 + r) - (intOf i).toNat)
  case atStart => exact ⟨0, by omega, rfl, S3.out, K3.out⟩
  case round =>
    obtain ⟨j, hj, rfl, hSj, hKj⟩ := hrel
    have SJ := hide hSj
    have KJ := hide hKj
    clear hSj hKj S3 K3
    by_cases hlt : j < 4 * (1 + r)
    · rcases (show (j ≤ k ∧ k ≤ j) ∨ j < k ∨ k < j by omega) with ⟨ha, hb⟩ | ha | ha
      · obtain rfl : j = k := by omega
        clear ha hb
        go_wp2_with fail
        refine (load_at j 0 64 rfl rfl rfl SJ.out (by omega) (by omega)).mono ?_
        rintro e w4 ⟨ao4, cap4, rfl, hB, hb, k4⟩
        have S4 := hide (SJ.out.kept0 k4)
        have K4 := hide (KJ.out.next k4)
        have B4 := hide hB
        clear SJ KJ k4 hB hb
        go_wp2_with (refine wpList_copy_bytes rfl _ _ 23 rfl 5 Try.underlying23 size1 (some ⟨w4.heap.size, 0, none⟩) ao 64 64 m cap rfl rfl w4.heap.size 0 64 m (fun _ => 0) z ?c0 ?c1 ?c2 ?c3 ?c4 ?_)
        case c0 => exact World.rowIs_made w4 (.int .u8 0) 64 5
        case c1 => show m = min m 64; omega
        case c3 => exact HZ.out.kept0 (K4.out.alloc _)
        case c4 => omega
        intro w5 hr5 k5
        have C5 := hide (Bs.of_row hr5 (Nat.le_refl 64))
        have kk : Kept [] w4 w5 := ((Kept.refl [] w4).alloc _).trans k5 (by intro x hx hl; simp at hx; omega)
        have S5 := hide (S4.out.kept0 kk)
        have B5 := hide (B4.out.kept0 kk)
        have K5 := hide (K4.out.next kk)
        clear hr5 k5 kk S4 B4 K4
        go_wp2_with fail
        refine (node_at j rfl S5.out (by omega)).mono ?_
        rintro e w6 ⟨rfl, k6⟩
        have S6 := hide (S5.out.kept0 k6)
        have K6 := hide (K5.out.next k6)
        have B6 := hide (B5.out.kept0 k6)
        have C6 := hide (C5.out.kept0 k6)
        clear S5 K5 B5 C5 k6
        go_wp2_with fail
        refine (first_at (j / 4) (by omega) S6.out (by omega)).mono ?_
        rintro e w7 ⟨rfl, hw7⟩
        subst w7
        have hq1 : j / 4 * 4 ≤ j := by omega
        have hq2 : j < j / 4 * 4 + 4 := by omega
        generalize j / 4 * 4 = q at hq1 hq2 ⊢
        have h1 := run_text (cap := cap4) Try.underlying23 Try.underlying5 Try.underlying9 B6.out
        have h2 := run_text (cap := 64) Try.underlying23 Try.underlying5 Try.underlying9 C6.out
        rw [same_at] at h1
        obtain ⟨X, hX⟩ : ∃ X, X = bt 64 (fun i => over (fun _ => 0) 0 m z i) := ⟨_, rfl⟩
        rw [← hX] at h1 h2
        have R := hide (And.intro S6.out K6.out)
        clear hX S6 K6 B6 C6 HZ hmk
        go_wp2
        go_roundw
        case rel => exact ⟨j + 1, by omega, by go_num, R.out⟩
        case measure => simp [intOf]; omega
      all_goals
        have E := hide (other_at z k m j HM (by omega))
        go_wp2_with fail
        refine (load_at j 0 64 rfl rfl rfl SJ.out (by omega) (by omega)).mono ?_
        rintro e w4 ⟨ao4, cap4, rfl, hB, hb, k4⟩
        have S4 := hide (SJ.out.kept0 k4)
        have K4 := hide (KJ.out.next k4)
        have B4 := hide hB
        clear SJ KJ k4 hB hb
        have C5 := hide (Bs.of_row (z := fun _ => 0) (World.rowIs_made w4 (.int .u8 0) 64 5) (Nat.le_refl 64))
        have kk : Kept [] w4 (w4.alloc (.cells (madeCells #[.int .u8 0] 64) 5)) := (Kept.refl [] w4).alloc _
        have S5 := hide (S4.out.kept0 kk)
        have B5 := hide (B4.out.kept0 kk)
        have K5 := hide (K4.out.next kk)
        clear kk S4 B4 K4
        go_wp2_with fail
        refine (node_at j rfl S5.out (by omega)).mono ?_
        rintro e w6 ⟨rfl, k6⟩
        have S6 := hide (S5.out.kept0 k6)
        have K6 := hide (K5.out.next k6)
        have B6 := hide (B5.out.kept0 k6)
        have C6 := hide (C5.out.kept0 k6)
        clear S5 K5 B5 C5 k6
        go_wp2_with fail
        refine (first_at (j / 4) (by omega) S6.out (by omega)).mono ?_
        rintro e w7 ⟨rfl, hw7⟩
        subst w7
        have hq1 : j / 4 * 4 ≤ j := by omega
        have hq2 : j < j / 4 * 4 + 4 := by omega
        generalize j / 4 * 4 = q at hq1 hq2 ⊢
        have h1 := run_text (cap := cap4) Try.underlying23 Try.underlying5 Try.underlying9 B6.out
        have h2 := run_text (cap := 64) Try.underlying23 Try.underlying5 Try.underlying9 C6.out
        rw [E.out] at h1
        obtain ⟨X, hX⟩ : ∃ X, X = bt 64 (fun _ => 0) := ⟨_, rfl⟩
        rw [← hX] at h1 h2
        have R := hide (And.intro S6.out K6.out)
        clear E hX S6 K6 B6 C6 HZ hmk
        go_wp2
        go_roundw
        case rel => exact ⟨j + 1, by omega, by go_num, R.out⟩
        case measure => simp [intOf]; omega
    · go_wp2
      go_ret
      exact ⟨rfl, KJ.out⟩

theorem own : ownKnob Try.prog.godebug = none := by kernel_rfl
theorem laidOut : laidOutB Try.prog = true := by kernel_rfl

set_option maxRecDepth 100000 in
theorem lifted (os : Os) (started : os.Started) (H : Type) (enc : TypeId × Value → H) :
    ReturnsInHanded {} Try.checked os 4 .any (Rows.framesApartSpec.pre6 enc Try.prog Try.f4 Rows.framesApartRow.domain false) (Rows.framesApartSpec.post enc Try.prog Try.f4 false true false false) := by
  refine returnsInHanded_of_change (C := Try.checked) own started (by kernel_rfl) Try.func4
    (ChangeSpec.witness6 (enc := enc) (C := Try.checked) false ⟨#[], #[.int .i64 0, .int .i64 0, .slice none 0 0], []⟩ 8 (by kernel_rfl) (by kernel_rfl) (by kernel_rfl) (by kernel_rfl)) ?_
  intro W base args ds gs before hval0 hW hcnd _
  have hval : ∀ (j : Nat) t v, Try.f4.params[j]? = some t → args[j]? = some v → Value.okWide Try.prog W .any base t v := hval0
  have hW' := hW
  obtain ⟨p, q, hA0, hV, rfl, hfz, hnd⟩ := hW
  have hA : DataW.TrodAll enc Try.prog W 0 (fun _ => true) true Try.f4.params.toList args.toList ds p := hA0
  have hK := hA
  rw [Try.params4] at hA hval
  obtain ⟨v0, vs0, d0, ds0, p0, q0, hargs, rfl, rfl, h0, r0⟩ := trodAll_cons hA
  obtain ⟨v1, vs1, d1, ds1, p1, q1, rfl, rfl, rfl, h1, r1⟩ := trodAll_cons r0
  obtain ⟨v2, vs2, d2, ds2, p2, q2, rfl, rfl, rfl, h2, r2⟩ := trodAll_cons r1
  obtain ⟨rfl, rfl, rfl⟩ := trodAll_nil r2
  obtain rfl : args = #[v0, v1, v2] := by cases args; simp_all
  obtain ⟨rfl, rfl⟩ := trodVars_none hV
  obtain ⟨nodes, rfl, rfl, rfl, w0⟩ := open_int Try.underlying3 (hval 0 3 v0 rfl rfl) h0
  obtain ⟨frame, rfl, rfl, rfl, w1⟩ := open_int Try.underlying3 (hval 1 3 v1 rfl rfl) h1
  obtain ⟨a2, len2, cap2, zs2, rfl, hl2, hm2, hn2, hT2⟩ := open_list Try.underlying23 Try.underlying5 (by kernel_rfl) (okWide_slice Try.underlying23 (hval 2 23 v2 rfl rfl)) h2
  clear hA0 hval0
  refine (walk nodes frame a2 len2 cap2 _ W hl2 hm2 (Bs.of_ints hT2)).mono fun e W' ⟨he, hk⟩ => ?_
  subst he
  exact ⟨_, rfl, _, _, _, [], _, [], hW', trodAll_mk1 (shut_bool Try.underlying4 _), trodAll_below laidOut hk.below _ _ _ _ hK (by kernel_rfl), rfl, hk.below.frame _, fun h => by cases h⟩

theorem said : Rows.FramesApartSaid :=
  OpenClaim.holds_of_wide 4 Try.f4 rfl rfl rfl rfl rfl rfl rfl ⟨rfl, rfl, rfl, rfl, rfl⟩ rfl rfl rfl rfl rfl (by kernel_rfl) Try.func4 (by kernel_rfl)
    (of_decide_eq_true (by kernel_rfl)) (by unfold Func.isWrapper; first | (rw [if_pos (by decide +kernel)]; kernel_rfl) | (rw [if_neg (by decide +kernel)]; exact ⟨rfl, rfl⟩))
    (fun os started H enc _ => lifted os started H enc)
end Go.Proofs.Ytockkmoanbddpaa.apart
