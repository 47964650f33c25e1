/-
  StatsTurned: for every row of events the law answers true, and its argument reads behind the call as before; no condition.
-/
import Derived.Test.YtbejafjpdplofaaSts8
import Derived.Test.YtbejafjpdplofaaRows
namespace Go.Proofs.Ytbejafjpdplofaa.LT
open Go.ChangeShapes Go.WideShapes Go.ChangeAt Go.RowKit St By
set_option maxRecDepth 20000 in
set_option maxHeartbeats 4000000 in
theorem walk {ao : Option Addr} {len cap : Nat} {X : Nat → Ex} {w : World} (_hl : len ≤ maxLen) (hX : IsExs w ao len X) : Calls Try.prog 5 #[.slice ao len cap] w fun e w' => e = .returned (.bool true) ∧ Kept [] w w' := by
  unfold maxLen at _hl
  have HX := hide hX
  clear hX
  go_enter Try.func5, Try.ntmps5
  go_wp2_with fail
  refine (new_ok 4 (by omega) (by omega) w).mono ?_
  rintro e w1 ⟨p1, c1, rfl, hL, hf, hk⟩
  have A1 := hide (LB.of_new (Kept.refl [] w) hL hf hk)
  clear hL hf hk
  go_wp2_with fail
  refine (new_ok 4 (by omega) (by omega) w1).mono ?_
  rintro e w2 ⟨p2, c2, rfl, hL, hf, hk⟩
  have S2 := hide (show LL w w2 p1 c1 (.slice none 0 0) [] p2 c2 (.slice none 0 0) [] 4 from ⟨A1.out.next hk, LB.of_new A1.out.kept hL hf hk, fun b h1 h2 => by
    have := A1.out.la.lt h1
    have := hf b h2
    omega⟩)
  clear hL hf hk A1
  go_wp2_with fail
  refine (counts_true w2).mono ?_
  rintro e w3 ⟨rfl, hk⟩
  have S3 := hide (S2.out.next hk)
  clear hk S2
  obtain ⟨m, hm⟩ : ∃ m : Nat, m = min len 30 := ⟨_, rfl⟩
  have hmv : min (len : Int) 30 = (m : Int) := by omega
  have hm1 : m ≤ len := by omega
  have hm2 : m ≤ 30 := by omega
  clear hm
  go_wp2_with fail
  go_loopw [8] (fun v wr => ∃ i : Nat, i ≤ m ∧ v = .int .i64 i ∧ ∃ e1 e2, LL w wr p1 c1 e1 (fw X i) p2 c2 e2 (bw X m i) 4) (fun v _ => m - (intOf v).toNat)
  case atStart => exact ⟨0, Nat.zero_le _, rfl, _, _, S3.out⟩
  case round =>
    obtain ⟨i, hi, rfl, e1, e2, hS⟩ := hrel
    have S := hide hS
    clear hS S3
    by_cases him : i < m
    · have hii : (i : Int) < (m : Int) := by omega
      have hX1 := (HX.out.kept S.out.one.kept) i (by omega)
      have hX2 := (HX.out.kept S.out.one.kept) (m - 1 - i) (by omega)
      obtain ⟨b, off, rfl, x0, x1, x2, x3⟩ := hX1
      obtain ⟨b', off', hb, y0, y1, y2, y3⟩ := hX2
      cases hb
      obtain ⟨k, hk⟩ : ∃ k : Nat, k = m - 1 - i := ⟨_, rfl⟩
      rw [← hk] at y0 y1 y2 y3
      have hi0 : (0 : Int) ≤ (i : Int) := by omega
      have hi1 : (i : Int) < (len : Int) := by omega
      have hk0 : (0 : Int) ≤ (k : Int) := by omega
      have hk1 : (k : Int) < (len : Int) := by omega
      have hw1 : IntKind.i64.wrap ((m : Int) - 1) = (m : Int) - 1 := by rw [IntKind.wrap_i64]; omega
      have hw2 : IntKind.i64.wrap ((m : Int) - 1 - (i : Int)) = (k : Int) := by rw [IntKind.wrap_i64]; omega
      have hw3 : wrap64 ((m : Int) - 1) = (m : Int) - 1 := by rw [IntWalk.wrap64_in _ ⟨by omega, by omega⟩]
      have HK := hide hk
      clear hk
      go_wp2_with fail
      refine (fun (rest : PLift (?T : Prop)) => ?main) (PLift.up ?rest)
      case main =>
        go_region_held3 (fun w' => w'.cell? ⟨b, off + i * 4, none⟩ = some (.int .i64 (X i).a) ∧ w'.cell? ⟨b, off + i * 4 + 1, none⟩ = some (.int .i64 (X i).b) ∧ w'.cell? ⟨b, off + i * 4 + 2, none⟩ = some (.int .i64 (X i).c) ∧ w'.cell? ⟨b, off + i * 4 + 3, none⟩ = some (.bool (X i).d) ∧ w'.cell? ⟨b, off + k * 4, none⟩ = some (.int .i64 (X k).a) ∧ w'.cell? ⟨b, off + k * 4 + 1, none⟩ = some (.int .i64 (X k).b) ∧ w'.cell? ⟨b, off + k * 4 + 2, none⟩ = some (.int .i64 (X k).c) ∧ w'.cell? ⟨b, off + k * 4 + 3, none⟩ = some (.bool (X k).d)) (go_keep) (fail)
        · rename_i hHeld
          clear hHeld
          obtain ⟨k1, k2, k3⟩ := two_cel wr (X i) (X k)
          have C9 := k1
          have C10 := k2
          have S6 := hide (S.out.next k3)
          have F9 := hide (S.out.far (q := wr.heap.size) (by omega))
          have F10 := hide (S.out.far (q := wr.heap.size + 1) (by omega))
          unfold Ex.obj at C9 C10 S6
          clear k1 k2 k3
          generalize ((wr.alloc (.cells #[.int .i64 (X i).a, .int .i64 (X i).b, .int .i64 (X i).c, .bool (X i).d] 38)).alloc (.cells #[.int .i64 (X k).a, .int .i64 (X k).b, .int .i64 (X k).c, .bool (X k).d] 38)).drew = W8 at C9 C10 S6 ⊢
          generalize wr.heap.size + 1 = q10 at C9 C10 S6 F9 F10 ⊢
          generalize wr.heap.size = q9 at C9 C10 S6 F9 F10 ⊢
          revert F10
          revert F9
          revert S6
          revert C10
          revert C9
          revert q10
          revert q9
          revert W8
          exact rest.down
        · rename_i hHeld
          clear hHeld
          obtain ⟨k1, k2, k3⟩ := two_cel wr (X k) (X i)
          have C9 := k2
          have C10 := k1
          have S6 := hide (S.out.next k3)
          have F9 := hide (S.out.far (q := wr.heap.size + 1) (by omega))
          have F10 := hide (S.out.far (q := wr.heap.size) (by omega))
          unfold Ex.obj at C9 C10 S6
          clear k1 k2 k3
          generalize ((wr.alloc (.cells #[.int .i64 (X k).a, .int .i64 (X k).b, .int .i64 (X k).c, .bool (X k).d] 38)).alloc (.cells #[.int .i64 (X i).a, .int .i64 (X i).b, .int .i64 (X i).c, .bool (X i).d] 38)).drew = W8 at C9 C10 S6 ⊢
          generalize wr.heap.size + 1 = q9 at C9 C10 S6 F9 F10 ⊢
          generalize wr.heap.size = q10 at C9 C10 S6 F9 F10 ⊢
          revert F10
          revert F9
          revert S6
          revert C10
          revert C9
          revert q10
          revert q9
          revert W8
          exact rest.down
      case rest =>
        intro W8 q9 q10 C9 C10 S6 F9 F10
        have H10 := hide C10
        obtain ⟨x0, x1, x2, x3⟩ := C9
        clear C10 S
        go_wp2_with fail
        refine (S6.out.add (by decide) (X i) (by simp [fw]; omega)).mono ?_
        rintro e w9 ⟨rfl, e1', h9, k9⟩
        have S9 := hide h9
        obtain ⟨y0, y1, y2, y3⟩ := H10.out.kept k9 F10.out.1
        clear h9 k9 S6 x0 x1 x2 x3 H10 F9 F10
        go_wp2_with fail
        refine (S9.out.swap.add (by decide) (X k) (by simp [bw]; omega)).mono ?_
        rintro e w10 ⟨rfl, e2', h10, -⟩
        have S10 := hide h10.swap
        clear h10 S9 y0 y1 y2 y3
        go_wp2
        go_roundw
        case rel => exact ⟨i + 1, by omega, by go_num, _, _, by rw [fw_succ, bw_succ, ← HK.out]; exact S10.out⟩
        case measure => simp [intOf]; omega
    · have hni : ¬ (i : Int) < (m : Int) := by omega
      have him : i = m := by omega
      subst him
      have S0 := hide S.out
      clear S HX
      go_wp2_with fail
      go_loopw [11] (fun v wr => ∃ k : Nat, k ≤ 4 ∧ v = .int .i64 k ∧ ∃ e1 e2, LL w wr p1 c1 e1 (fw X i) p2 c2 e2 (bw X i i) 4) (fun v _ => 4 - (intOf v).toNat)
      case atStart => exact ⟨0, Nat.zero_le _, rfl, _, _, S0.out⟩
      case round =>
        clear S0
        obtain ⟨k, hk, rfl, e1, e2, hS⟩ := hrel
        have S := hide hS
        clear hS
        have hcn : cn (evs 4 (bw X i i)) = cn (evs 4 (fw X i)) := by
          funext q
          rw [bw_rev, evs_rev, cn_rev]
        have HC := hide hcn
        clear hcn
        by_cases hk4 : k < 4
        · have hki : (k : Int) < 4 := by omega
          go_wp2_with fail
          refine (node_ok (k := k) S.out.one.la.sc hk4 (by omega)).mono ?_
          rintro e w5 ⟨rfl, hk5⟩
          rw [← HC.out]
          obtain ⟨y0, hy0⟩ : ∃ y, cn (evs 4 (bw X i i)) (k * 6) = y := ⟨_, rfl⟩
          obtain ⟨y1, hy1⟩ : ∃ y, cn (evs 4 (bw X i i)) (k * 6 + 1) = y := ⟨_, rfl⟩
          obtain ⟨y2, hy2⟩ : ∃ y, cn (evs 4 (bw X i i)) (k * 6 + 2) = y := ⟨_, rfl⟩
          obtain ⟨y3, hy3⟩ : ∃ y, cn (evs 4 (bw X i i)) (k * 6 + 3) = y := ⟨_, rfl⟩
          obtain ⟨y4, hy4⟩ : ∃ y, cn (evs 4 (bw X i i)) (k * 6 + 4) = y := ⟨_, rfl⟩
          obtain ⟨y5, hy5⟩ : ∃ y, cn (evs 4 (bw X i i)) (k * 6 + 5) = y := ⟨_, rfl⟩
          have hagg : aggC (cn (evs 4 (bw X i i))) k = .agg #[.int .i64 y0, .int .i64 y1, .int .i64 y2, .int .i64 y3, .int .i64 y4, .int .i64 y5] := by unfold aggC; rw [hy0, hy1, hy2, hy3, hy4, hy5]
          rw [hagg]
          have HA := hide hagg
          have r5 := fun q hq => row6 w5 24 (.int .i64 y0) (.int .i64 y1) (.int .i64 y2) (.int .i64 y3) (.int .i64 y4) (.int .i64 y5) q hq
          have S5 := hide (S.out.next (hk5.alloc (.cells #[.int .i64 y0, .int .i64 y1, .int .i64 y2, .int .i64 y3, .int .i64 y4, .int .i64 y5] 24)))
          clear hk5 S hagg hy0 hy1 hy2 hy3 hy4 hy5 HC
          go_wp2_with fail
          generalize w5.alloc (.cells #[.int .i64 y0, .int .i64 y1, .int .i64 y2, .int .i64 y3, .int .i64 y4, .int .i64 y5] 24) = w6 at S5 r5 ⊢
          generalize w5.heap.size = q5 at r5 ⊢
          refine (node_ok (k := k) S5.out.two.la.sc hk4 (by omega)).mono ?_
          rintro e w7 ⟨rfl, hk7⟩
          rw [HA.out]
          have a0 : ∀ o, (w7.alloc o).cell? ⟨q5, 0, none⟩ = some (.int .i64 y0) := fun o => (hk7.alloc o).cell (r5 0 (by omega)) (by simp)
          have a1 : ∀ o, (w7.alloc o).cell? ⟨q5, 1, none⟩ = some (.int .i64 y1) := fun o => (hk7.alloc o).cell (r5 1 (by omega)) (by simp)
          have a2 : ∀ o, (w7.alloc o).cell? ⟨q5, 2, none⟩ = some (.int .i64 y2) := fun o => (hk7.alloc o).cell (r5 2 (by omega)) (by simp)
          have a3 : ∀ o, (w7.alloc o).cell? ⟨q5, 3, none⟩ = some (.int .i64 y3) := fun o => (hk7.alloc o).cell (r5 3 (by omega)) (by simp)
          have a4 : ∀ o, (w7.alloc o).cell? ⟨q5, 4, none⟩ = some (.int .i64 y4) := fun o => (hk7.alloc o).cell (r5 4 (by omega)) (by simp)
          have a5 : ∀ o, (w7.alloc o).cell? ⟨q5, 5, none⟩ = some (.int .i64 y5) := fun o => (hk7.alloc o).cell (r5 5 (by omega)) (by simp)
          have S7 := hide (S5.out.next (hk7.alloc (.cells #[.int .i64 y0, .int .i64 y1, .int .i64 y2, .int .i64 y3, .int .i64 y4, .int .i64 y5] 24)))
          clear hk7 r5 S5 HA
          go_wp2
          go_roundw
          case rel => exact ⟨k + 1, by omega, by go_num, _, _, S7.out⟩
          case measure => simp [intOf]; omega
        · have hnk : ¬ (k : Int) < 4 := by omega
          have hl1 : (evs 4 (fw X i)).length ≤ 1000000 := by have := evs_le 4 (fw X i); rw [show (fw X i).length = i by simp [fw]] at this; omega
          have hl2 : (evs 4 (bw X i i)).length ≤ 1000000 := by have := evs_le 4 (bw X i i); rw [show (bw X i i).length = i by simp [bw]] at this; omega
          have hll : (evs 4 (bw X i i)).length = (evs 4 (fw X i)).length := by rw [bw_rev, evs_rev, List.length_reverse]
          have L1 := hide hl1
          have L2 := hide hl2
          have LE := hide hll
          clear hl1 hl2 hll HC
          go_wp2_with fail
          refine (events_ok S.out.one.la (by decide) L1.out).mono ?_
          rintro e w5 ⟨v5, rfl, o5, k5⟩
          obtain ⟨ao5, cap5, hv5⟩ := own_shapeS o5
          subst hv5
          have S5 := hide (S.out.next k5)
          clear o5 k5 S
          go_wp2_with fail
          refine (events_ok S5.out.two.la (by decide) L2.out).mono ?_
          rintro e w6 ⟨v6, rfl, o6, k6⟩
          obtain ⟨ao6, cap6, hv6⟩ := own_shapeS o6
          subst hv6
          have K6 := hide ((S5.out.next k6).one.kept)
          rw [LE.out]
          clear o6 k6 S5
          go_wp2
          go_ret
          exact ⟨by simp, K6.out⟩

theorem own : ownKnob Try.prog.godebug = none := by kernel_rfl
theorem laidOut : laidOutB Try.prog = true := by kernel_rfl

set_option maxRecDepth 100000 in
theorem lifted (os : Os) (started : os.Started) (H : Type) (enc : TypeId × Value → H) :
    ReturnsInHanded {} Try.checked os 5 .any (Rows.statsTurnedSpec.pre6 enc Try.prog Try.f5 Rows.statsTurnedRow.domain false) (Rows.statsTurnedSpec.post enc Try.prog Try.f5 false true false false) := by
  refine returnsInHanded_of_change (C := Try.checked) own started (by kernel_rfl) Try.func5
    (ChangeSpec.witness6 (enc := enc) (C := Try.checked) false ⟨#[], #[.slice none 0 0], []⟩ 8 (by kernel_rfl) (by kernel_rfl) (by kernel_rfl) (by kernel_rfl)) ?_
  intro W base args ds gs before hval0 hW hcnd _
  have hval : ∀ (j : Nat) t v, Try.f5.params[j]? = some t → args[j]? = some v → Value.okWide Try.prog W .any base t v := hval0
  have hW' := hW
  obtain ⟨p, q, hA0, hV, rfl, hfz, hnd⟩ := hW
  have hA : DataW.TrodAll enc Try.prog W 0 (fun _ => true) true Try.f5.params.toList args.toList ds p := hA0
  have hK := hA
  rw [Try.params5] at hA hval
  obtain ⟨v0, vs0, d0, ds0, p0, q0, hargs, rfl, rfl, h0, r0⟩ := trodAll_cons hA
  obtain ⟨rfl, rfl, rfl⟩ := trodAll_nil r0
  obtain rfl : args = #[v0] := by cases args; simp_all
  obtain ⟨rfl, rfl⟩ := trodVars_none hV
  obtain ⟨a0, len0, cap0, X0, rfl, hl0, hX0⟩ := open_exs (okWide_slice Try.underlying22 (hval 0 22 v0 rfl rfl)) h0
  clear hA0 hval0
  refine (walk hl0 hX0 (w := W)).mono fun e W' ⟨he, hk⟩ => ?_
  subst he
  exact ⟨_, rfl, _, _, _, [], _, [], hW', trodAll_mk1 (shut_bool Try.underlying4 _), trodAll_below laidOut hk.below _ _ _ _ hK (by kernel_rfl), rfl, hk.below.frame _, fun h => by cases h⟩

theorem said : Rows.StatsTurnedSaid :=
  OpenClaim.holds_of_wide 5 Try.f5 rfl rfl rfl rfl rfl rfl rfl ⟨rfl, rfl, rfl, rfl, rfl⟩ rfl rfl rfl rfl rfl (by kernel_rfl) Try.func5 (by kernel_rfl)
    (of_decide_eq_true (by kernel_rfl)) (by unfold Func.isWrapper; first | (rw [if_pos (by decide +kernel)]; kernel_rfl) | (rw [if_neg (by decide +kernel)]; exact ⟨rfl, rfl⟩))
    (fun os started H enc _ => lifted os started H enc)
end Go.Proofs.Ytbejafjpdplofaa.LT
