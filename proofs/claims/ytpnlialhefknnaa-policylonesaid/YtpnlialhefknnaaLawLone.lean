/-
  The walk of 'messuagelaw10.PolicyLone', and the given statement of it.
-/
import Derived.Test.YtpnlialhefknnaaPolRef
import Derived.Test.YtpnlialhefknnaaOpenAgg
import Derived.Test.YtpnlialhefknnaaRows
namespace Go.Proofs.Ytpnlialhefknnaa.LL
open Go.ChangeShapes Go.WideShapes Go.ChangeAt Go.RowKit ND PO
theorem facts (r : Nat) (hr : r < 4) (cur : Int) : permS r 1 0 1 = 1 ∧ chk r 1 0 1 = 0 ∧ startOf r 1 0 1 0 cur = (0, if r = 2 then 0 else cur, 0) := by
  have h2 : (nextOf (nodes 1) cur).1 = 0 := by
    rw [show nodes 1 = [0] from by decide]
    unfold nextOf
    simp only []
    by_cases h : cur < 0
    · rw [List.find?_cons_of_pos (by simpa using h)]; rfl
    · rw [List.find?_cons_of_neg (by simpa using h)]; rfl
  match r, hr with
  | 0, _ => exact ⟨by decide, by decide, by unfold startOf; rw [if_pos (by decide), if_pos (by decide)]; rfl⟩
  | 1, _ => exact ⟨by decide, by decide, by unfold startOf; rw [if_pos (by decide), if_pos (by decide)]; rfl⟩
  | 2, _ => exact ⟨by decide, by decide, by unfold startOf; rw [if_pos (by decide), if_pos (by decide)]; simp [h2]⟩
  | 3, _ => exact ⟨by decide, by decide, by unfold startOf; rw [if_pos (by decide), if_pos (by decide)]; rfl⟩
set_option maxHeartbeats 2000000 in
set_option maxRecDepth 20000 in
theorem law_any (mode cur : Int) (w : World) : Calls Try.prog 6 #[.int .i64 mode, .int .i64 cur] w fun e w' => e = .returned (.bool true) ∧ Kept [] w w' := by
  obtain ⟨r, hr, hm⟩ := mod_small mode 4 (by decide) (by decide)
  obtain ⟨f1, f2, f3⟩ := facts r (by omega) cur
  have hpP := PO.permitted_any r 1 0 1 (by decide)
  have hsP := PO.start_any r 1 0 1 0 cur (by decide)
  rw [f1, f2] at hpP
  rw [f3] at hsP
  simp only [] at hsP
  clear f1 f2 f3
  unfold pol at *
  by_cases h2 : r = 2
  · subst h2
    rw [if_pos rfl] at hsP
    go_enter Try.func6, Try.ntmps6
    go_wp2_with fail
    simp only [hm] at *
    refine (hpP _).mono ?_
    rintro e w1 ⟨rfl, hK⟩
    have c0 := hK.cell (p := ⟨w.heap.size, 0, none⟩) (v := .int .i64 2) (by simp) (by simp)
    have c1 := hK.cell (p := ⟨w.heap.size, 1, none⟩) (v := .int .u8 1) (by simp) (by simp)
    have c2 := hK.cell (p := ⟨w.heap.size, 2, none⟩) (v := .int .i64 0) (by simp) (by simp)
    have K1 := hide (((Kept.refl [] w).alloc (.cells #[.int .i64 2, .int .u8 1, .int .i64 0] 32)).next hK)
    generalize w.heap.size = b at c0 c1 c2 ⊢
    clear hK hpP
    go_wp2_with (first
      | (go_at_call 10; refine (hsP _).mono ?_; rintro e w2 ⟨rfl, hK2⟩; have d0 := hK2.cell c0 (by simp); have K2 := hide (K1.out.next hK2); clear hK2)
      | (go_at_call 11; refine (PR.starts_true _).mono ?_; rintro e w6 ⟨rfl, hK6⟩; have K6 := hide (K2.out.next hK6); clear hK6))
    go_ret
    exact ⟨by simp, K6.out⟩
  · rw [if_neg h2] at hsP
    have h2' : ¬ ((r : Int) = 2) := by omega
    go_enter Try.func6, Try.ntmps6
    go_wp2_with fail
    simp only [hm] at *
    refine (hpP _).mono ?_
    rintro e w1 ⟨rfl, hK⟩
    have c0 := hK.cell (p := ⟨w.heap.size, 0, none⟩) (v := .int .i64 r) (by simp) (by simp)
    have c1 := hK.cell (p := ⟨w.heap.size, 1, none⟩) (v := .int .u8 1) (by simp) (by simp)
    have c2 := hK.cell (p := ⟨w.heap.size, 2, none⟩) (v := .int .i64 0) (by simp) (by simp)
    have K1 := hide (((Kept.refl [] w).alloc (.cells #[.int .i64 r, .int .u8 1, .int .i64 0] 32)).next hK)
    generalize w.heap.size = b at c0 c1 c2 ⊢
    clear hK hpP
    go_wp2_with (first
      | (go_at_call 10; refine (hsP _).mono ?_; rintro e w2 ⟨rfl, hK2⟩; have d0 := hK2.cell c0 (by simp); have K2 := hide (K1.out.next hK2); clear hK2)
      | (go_at_call 11; refine (PR.starts_true _).mono ?_; rintro e w6 ⟨rfl, hK6⟩; have K6 := hide (K2.out.next hK6); clear hK6))
    go_ret
    exact ⟨by simp, K6.out⟩

theorem own : ownKnob Try.prog.godebug = none := by kernel_rfl
theorem laidOut : laidOutB Try.prog = true := by kernel_rfl

set_option maxRecDepth 100000 in
theorem lifted (os : Os) (started : os.Started) (H : Type) (enc : TypeId × Value → H) :
    ReturnsInHanded {} Try.checked os 6 .any (Rows.policyLoneSpec.pre6 enc Try.prog Try.f6 Rows.policyLoneRow.domain false) (Rows.policyLoneSpec.post enc Try.prog Try.f6 false true false false) := by
  refine returnsInHanded_of_change (C := Try.checked) own started (by kernel_rfl) Try.func6
    (ChangeSpec.witness6 (enc := enc) (C := Try.checked) false ⟨#[], #[.int .i64 0, .int .i64 0], []⟩ 8 (by kernel_rfl) (by kernel_rfl) (by kernel_rfl) (by kernel_rfl)) ?_
  intro W base args ds gs before hval0 hW hcnd _
  have hval : ∀ (j : Nat) t v, Try.f6.params[j]? = some t → args[j]? = some v → Value.okWide Try.prog W .any base t v := hval0
  have hW' := hW
  obtain ⟨p, q, hA0, hV, rfl, hfz, hnd⟩ := hW
  have hA : DataW.TrodAll enc Try.prog W 0 (fun _ => true) true Try.f6.params.toList args.toList ds p := hA0
  have hK := hA
  rw [Try.params6] at hA hval
  obtain ⟨v0, vs0, d0, ds0, p0, q0, hargs, rfl, rfl, h0, r0⟩ := trodAll_cons hA
  obtain ⟨v1, vs1, d1, ds1, p1, q1, rfl, rfl, rfl, h1, r1⟩ := trodAll_cons r0
  obtain ⟨rfl, rfl, rfl⟩ := trodAll_nil r1
  obtain rfl : args = #[v0, v1] := by cases args; simp_all
  obtain ⟨rfl, rfl⟩ := trodVars_none hV
  obtain ⟨mode, rfl, rfl, rfl, w0⟩ := open_int Try.underlying3 (hval 0 3 v0 rfl rfl) h0
  obtain ⟨cur, rfl, rfl, rfl, w1⟩ := open_int Try.underlying3 (hval 1 3 v1 rfl rfl) h1
  clear hA0 hval0
  refine (law_any mode cur W).mono fun e W' ⟨he, hk⟩ => ?_
  subst he
  exact ⟨_, rfl, _, _, _, [], _, [], hW', trodAll_mk1 (shut_bool Try.underlying4 _), trodAll_below laidOut hk.below _ _ _ _ hK (by kernel_rfl), rfl, hk.below.frame _, fun h => by cases h⟩

theorem said : Rows.PolicyLoneSaid :=
  OpenClaim.holds_of_wide 6 Try.f6 rfl rfl rfl rfl rfl rfl rfl ⟨rfl, rfl, rfl, rfl, rfl⟩ rfl rfl rfl rfl rfl (by kernel_rfl) Try.func6 (by kernel_rfl)
    (of_decide_eq_true (by kernel_rfl)) (by unfold Func.isWrapper; first | (rw [if_pos (by decide +kernel)]; kernel_rfl) | (rw [if_neg (by decide +kernel)]; exact ⟨rfl, rfl⟩))
    (fun os started H enc _ => lifted os started H enc)
end Go.Proofs.Ytpnlialhefknnaa.LL
