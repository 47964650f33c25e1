/-
  The walk of 'messuagelaw10.PolicyTells', and the given statement of it.
-/
import Derived.Test.YtpnlialhefknnaaPolRef
import Derived.Test.YtpnlialhefknnaaOpenAgg
import Derived.Test.YtpnlialhefknnaaRows
import Derived.Deep.RegionHeld3
namespace Go.Proofs.Ytpnlialhefknnaa.LT
open Go.ChangeShapes Go.WideShapes Go.ChangeAt Go.RowKit ND PO
theorem cells3 {w w1 : World} (hK : Kept [] w w1) {b : Nat} {x y z : Value} (h : w.cell? ⟨b, 0, none⟩ = some x ∧ w.cell? ⟨b, 1, none⟩ = some y ∧ w.cell? ⟨b, 2, none⟩ = some z) :
    w1.cell? ⟨b, 0, none⟩ = some x ∧ w1.cell? ⟨b, 1, none⟩ = some y ∧ w1.cell? ⟨b, 2, none⟩ = some z :=
  ⟨hK.cell h.1 (by simp), hK.cell h.2.1 (by simp), hK.cell h.2.2 (by simp)⟩
set_option maxHeartbeats 2000000 in
set_option maxRecDepth 20000 in
theorem law_any (m : Int) (s : Nat) (nd n own cur : Int) (hs : s < 256) (w : World) : Calls Try.prog 3 #[pol m s nd, .agg #[.int .i64 n, .int .i64 own, .int .i64 cur]] w fun e w' => e = .returned (.bool true) ∧ Kept [] w w' := by
  have hcR := PR.check_any m s nd n hs
  have hcP := PO.check_any m s nd n hs
  have hpP := PO.permitted_any m s nd n hs
  have hsP := PO.start_any m s nd n own cur hs
  have hto := PR.to_any m s nd
  have hf : (chk m s nd n ≠ 0 → permS m s nd n = 0 ∧ startOf m s nd n own cur = (0, 0, chk m s nd n)) ∧
      (chk m s nd n = 0 → (1 ≤ n ∧ n ≤ 8) ∧ permS m s nd n = (if m = 1 then s else run 0 n.toNat) ∧ (¬ (0 ≤ own ∧ own < n) → startOf m s nd n own cur = (0, 0, 10)) ∧
        (0 ≤ own ∧ own < n → startOf m s nd n own cur = ((PR.rstart m s nd own cur).1, (PR.rstart m s nd own cur).2, 0))) := by
    refine ⟨fun h => ⟨if_neg h, if_neg h⟩, fun h => ⟨chk_ok h, if_pos h, fun ho => ?_, fun ho => ?_⟩⟩
    · have hn : nodeE own n = 10 := if_neg ho
      unfold startOf
      rw [if_pos h, hn, if_neg (by decide)]
    · exact PR.startOf_ok h (if_pos ho)
  have HF := hide hf
  clear hf
  generalize permS m s nd n = ps at *
  generalize startOf m s nd n own cur = st at *
  generalize chk m s nd n = c at *
  obtain ⟨st1, st2, st3⟩ := st
  simp only [] at hsP
  have hps : ps < 256 := by
    by_cases h : c = 0
    · obtain ⟨⟨h1, h2⟩, h3, -⟩ := HF.out.2 h
      rw [h3]
      split
      · exact hs
      · exact run_lt 0 _ (by omega)
    · rw [(HF.out.1 h).1]; decide
  unfold pol at *
  go_enter Try.func3, Try.ntmps3
  go_wp2_with fail
  refine (hcR _).mono ?_
  rintro e w1 ⟨rfl, hK⟩
  have hK1 := hide (((Kept.refl [] w).alloc (.cells #[.int .i64 m, .int .u8 s, .int .i64 nd] 23)).alloc (.cells #[.int .i64 n, .int .i64 own, .int .i64 cur] 25) |>.next hK)
  obtain ⟨p0, p1, p2⟩ := cells3 hK (b := w.heap.size) (x := .int .i64 m) (y := .int .u8 s) (z := .int .i64 nd) ⟨by simp, by simp, by simp⟩
  obtain ⟨a0, a1, a2⟩ := cells3 hK (b := w.heap.size + 1) (x := .int .i64 n) (y := .int .i64 own) (z := .int .i64 cur) ⟨by simp, by simp, by simp⟩
  clear hK hcR
  generalize hb1 : w.heap.size + 1 = b1 at a0 a1 a2 ⊢
  generalize hb : w.heap.size = b at p0 p1 p2 ⊢
  clear hb1 hb
  go_wp2_with fail
  go_region_held3 (fun w' => w'.cell? ⟨b, 0, none⟩ = some (.int .i64 m) ∧ w'.cell? ⟨b, 1, none⟩ = some (.int .u8 s) ∧ w'.cell? ⟨b, 2, none⟩ = some (.int .i64 nd) ∧ w'.cell? ⟨b1, 0, none⟩ = some (.int .i64 n)) (go_keep) (first
    | (go_at_call 9; refine (hto _).mono ?_; rintro e w2 ⟨rfl, hK2⟩; obtain ⟨q0, q1, q2⟩ := cells3 hK2 ⟨p0, p1, p2⟩; obtain ⟨d0, d1, d2⟩ := cells3 hK2 ⟨a0, a1, a2⟩)
    | (go_at_call 8; refine (hpP _).mono ?_; rintro e w3 ⟨rfl, hK3⟩; obtain ⟨r0, r1, r2⟩ := cells3 hK3 ⟨q0, q1, q2⟩; obtain ⟨f0, f1, f2⟩ := cells3 hK3 ⟨d0, d1, d2⟩))
  have hK3' := hide ((hK1.out.drew.next hK2).next hK3)
  clear q0 q1 q2 d0 d1 d2 p0 p1 p2 a0 a1 a2 hK2 hK3 hK1
  go_wp2_with fail
  go_region_held3 (fun w' => w'.cell? ⟨b, 0, none⟩ = some (.int .i64 m) ∧ w'.cell? ⟨b, 1, none⟩ = some (.int .u8 s) ∧ w'.cell? ⟨b, 2, none⟩ = some (.int .i64 nd) ∧ w'.cell? ⟨b1, 0, none⟩ = some (.int .i64 n) ∧ w'.cell? ⟨b1, 1, none⟩ = some (.int .i64 own) ∧ w'.cell? ⟨b1, 2, none⟩ = some (.int .i64 cur)) (go_keep) (first
    | (go_at_call 9; refine (hto _).mono ?_; rintro e w4 ⟨rfl, hK4⟩; obtain ⟨q0, q1, q2⟩ := cells3 hK4 ⟨r0, r1, r2⟩; obtain ⟨d0, d1, d2⟩ := cells3 hK4 ⟨f0, f1, f2⟩)
    | (go_at_call 10; refine (hsP _).mono ?_; rintro e w5 ⟨rfl, hK5⟩; obtain ⟨p0, p1, p2⟩ := cells3 hK5 ⟨q0, q1, q2⟩; obtain ⟨a0, a1, a2⟩ := cells3 hK5 ⟨d0, d1, d2⟩))
  have hK5' := hide ((hK3'.out.drew.next hK4).next hK5)
  clear q0 q1 q2 d0 d1 d2 r0 r1 r2 f0 f1 f2 hK4 hK5 hK3'
  go_wp2_with fail
  go_region_held3 (fun w' => w'.cell? ⟨b, 0, none⟩ = some (.int .i64 m) ∧ w'.cell? ⟨b, 1, none⟩ = some (.int .u8 s) ∧ w'.cell? ⟨b, 2, none⟩ = some (.int .i64 nd) ∧ w'.cell? ⟨b1, 0, none⟩ = some (.int .i64 n)) (go_keep) (first
    | (go_at_call 11; refine (PR.starts_true _).mono ?_; rintro e w6 ⟨rfl, hK6⟩; obtain ⟨q0, q1, q2⟩ := cells3 hK6 ⟨p0, p1, p2⟩; obtain ⟨d0, d1, d2⟩ := cells3 hK6 ⟨a0, a1, a2⟩)
    | (go_at_call 9; refine (hto _).mono ?_; rintro e w7 ⟨rfl, hK7⟩; obtain ⟨r0, r1, r2⟩ := cells3 hK7 ⟨q0, q1, q2⟩; obtain ⟨f0, f1, f2⟩ := cells3 hK7 ⟨d0, d1, d2⟩)
    | (go_at_call 12; refine (hcP _).mono ?_; rintro e w8 ⟨rfl, hK8⟩; obtain ⟨i0, i1, i2⟩ := cells3 hK8 ⟨r0, r1, r2⟩; obtain ⟨j0, j1, j2⟩ := cells3 hK8 ⟨f0, f1, f2⟩))
  have hK8' := hide (((hK5'.out.drew.next hK6).next hK7).next hK8)
  clear q0 q1 q2 d0 d1 d2 r0 r1 r2 f0 f1 f2 p0 p1 p2 a0 a1 a2 hK6 hK7 hK8 hK5' hcP hpP hsP hto
  have HJ := hide hK8'.out
  clear hK8'
  by_cases hc : c = 0
  · obtain ⟨⟨hn1, hn8⟩, hps2, hbad, hgood⟩ := HF.out.2 hc
    subst hc
    have hpR := PR.permitted_ok m s nd n (by omega) hn8
    rw [← hps2] at hpR
    unfold pol at hpR
    clear HF hps2
    by_cases ho : 0 ≤ own ∧ own < n
    · have e := hgood ho
      simp only [Prod.mk.injEq] at e
      obtain ⟨e1, e2, e3⟩ := e
      have hsR := PR.start_any m s nd own cur hs
      rw [← e1, ← e2] at hsR
      subst e3
      obtain ⟨ho1, ho2⟩ := ho
      unfold pol at hsR
      clear hbad hgood e1 e2
      go_wp2_with (first
        | (go_at_call 13; refine (hpR _).mono ?_; rintro e w9 ⟨rfl, hK9⟩; obtain ⟨p0, p1, p2⟩ := cells3 hK9 ⟨i0, i1, i2⟩; obtain ⟨a0, a1, a2⟩ := cells3 hK9 ⟨j0, j1, j2⟩; have H9 := hide (HJ.out.next hK9); clear hK9)
        | (go_at_call 14; refine (hsR _).mono ?_; rintro e w10 ⟨rfl, hK10⟩; have H10 := hide (H9.out.next hK10); clear hK10)
        | (go_at_call 15; refine (ND.has_any ps st1 hps _).mono ?_; rintro e w' ⟨rfl, hw⟩; subst w')
        | (go_at_call 16; refine (NR.has_any ps st1 hps _).mono ?_; rintro e w' ⟨rfl, hw⟩; subst w'))
      go_ret
      exact ⟨by simp, H10.out⟩
    · have e := hbad ho
      simp only [Prod.mk.injEq] at e
      obtain ⟨e1, e2, e3⟩ := e
      subst e1 e2 e3
      clear hbad hgood
      rcases (show own < 0 ∨ (0 ≤ own ∧ n ≤ own) from by omega) with h | ⟨h1, h2⟩
      all_goals
        clear ho
        go_wp2_with (first
          | (go_at_call 13; refine (hpR _).mono ?_; rintro e w9 ⟨rfl, hK9⟩; obtain ⟨p0, p1, p2⟩ := cells3 hK9 ⟨i0, i1, i2⟩; obtain ⟨a0, a1, a2⟩ := cells3 hK9 ⟨j0, j1, j2⟩; have H9 := hide (HJ.out.next hK9); clear hK9))
        go_ret
        exact ⟨rfl, H9.out⟩
  · obtain ⟨e1, e2⟩ := HF.out.1 hc
    simp only [Prod.mk.injEq] at e2
    obtain ⟨e2, e3, e4⟩ := e2
    subst e1 e2 e3 e4
    clear HF
    go_wp2
    go_ret
    exact ⟨rfl, HJ.out⟩

theorem own : ownKnob Try.prog.godebug = none := by kernel_rfl
theorem laidOut : laidOutB Try.prog = true := by kernel_rfl

set_option maxRecDepth 100000 in
theorem lifted (os : Os) (started : os.Started) (H : Type) (enc : TypeId × Value → H) :
    ReturnsInHanded {} Try.checked os 3 .any (Rows.policyTellsSpec.pre6 enc Try.prog Try.f3 Rows.policyTellsRow.domain false) (Rows.policyTellsSpec.post enc Try.prog Try.f3 false true false false) := by
  refine returnsInHanded_of_change (C := Try.checked) own started (by kernel_rfl) Try.func3
    (ChangeSpec.witness6 (enc := enc) (C := Try.checked) false ⟨#[], #[.agg #[.int .i64 0, .int .u8 0, .int .i64 0], .agg #[.int .i64 0, .int .i64 0, .int .i64 0]], []⟩ 8 (by kernel_rfl) (by kernel_rfl) (by kernel_rfl) (by kernel_rfl)) ?_
  intro W base args ds gs before hval0 hW hcnd _
  have hval : ∀ (j : Nat) t v, Try.f3.params[j]? = some t → args[j]? = some v → Value.okWide Try.prog W .any base t v := hval0
  have hW' := hW
  obtain ⟨p, q, hA0, hV, rfl, hfz, hnd⟩ := hW
  have hA : DataW.TrodAll enc Try.prog W 0 (fun _ => true) true Try.f3.params.toList args.toList ds p := hA0
  have hK := hA
  rw [Try.params3] at hA hval
  obtain ⟨v0, vs0, d0, ds0, p0, q0, hargs, rfl, rfl, h0, r0⟩ := trodAll_cons hA
  obtain ⟨v1, vs1, d1, ds1, p1, q1, rfl, rfl, rfl, h1, r1⟩ := trodAll_cons r0
  obtain ⟨rfl, rfl, rfl⟩ := trodAll_nil r1
  obtain rfl : args = #[v0, v1] := by cases args; simp_all
  obtain ⟨rfl, rfl⟩ := trodVars_none hV
  obtain ⟨m, s, nd, rfl, wf0a, wf0b, wf0c⟩ := open_agg3 (k0 := .i64) (k1 := .u8) (k2 := .i64) Try.underlying23 (by kernel_rfl) rfl rfl rfl (by kernel_rfl) (by kernel_rfl) (by kernel_rfl) (by kernel_rfl) (by kernel_rfl) (by kernel_rfl) h0
  obtain ⟨sn, rfl⟩ := Int.eq_ofNat_of_zero_le (bounds_u8 wf0b).1
  have hs : sn < 256 := by have := (bounds_u8 wf0b).2; omega
  obtain ⟨n, own, cur, rfl, wf1a, wf1b, wf1c⟩ := open_agg3 (k0 := .i64) (k1 := .i64) (k2 := .i64) Try.underlying25 (by kernel_rfl) rfl rfl rfl (by kernel_rfl) (by kernel_rfl) (by kernel_rfl) (by kernel_rfl) (by kernel_rfl) (by kernel_rfl) h1
  clear hA0 hval0
  refine (law_any m sn nd n own cur hs W).mono fun e W' ⟨he, hk⟩ => ?_
  subst he
  exact ⟨_, rfl, _, _, _, [], _, [], hW', trodAll_mk1 (shut_bool Try.underlying4 _), trodAll_below laidOut hk.below _ _ _ _ hK (by kernel_rfl), rfl, hk.below.frame _, fun h => by cases h⟩

theorem said : Rows.PolicyTellsSaid :=
  OpenClaim.holds_of_wide 3 Try.f3 rfl rfl rfl rfl rfl rfl rfl ⟨rfl, rfl, rfl, rfl, rfl⟩ rfl rfl rfl rfl rfl (by kernel_rfl) Try.func3 (by kernel_rfl)
    (of_decide_eq_true (by kernel_rfl)) (by unfold Func.isWrapper; first | (rw [if_pos (by decide +kernel)]; kernel_rfl) | (rw [if_neg (by decide +kernel)]; exact ⟨rfl, rfl⟩))
    (fun os started H enc _ => lifted os started H enc)
end Go.Proofs.Ytpnlialhefknnaa.LT
