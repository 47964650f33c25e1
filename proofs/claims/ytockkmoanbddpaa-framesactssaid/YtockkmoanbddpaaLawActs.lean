/-
  FramesActs: for all counts of nodes and frames and every row of acts the law answers true, and its arguments read behind the call as before. No condition.
-/
import Derived.Test.YtockkmoanbddpaaActsP
import Derived.Test.YtockkmoanbddpaaActsB
import Derived.Test.YtockkmoanbddpaaActsC
import Derived.Test.YtockkmoanbddpaaLift
namespace Go.Proofs.Ytockkmoanbddpaa.facts
open Go.ChangeShapes Go.WideShapes Go.ChangeAt Go.RowKit Fr

set_option maxRecDepth 20000 in
set_option maxHeartbeats 4000000 in
theorem walkA (nodes each : Int) (h : ¬ (1 ≤ nodes ∧ nodes ≤ 8 ∧ 1 ≤ each ∧ each ≤ 1024)) (ao : Option Addr) (len cap : Nat) (w : World) :
    Calls Try.prog 3 #[.int .i64 nodes, .int .i64 each, .slice ao len cap] w fun e w' => e = .returned (.bool true) ∧ Kept [] w w' := by
  go_enter Try.func3, Try.ntmps3
  go_wp2_with (first | (go_at_call 13; refine (none_any _).mono ?_; rintro r w' ⟨rfl, hw⟩; subst w') | (go_at_call 14; refine (load_nil _ _ _ _).mono ?_; rintro r w' ⟨rfl, hw⟩; subst w') | (go_at_call 15; refine (node_nil _ _).mono ?_; rintro r w' ⟨rfl, hw⟩; subst w') | (go_at_call 16; refine (first_nil _ _).mono ?_; rintro r w' ⟨rfl, hw⟩; subst w'))
  refine (holds_true _).mono ?_
  rintro r w1 ⟨rfl, k1⟩
  have K1 := hide k1
  clear k1
  go_wp2_with fail
  refine (none_any _).mono ?_; rintro r w' ⟨rfl, hw⟩; subst w'
  go_wp2_with fail
  refine (len_nil _).mono ?_; rintro r w' ⟨rfl, hw⟩; subst w'
  go_wp2_with fail
  refine (none_any _).mono ?_; rintro r w' ⟨rfl, hw⟩; subst w'
  go_wp2_with fail
  refine (save_nil _ _ _ _ _ _).mono ?_; rintro r w' ⟨rfl, hw⟩; subst w'
  go_wp2_with fail
  refine (none_any _).mono ?_; rintro r w' ⟨rfl, hw⟩; subst w'
  go_wp2_with fail
  refine (copy_nil _ _ _).mono ?_; rintro r w' ⟨rfl, hw⟩; subst w'
  go_wp2_with fail
  refine (none_any _).mono ?_; rintro r w' ⟨rfl, hw⟩; subst w'
  go_wp2_with fail
  refine (clear_nil _ _).mono ?_; rintro r w' ⟨rfl, hw⟩; subst w'
  rcases (show nodes < 1 ∨ (1 ≤ nodes ∧ 8 < nodes) ∨ (1 ≤ nodes ∧ nodes ≤ 8 ∧ each < 1) ∨ (1 ≤ nodes ∧ nodes ≤ 8 ∧ 1024 < each) from by omega) with h | ⟨h1, h2⟩ | ⟨h1, h2, h3⟩ | ⟨h1, h2, h3⟩
  all_goals
    go_wp2_with fail
    refine (new_bad nodes each (by omega)).mono ?_
    rintro r w' ⟨rfl, hw⟩
    subst w'
    go_wp2
    go_ret
    exact ⟨rfl, K1.out⟩
theorem walk (nodes each : Int) (ao : Option Addr) (len cap : Nat) (w : World) (hlen : len ≤ maxLen) (hA : IsActs w ao len) :
    Calls Try.prog 3 #[.int .i64 nodes, .int .i64 each, .slice ao len cap] w fun e w' => e = .returned (.bool true) ∧ Kept [] w w' := by
  by_cases h : 1 ≤ nodes ∧ nodes ≤ 8 ∧ 1 ≤ each ∧ each ≤ 1024
  · obtain ⟨h1, h2, h3, h4⟩ := h
    obtain ⟨n, rfl⟩ := Int.eq_ofNat_of_zero_le (show 0 ≤ nodes by omega)
    by_cases h5 : each ≤ 40
    · obtain ⟨e, rfl⟩ := Int.eq_ofNat_of_zero_le (show 0 ≤ each by omega)
      exact walkB n e h1 h2 h3 h5 ao len cap w hlen hA
    · exact walkC n each h1 h2 (by omega) h4 ao len cap w hlen hA
  · exact walkA nodes each h ao len cap w
theorem list5 {α : Type} : ∀ (l : List α), l.length = 5 → ∃ a b c d e, l = [a, b, c, d, e]
  | [a, b, c, d, e], _ => ⟨a, b, c, d, e, rfl⟩
set_option maxRecDepth 20000 in
theorem open_acts {H : Type} {enc : TypeId × Value → H} {W : World} {v : Value} {d : DataW H} {p : List MemPlace} (hv : ∃ a len cap, v = .slice a len cap)
    (h : DataW.Trod enc Try.prog W 0 (fun _ => true) true 22 v d p) : ∃ a len cap, v = .slice a len cap ∧ len ≤ maxLen ∧ IsActs W a len := by
  obtain ⟨fs, hfs, ho⟩ : ∃ fs : Array Field, Try.prog.underlying 41 = some (.struct fs) ∧ fs.map (fun f => (f.type, f.offset)) = #[(3, 0), (3, 1), (3, 2), (3, 3), (23, 4)] := ⟨_, Try.underlying41, by simp⟩
  obtain ⟨a, len, cap, rfl, hl, hi⟩ := open_structs (kc := 5) Try.underlying22 hfs (by kernel_rfl) (by decide) hv h
  refine ⟨a, len, cap, rfl, hl, fun i hlt => ?_⟩
  obtain ⟨b, off, rfl, fuel, cs, hcl, hcell, hf⟩ := hi i hlt
  have hc3 : Try.prog.cellsOf 3 = 1 := by kernel_rfl
  have hc23 : Try.prog.cellsOf 23 = 1 := by kernel_rfl
  obtain ⟨u0, u1, u2, u3, u4, rfl⟩ := list5 cs hcl
  have fld : ∀ (q : Nat) (t o : Nat), (fs.map (fun f => (f.type, f.offset)))[q]? = some (t, o) → ∃ y, DataW.trod enc Try.prog W 0 (fun _ => true) true fuel t (([u0, u1, u2, u3, u4].drop o).take (Try.prog.cellsOf t)) = some y := by
    intro q t o hq
    rw [Array.getElem?_map] at hq
    obtain ⟨fd, h1, h2⟩ := Option.map_eq_some_iff.1 hq
    obtain ⟨y, hy⟩ := hf q fd h1
    simp only [Prod.mk.injEq] at h2
    rw [← h2.1, ← h2.2]
    exact ⟨y, hy⟩
  rw [ho] at fld
  obtain ⟨y0, t0⟩ := fld 0 3 0 rfl
  obtain ⟨y1, t1⟩ := fld 1 3 1 rfl
  obtain ⟨y2, t2⟩ := fld 2 3 2 rfl
  obtain ⟨y3, t3⟩ := fld 3 3 3 rfl
  obtain ⟨y4, t4⟩ := fld 4 23 4 rfl
  rw [hc3] at t0 t1 t2 t3
  rw [hc23] at t4
  simp at t0 t1 t2 t3 t4
  obtain ⟨wh, e0, _, _⟩ := DataW.trod_int Try.underlying3 t0
  obtain ⟨fm, e1, _, _⟩ := DataW.trod_int Try.underlying3 t1
  obtain ⟨at_, e2, _, _⟩ := DataW.trod_int Try.underlying3 t2
  obtain ⟨nn, e3, _, w3⟩ := DataW.trod_int Try.underlying3 t3
  simp at e0 e1 e2 e3
  subst e0 e1 e2 e3
  have hnn : nn ≤ 9223372036854775807 := by
    simp [Lit.wf, IntKind.min, IntKind.max, IntKind.signed, IntKind.bits] at w3
    omega
  have hb : ∃ A L C z, u4 = .slice A L C ∧ L ≤ C ∧ C ≤ maxLen ∧ (A = none → C = 0) ∧ Bs W A L z := by
    rcases open_ints Try.underlying23 Try.underlying5 (by kernel_rfl) t4 with ⟨hcs, _⟩ | ⟨x, l, c, zs, hcs, _, hl2, hm2, hz2, _, hcell2, hws⟩
    · simp at hcs
      exact ⟨none, 0, 0, fun _ => 0, hcs, Nat.le_refl _, Nat.zero_le _, fun _ => rfl, fun i hi => absurd hi (Nat.not_lt_zero _)⟩
    · simp at hcs
      refine ⟨some x, l, c, _, hcs, hl2, hm2, (fun h => by cases h), Bs.of_ints (zs := fun i => zs.getD i 0) (fun i hi => ?_)⟩
      have hi2 : i < zs.length := by simp at hz2; omega
      obtain ⟨b, off, rfl, hc2⟩ := plain_addr (hcell2 0 (by omega)) (hcell2 i hi2)
      refine ⟨b, off, rfl, hc2, ?_⟩
      have : zs.getD i 0 ∈ zs := by rw [List.getD_eq_getElem?_getD, List.getElem?_eq_getElem hi2]; exact List.getElem_mem hi2
      exact hws _ this
  obtain ⟨A, L, C, z, rfl, b1, b2, b3, b4⟩ := hb
  exact ⟨b, off, wh, fm, at_, nn, A, L, C, z, rfl, hcell 0 _ rfl, hcell 1 _ rfl, hcell 2 _ rfl, hcell 3 _ rfl, hcell 4 _ rfl, hnn, b1, b2, b3, b4⟩

theorem own : ownKnob Try.prog.godebug = none := by kernel_rfl
theorem laidOut : laidOutB Try.prog = true := by kernel_rfl

set_option maxRecDepth 100000 in
theorem lifted (os : Os) (started : os.Started) (H : Type) (enc : TypeId × Value → H) :
    ReturnsInHanded {} Try.checked os 3 .any (Rows.framesActsSpec.pre6 enc Try.prog Try.f3 Rows.framesActsRow.domain false) (Rows.framesActsSpec.post enc Try.prog Try.f3 false true false false) := by
  refine returnsInHanded_of_change (C := Try.checked) own started (by kernel_rfl) Try.func3
    (ChangeSpec.witness6 (enc := enc) (C := Try.checked) false ⟨#[], #[.int .i64 0, .int .i64 0, .slice none 0 0], []⟩ 8 (by kernel_rfl) (by kernel_rfl) (by kernel_rfl) (by kernel_rfl)) ?_
  intro W base args ds gs before hval0 hW hcnd _
  have hval : ∀ (j : Nat) t v, Try.f3.params[j]? = some t → args[j]? = some v → Value.okWide Try.prog W .any base t v := hval0
  have hW' := hW
  obtain ⟨p, q, hA0, hV, rfl, hfz, hnd⟩ := hW
  have hA : DataW.TrodAll enc Try.prog W 0 (fun _ => true) true Try.f3.params.toList args.toList ds p := hA0
  have hK := hA
  rw [Try.params3] at hA hval
  obtain ⟨v0, vs0, d0, ds0, p0, q0, hargs, rfl, rfl, h0, r0⟩ := trodAll_cons hA
  obtain ⟨v1, vs1, d1, ds1, p1, q1, rfl, rfl, rfl, h1, r1⟩ := trodAll_cons r0
  obtain ⟨v2, vs2, d2, ds2, p2, q2, rfl, rfl, rfl, h2, r2⟩ := trodAll_cons r1
  obtain ⟨rfl, rfl, rfl⟩ := trodAll_nil r2
  obtain rfl : args = #[v0, v1, v2] := by cases args; simp_all
  obtain ⟨rfl, rfl⟩ := trodVars_none hV
  obtain ⟨nodes, rfl, rfl, rfl, w0⟩ := open_int Try.underlying3 (hval 0 3 v0 rfl rfl) h0
  obtain ⟨each, rfl, rfl, rfl, w1⟩ := open_int Try.underlying3 (hval 1 3 v1 rfl rfl) h1
  obtain ⟨a2, len2, cap2, rfl, hl2, hT2⟩ := open_acts (okWide_slice Try.underlying22 (hval 2 22 v2 rfl rfl)) h2
  clear hA0 hval0
  refine (walk nodes each a2 len2 cap2 W hl2 hT2).mono fun e W' ⟨he, hk⟩ => ?_
  subst he
  exact ⟨_, rfl, _, _, _, [], _, [], hW', trodAll_mk1 (shut_bool Try.underlying4 _), trodAll_below laidOut hk.below _ _ _ _ hK (by kernel_rfl), rfl, hk.below.frame _, fun h => by cases h⟩

theorem said : Rows.FramesActsSaid :=
  OpenClaim.holds_of_wide 3 Try.f3 rfl rfl rfl rfl rfl rfl rfl ⟨rfl, rfl, rfl, rfl, rfl⟩ rfl rfl rfl rfl rfl (by kernel_rfl) Try.func3 (by kernel_rfl)
    (of_decide_eq_true (by kernel_rfl)) (by unfold Func.isWrapper; first | (rw [if_pos (by decide +kernel)]; kernel_rfl) | (rw [if_neg (by decide +kernel)]; exact ⟨rfl, rfl⟩))
    (fun os started H enc _ => lifted os started H enc)
end Go.Proofs.Ytockkmoanbddpaa.facts
