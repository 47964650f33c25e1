/-
  CacheHalf: for every two numbers the law answers true; no condition.
-/
import Derived.Test.YtbejafjpdplofacCch3
import Derived.Test.YtbejafjpdplofacRows
namespace Go.Proofs.Ytbejafjpdplofac.LH
open Go.ChangeShapes Go.WideShapes Go.ChangeAt Go.RowKit Cc By
/-- What lies there behind the flush and i pushes more. -/
def lst (m i : Nat) : List Nat := (List.range 8).drop m ++ (List.range i).map (fun j => 50 + j)
theorem lst_len (m i : Nat) : (lst m i).length = 8 - m + i := by simp [lst]
theorem lst_succ (m i : Nat) : lst m i ++ [50 + i] = lst m (i + 1) := by unfold lst; rw [List.range_succ (n := i), List.map_append, ← List.append_assoc]; rfl
set_option maxRecDepth 20000 in
set_option maxHeartbeats 4000000 in
theorem walk (nn cls : Int) (w : World) : Calls Try.prog 4 #[.int .i64 nn, .int .i64 cls] w fun e w' => e = .returned (.bool true) ∧ Kept [] w w' := by
  obtain ⟨k, hk4, hx⟩ := mod_small cls 4 (by decide) (by decide)
  obtain ⟨q, hq8, hy⟩ := mod_small nn 8 (by decide) (by decide)
  have hk : k < 4 := by omega
  have hq : q < 8 := by omega
  obtain ⟨m, hm⟩ : ∃ m : Nat, m = 1 + q := ⟨_, rfl⟩
  have hm1 : 1 ≤ m := by omega
  have hm8 : m ≤ 8 := by omega
  have hwm : IntKind.i64.wrap (1 + (q : Int)) = (m : Int) := by rw [IntKind.wrap_i64]; omega
  have hwm2 : wrap64 (1 + (q : Int)) = (m : Int) := by rw [IntWalk.wrap64_in _ ⟨by omega, by omega⟩]; omega
  have HK := hide hk
  have HQ := hide hq
  clear hk hq hm
  go_enter Try.func4, Try.ntmps4
  go_wp2_with fail
  refine (CB.new (Kept.refl [] w)).mono ?_
  rintro e w1 ⟨p, rfl, hC⟩
  have C1 := hide hC
  clear hC
  go_wp2_with fail
  refine (caches_true w1).mono ?_
  rintro e w2 ⟨rfl, hk2⟩
  have C2 := hide (show CV w w2 p (up (fun _ => []) k (List.range 0)) (.slice none 0 0) [] from CV.of_cb ((C1.out.next hk2).congr (fun j hj => by unfold up; split <;> rfl)))
  clear hk2 C1
  go_wp2_with fail
  go_loopw [7] (fun v wr => ∃ i : Nat, i ≤ 8 ∧ v = .int .i64 i ∧ CV w wr p (up (fun _ => []) k (List.range i)) (.slice none 0 0) []) (fun v _ => 8 - (intOf v).toNat)
  case atStart => exact ⟨0, by omega, rfl, C2.out⟩
  case round =>
    obtain ⟨i, hi, rfl, hC⟩ := hrel
    have C := hide hC
    clear hC C2
    by_cases hi8 : i < 8
    · have hii : (i : Int) < 8 := by omega
      have hP := C.out.push (k := k) HK.out (by rw [up_at]; simpa using hi8) i
      rw [up_at, up_up, ← List.range_succ] at hP
      have P := hide hP
      clear hP
      go_wp2_with fail
      refine P.out.mono ?_
      rintro e w3 ⟨rfl, hC⟩
      have C3 := hide hC
      clear hC P C
      go_wp2
      go_roundw
      case rel => exact ⟨i + 1, by omega, by go_num, C3.out⟩
      case measure => simp [intOf]; omega
    · have hie : i = 8 := by omega
      subst hie
      have hP := C.out.full (k := k) HK.out (by rw [up_at]; rfl) 99
      have P := hide hP
      clear hP hi hi8
      go_wp2_with fail
      refine P.out.mono ?_
      rintro e w' ⟨rfl, hw⟩
      subst w'
      have hF := C.out.cb.flush (k := k) (n := m) HK.out hm1 (by rw [up_at]; simpa using hm8) (by rw [up_at]; simp)
      rw [up_at, up_up] at hF
      have F := hide hF
      clear hF P C
      go_wp2_with fail
      refine F.out.mono ?_
      rintro e w3 ⟨v, rfl, hC⟩
      have C3 := hide (show CV w w3 p (up (fun _ => []) k (lst m 0)) v ((List.range 8).take m) from by
        have : (List.range 8).drop m = lst m 0 := by simp [lst]
        rw [← this]; exact hC)
      clear hC F
      have hlen : ((List.range 8).take m).length = m := by simp; omega
      obtain ⟨ao, cap, hv, hc⟩ := C3.out.nl.slice
      rw [hlen] at hv hc
      subst hv
      have hL := C3.out.len (k := k) HK.out
      rw [up_at, lst_len] at hL
      have HL := hide hL
      have hw8 : IntKind.i64.wrap (8 - (m : Int)) = ((8 - m + 0 : Nat) : Int) := by rw [IntKind.wrap_i64]; omega
      clear hL hc hlen
      go_wp2_with (go_at_call 12; refine HL.out.mono ?_; rintro e w' ⟨rfl, hw⟩; subst w')
      go_loopw [14] (fun v wr => ∃ i : Nat, i ≤ m ∧ v = .int .i64 i ∧ CV w wr p (up (fun _ => []) k (lst m i)) (.slice ao m cap) ((List.range 8).take m)) (fun v _ => m - (intOf v).toNat)
      case atStart => exact ⟨0, by omega, rfl, C3.out⟩
      case round =>
        obtain ⟨i, hi, rfl, hC⟩ := hrel
        have C := hide hC
        clear hC C3 HL hw8
        by_cases him : i < m
        · have hii : (i : Int) < (m : Int) := by omega
          have hi0 : (0 : Int) ≤ (i : Int) := by omega
          have hP := C.out.push (k := k) HK.out (by rw [up_at, lst_len]; omega) (50 + i)
          rw [up_at, up_up, lst_succ] at hP
          have P := hide hP
          have hw50 : wrap64 (50 + (i : Int)) = ((50 + i : Nat) : Int) := by rw [IntWalk.wrap64_in _ ⟨by omega, by omega⟩]; omega
          have hw51 : IntKind.i64.wrap (50 + (i : Int)) = ((50 + i : Nat) : Int) := by rw [IntKind.wrap_i64]; omega
          clear hP
          go_wp2_with fail
          refine P.out.mono ?_
          rintro e w4 ⟨rfl, hC⟩
          have C4 := hide hC
          clear hC P C
          obtain ⟨ao', cap', hv', hc'⟩ := C4.out.nl.slice
          have hlen : ((List.range 8).take m).length = m := by simp; omega
          rw [hlen] at hv' hc'
          cases hv'
          obtain ⟨b, hao, hcb⟩ := hc' i him
          subst hao
          have hget : ((List.range 8).take m).getD i 0 = i := by
            rw [List.getD_eq_getElem?_getD, List.getElem?_take, if_pos him, List.getElem?_range (by omega)]
            rfl
          rw [hget] at hcb
          have hcb2 : w4.cell? ⟨b, i, none⟩ = some (.int .i64 (i : Nat)) := hcb
          clear hc' hcb hlen hget
          go_wp2
          go_roundw
          case rel => exact ⟨i + 1, by omega, by go_num, C4.out⟩
          case measure => simp [intOf]; omega
        · have hie : i = m := by omega
          subst hie
          have hl8 : (lst i i).length = 7 + 1 := by rw [lst_len]; omega
          have hP := C.out.pop (k := k) (n := 7) HK.out (by rw [up_at]; exact hl8) (by decide)
          rw [up_at, up_up] at hP
          have hget : (lst i i).getD 7 0 = 50 + i - 1 := by
            unfold lst
            rw [List.getD_eq_getElem?_getD, List.getElem?_append_right (by simp; omega)]
            simp
            rw [List.getElem?_range (by omega)]
            simp; omega
          rw [hget] at hP
          have P := hide hP
          clear hP hget hi him
          go_wp2_with fail
          refine P.out.mono ?_
          rintro e w4 ⟨rfl, hC⟩
          have C4 := hide hC
          have hL := hC.len (k := k) HK.out
          rw [up_at, show ((lst i i).take 7).length = 7 by rw [List.length_take, hl8]; rfl] at hL
          have HL := hide hL
          clear hC P C hL hl8
          have hw50 : IntKind.i64.wrap (50 + (i : Int)) = 50 + (i : Int) := by rw [IntKind.wrap_i64]; omega
          have hw51 : IntKind.i64.wrap (50 + (i : Int) - 1) = ((50 + i - 1 : Nat) : Int) := by rw [IntKind.wrap_i64]; omega
          go_wp2_with (go_at_call 12; refine HL.out.mono ?_; rintro e w' ⟨rfl, hw⟩; subst w')
          go_ret
          exact ⟨by simp, C4.out.kept⟩

theorem own : ownKnob Try.prog.godebug = none := by kernel_rfl
theorem laidOut : laidOutB Try.prog = true := by kernel_rfl

set_option maxRecDepth 100000 in
theorem lifted (os : Os) (started : os.Started) (H : Type) (enc : TypeId × Value → H) :
    ReturnsInHanded {} Try.checked os 4 .any (Rows.cacheHalfSpec.pre6 enc Try.prog Try.f4 Rows.cacheHalfRow.domain false) (Rows.cacheHalfSpec.post enc Try.prog Try.f4 false true false false) := by
  refine returnsInHanded_of_change (C := Try.checked) own started (by kernel_rfl) Try.func4
    (ChangeSpec.witness6 (enc := enc) (C := Try.checked) false ⟨#[], #[.int .i64 0, .int .i64 0], []⟩ 8 (by kernel_rfl) (by kernel_rfl) (by kernel_rfl) (by kernel_rfl)) ?_
  intro W base args ds gs before hval0 hW hcnd _
  have hval : ∀ (j : Nat) t v, Try.f4.params[j]? = some t → args[j]? = some v → Value.okWide Try.prog W .any base t v := hval0
  have hW' := hW
  obtain ⟨p, q, hA0, hV, rfl, hfz, hnd⟩ := hW
  have hA : DataW.TrodAll enc Try.prog W 0 (fun _ => true) true Try.f4.params.toList args.toList ds p := hA0
  have hK := hA
  rw [Try.params4] at hA hval
  obtain ⟨v0, vs0, d0, ds0, p0, q0, hargs, rfl, rfl, h0, r0⟩ := trodAll_cons hA
  obtain ⟨v1, vs1, d1, ds1, p1, q1, rfl, rfl, rfl, h1, r1⟩ := trodAll_cons r0
  obtain ⟨rfl, rfl, rfl⟩ := trodAll_nil r1
  obtain rfl : args = #[v0, v1] := by cases args; simp_all
  obtain ⟨rfl, rfl⟩ := trodVars_none hV
  obtain ⟨n, rfl, rfl, rfl, w0⟩ := open_int Try.underlying3 (hval 0 3 v0 rfl rfl) h0
  obtain ⟨c, rfl, rfl, rfl, w1⟩ := open_int Try.underlying3 (hval 1 3 v1 rfl rfl) h1
  clear hA0 hval0
  refine (walk n c W).mono fun e W' ⟨he, hk⟩ => ?_
  subst he
  exact ⟨_, rfl, _, _, _, [], _, [], hW', trodAll_mk1 (shut_bool Try.underlying4 _), trodAll_below laidOut hk.below _ _ _ _ hK (by kernel_rfl), rfl, hk.below.frame _, fun h => by cases h⟩

theorem said : Rows.CacheHalfSaid :=
  OpenClaim.holds_of_wide 4 Try.f4 rfl rfl rfl rfl rfl rfl rfl ⟨rfl, rfl, rfl, rfl, rfl⟩ rfl rfl rfl rfl rfl (by kernel_rfl) Try.func4 (by kernel_rfl)
    (of_decide_eq_true (by kernel_rfl)) (by unfold Func.isWrapper; first | (rw [if_pos (by decide +kernel)]; kernel_rfl) | (rw [if_neg (by decide +kernel)]; exact ⟨rfl, rfl⟩))
    (fun os started H enc _ => lifted os started H enc)
end Go.Proofs.Ytbejafjpdplofac.LH
