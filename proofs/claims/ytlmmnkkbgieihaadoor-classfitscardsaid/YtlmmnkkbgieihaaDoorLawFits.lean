/-
  ClassFits answers true at every number: a class has room for every size that is its, and the class ahead has none; a greater size has never fewer pages. The table of package class that the row lists is as its own text lays it (the card ties it to it); the card speaks of the pruned copy of the project that the seat holds.
-/
import Derived.Test.YtlmmnkkbgieihaaDoorCls2
import Derived.Test.YtlmmnkkbgieihaaDoorTabs
import Derived.Test.YtlmmnkkbgieihaaDoorCards
import Derived.Test.YtlmmnkkbgieihaaDoorTie
import Derived.Deep.DeepHandedRow
import Derived.Lay
import Derived.Lib.MinMax
namespace Go.Proofs.YtlmmnkkbgieihaaDoor.fits
open Go.ChangeShapes Go.WideShapes Go.ChangeAt Go.RowKit Cl
theorem page_step (k : Int) (h1 : 1 ≤ k) (h2 : k ≤ 1024) : ∃ q : Int, pg (min (k + 1) 1024) = q ∧ pgE (min (k + 1) 1024) = 0 ∧ pg k ≤ q ∧ q ≤ pg k + 1 ∧ 0 < pg k ∧ pg k ≤ 16 := by
  refine ⟨_, rfl, ?_, ?_, ?_, ?_, ?_⟩ <;> simp only [pg, pgE] <;> (repeat rw [if_pos (by omega)]) <;> omega
set_option maxHeartbeats 2000000 in
theorem walk (x : Int) {w : World} (hT : Tab w) : Calls Tryd.prog 5 #[.int .i64 x] w fun e w' => e = .returned (.bool true) ∧ Kept [] w w' := by
  obtain ⟨r, hr, hxr⟩ := mod_small x 1024 (by decide) (by decide)
  have T := hide hT
  clear hT
  go_enter Tryd.func5, Tryd.ntmps5
  go_wp2_with fail
  clear hxr
  have hkk : ∃ k : Int, 1 + (r : Int) = k ∧ 1 ≤ k ∧ k ≤ 1024 := ⟨1 + r, rfl, by omega, by omega⟩
  obtain ⟨k, ek, k1, k2⟩ := hkk
  rw [ek]
  clear ek hr
  refine (of_any k T.out).mono ?_
  rintro e w1 ⟨rfl, hk1⟩
  have K1 := hide hk1
  have T1 := hide (T.out.kept0 hk1)
  clear hk1 T
  go_wp2_with fail
  refine (pages_any k w1).mono ?_
  rintro e w2 ⟨rfl, hw⟩
  subst w2
  go_wp2_with fail
  refine (pages_any _ w1).mono ?_
  rintro e w2 ⟨rfl, hw⟩
  subst w2
  obtain ⟨q, e1, e2, q1, q2, q3, q4⟩ := page_step k k1 k2
  have e3 : pgE k = 0 := by unfold pgE; rw [if_pos ⟨k1, k2⟩]
  rw [e1, e2, e3]
  generalize pg k = p at *
  clear e1 e2 e3
  go_wp2_with fail
  refine (classes_true T1.out).mono ?_
  rintro e w3 ⟨rfl, hk3⟩
  have K3 := hide (K1.out.next hk3)
  have T3 := hide (T1.out.kept0 hk3)
  clear hk3 K1 T1
  by_cases h64 : k ≤ 64
  · have e1 : ofE k = 0 := by unfold ofE; rw [if_pos ⟨k1, h64⟩]
    rw [e1]
    clear e1
    have hc : ofC k = 0 ∧ k ≤ 8 ∨ ofC k = 1 ∧ 8 < k ∧ k ≤ 16 ∨ ofC k = 2 ∧ 16 < k ∧ k ≤ 32 ∨ ofC k = 3 ∧ 32 < k ∧ k ≤ 64 := by
      unfold ofC
      split
      · left; omega
      · split
        · right; left; omega
        · split
          · right; right; left; omega
          · right; right; right; omega
    rcases hc with ⟨ec, g1⟩ | ⟨ec, g0, g1⟩ | ⟨ec, g0, g1⟩ | ⟨ec, g0, g1⟩
    · rw [ec]
      clear ec
      go_wp2_with fail
      refine (size_any 0 T3.out).mono ?_
      rintro e w4 ⟨rfl, hk4⟩
      have K4 := hide (K3.out.next hk4)
      clear hk4 K3 T3
      have e0 : tells 0 0 = 8 := by decide
      have e3 : tellsE 0 = 0 := by decide
      rw [e0, e3]
      clear e0 e3
      go_wp2
      go_ret
      exact ⟨rfl, K4.out⟩
    · rw [ec]
      clear ec
      go_wp2_with fail
      refine (size_any 1 T3.out).mono ?_
      rintro e w4 ⟨rfl, hk4⟩
      have K4 := hide (K3.out.next hk4)
      have T4 := hide (T3.out.kept0 hk4)
      clear hk4 K3 T3
      have e0 : tells 1 0 = 16 := by decide
      have e3 : tellsE 1 = 0 := by decide
      rw [e0, e3]
      clear e0 e3
      go_wp2_with fail
      refine (size_any 0 T4.out).mono ?_
      rintro e w5 ⟨rfl, hk5⟩
      have K5 := hide (K4.out.next hk5)
      clear hk5 K4 T4
      have e0 : tells 0 0 = 8 := by decide
      have e3 : tellsE 0 = 0 := by decide
      rw [e0, e3]
      clear e0 e3
      go_wp2
      go_ret
      exact ⟨rfl, K5.out⟩
    · rw [ec]
      clear ec
      go_wp2_with fail
      refine (size_any 2 T3.out).mono ?_
      rintro e w4 ⟨rfl, hk4⟩
      have K4 := hide (K3.out.next hk4)
      have T4 := hide (T3.out.kept0 hk4)
      clear hk4 K3 T3
      have e0 : tells 2 0 = 32 := by decide
      have e3 : tellsE 2 = 0 := by decide
      rw [e0, e3]
      clear e0 e3
      go_wp2_with fail
      refine (size_any 1 T4.out).mono ?_
      rintro e w5 ⟨rfl, hk5⟩
      have K5 := hide (K4.out.next hk5)
      clear hk5 K4 T4
      have e0 : tells 1 0 = 16 := by decide
      have e3 : tellsE 1 = 0 := by decide
      rw [e0, e3]
      clear e0 e3
      go_wp2
      go_ret
      exact ⟨rfl, K5.out⟩
    · rw [ec]
      clear ec
      go_wp2_with fail
      refine (size_any 3 T3.out).mono ?_
      rintro e w4 ⟨rfl, hk4⟩
      have K4 := hide (K3.out.next hk4)
      have T4 := hide (T3.out.kept0 hk4)
      clear hk4 K3 T3
      have e0 : tells 3 0 = 64 := by decide
      have e3 : tellsE 3 = 0 := by decide
      rw [e0, e3]
      clear e0 e3
      go_wp2_with fail
      refine (size_any 2 T4.out).mono ?_
      rintro e w5 ⟨rfl, hk5⟩
      have K5 := hide (K4.out.next hk5)
      clear hk5 K4 T4
      have e0 : tells 2 0 = 32 := by decide
      have e3 : tellsE 2 = 0 := by decide
      rw [e0, e3]
      clear e0 e3
      go_wp2
      go_ret
      exact ⟨rfl, K5.out⟩
  · have e1 : ofE k = 8 := by unfold ofE; rw [if_neg (by omega)]
    rw [e1]
    have h64' : 64 < k := by omega
    generalize ofC k = c at *
    clear e1
    go_wp2
    go_ret
    exact ⟨rfl, K3.out⟩

theorem own : ownKnob Tryd.prog.godebug = none := by kernel_rfl
theorem laidOut : laidOutB Tryd.prog = true := by kernel_rfl

set_option maxRecDepth 100000 in
theorem contract (H : Type) (enc : TypeId × Value → H) (W : World) (base : Nat) (args : Array Value) (ds gs : List (DataW H)) (before : List MemPlace)
    (hval : ∀ (j : Nat) t v, Tryd.f5.params[j]? = some t → args[j]? = some v → Value.okWide Tryd.prog W .any base t v)
    (hW : DataW.Whole enc Tryd.prog Tryd.f5.params.toList Rows.classFitsSpec.vars false W args.toList ds gs before) (_hsh : W.ShapedOpen Tryd.prog) (hlaid : laidMetH Tryd.prog Rows.classFitsRow.laid W) :
    Calls Tryd.prog 5 args W fun e W' => ∃ v, e = .returned v ∧ Rows.classFitsSpec.post enc Tryd.prog Tryd.f5 false true false false W args v W' := by
  have hW' := hW
  obtain ⟨p, q, hA0, hV, rfl, hfz, hnd⟩ := hW
  have hA : DataW.TrodAll enc Tryd.prog W 0 (fun _ => true) true Tryd.f5.params.toList args.toList ds p := hA0
  have hK := hA
  rw [Tryd.params5] at hA hval
  obtain ⟨v0, vs0, d0, ds0, p0, q0, hargs, rfl, rfl, h0, r0⟩ := trodAll_cons hA
  obtain ⟨rfl, rfl, rfl⟩ := trodAll_nil r0
  obtain rfl : args = #[v0] := by cases args; simp_all
  obtain ⟨rfl, rfl⟩ := trodVars_none hV
  obtain ⟨x, rfl, rfl, rfl, w0⟩ := open_int Tryd.underlying3 (hval 0 3 v0 rfl rfl) h0
  have hTab : Cl.Tab W := Cl.tab_of_laid hlaid
  clear hA0
  refine (walk x hTab).mono fun e W' ⟨he, hk⟩ => ?_
  subst he
  exact ⟨_, rfl, _, _, _, [], _, [], hW', trodAll_mk1 (shut_bool Tryd.underlying4 _), trodAll_below laidOut hk.below _ _ _ _ hK (by kernel_rfl), rfl, hk.below.frame _, fun h => by cases h⟩

set_option maxRecDepth 100000 in
theorem laid_met (os : Os) : laidMet Tryd.prog Rows.classFitsRow.laid ((World.laidAll Tryd.prog os Rows.classFitsRow.laid).forCall (fun _ _ => 0) ⟨#[], #[.int .i64 0], []⟩).memory :=
  laidMet_laidAll _ (by kernel_rfl) (by kernel_rfl)
set_option maxRecDepth 100000 in
theorem reads (os : Os) {H : Type} (enc : TypeId × Value → H) : ∃ places, DataW.whole enc Tryd.prog ((World.laidAll Tryd.prog os Rows.classFitsRow.laid).forCall (fun _ _ => 0) ⟨#[], #[.int .i64 0], []⟩).memory Tryd.f5.params.toList Rows.classFitsSpec.vars false (#[.int .i64 0] : Array Value).toList 8 = some ([.lit (.int .i64 0)], [], places) :=
  ⟨[], by kernel_rfl⟩

set_option maxRecDepth 100000 in
theorem lifted (os : Os) (started : os.Started) (H : Type) (enc : TypeId × Value → H) (F : Stop.Interp) :
    ReturnsInHanded {} Tryd.checked os 5 .any ((OpenSpec.ofChange Rows.classFitsSpec).preRow enc Tryd.prog Tryd.f5 Rows.classFitsRow.domain false Rows.classFitsRow.laid) (((OpenSpec.ofChange Rows.classFitsSpec).at F).post enc Tryd.prog Tryd.f5 false true false false) := by
  obtain ⟨places, hx⟩ := reads os enc
  refine returnsInHanded_of_row (C := Tryd.checked) (s := OpenSpec.ofChange Rows.classFitsSpec) own started (by kernel_rfl) Tryd.func5
    (witness_row_at (enc := enc) (C := Tryd.checked) false (World.laidAll Tryd.prog os Rows.classFitsRow.laid) #[.int .i64 0] (World.laidAll_os _ _ _) (by kernel_rfl) (by kernel_rfl) (by kernel_rfl)
      (OpenSpec.preRow_of_cond 8 hx (by kernel_rfl) (fun k hk => by cases hk) (by kernel_rfl) (laid_met os))) ?_
  intro W base args ds gs before hval hW _ _ _ hlaid hsh _
  exact contract H enc W base args ds gs before hval hW hsh hlaid

theorem said : Rows.ClassFitsSaid :=
  OpenClaim.holds_of_cond 5 Tryd.f5 rfl rfl rfl rfl rfl rfl rfl ⟨rfl, rfl, rfl, rfl, rfl⟩ rfl rfl rfl rfl rfl (by kernel_rfl) Tryd.func5 (by kernel_rfl)
    (of_decide_eq_true (by kernel_rfl)) (by unfold Func.isWrapper; first | (rw [if_pos (by decide +kernel)]; kernel_rfl) | (rw [if_neg (by decide +kernel)]; exact ⟨rfl, rfl⟩))
    (fun os started H enc _ F => by rw [OpenClaim.pre_eq_preRow]; exact lifted os started H enc F)

theorem plain (f : FuncId) (fn : Func) (hf : Tryd.pinned.checked.prog.funcNamed Tryd.f5.name = some f) (hfn : Tryd.pinned.checked.prog.funcs[f]? = some fn) :
    false = Tryd.pinned.checked.prog.looks [] ∧ ∀ (j : Nat) t, fn.params[j]? = some t → Tryd.pinned.checked.prog.wantsStandIn t = false := by
  obtain rfl : f = 5 := Option.some.inj ((show Tryd.prog.funcNamed Tryd.f5.name = some 5 by kernel_rfl).symm.trans hf) |>.symm
  obtain rfl : fn = Tryd.f5 := (Option.some.inj (Tryd.func5.symm.trans hfn)).symm
  refine ⟨by kernel_rfl, fun j t ht => ?_⟩
  rw [Tryd.params5] at ht
  have hm : t = 3 := by have h9 := Array.mem_of_getElem? ht; simp at h9; first | exact h9 | (rcases h9 with h | h | h <;> simp [h])
  rcases hm with rfl
  · exact (show Tryd.prog.wantsStandIn 3 = false by kernel_rfl)

theorem card : Rows.ClassFitsCardSaid :=
  Claim7.holds_tied_plain_at .later [] _ _ _ _ said (fun _ h => by cases h) (by kernel_rfl) (fun _ h => by cases h) classFits_row_tie rfl ⟨rfl, rfl⟩ (by kernel_rfl) rfl plain (by kernel_rfl)
end Go.Proofs.YtlmmnkkbgieihaaDoor.fits
