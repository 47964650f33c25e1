/-
  ClassRows answers true at every number: of all classes size, order and count are told, or that there is no such one. The table of package class that the row lists is as its own text lays it (the card ties it to it); the card speaks of the pruned copy of the project that the seat holds.
-/
import Derived.Test.YtlmmnkkbgieihaaDoorCls2
import Derived.Test.YtlmmnkkbgieihaaDoorTabs
import Derived.Test.YtlmmnkkbgieihaaDoorCards
import Derived.Test.YtlmmnkkbgieihaaDoorTie
import Derived.Deep.DeepHandedRow
import Derived.Lay
namespace Go.Proofs.YtlmmnkkbgieihaaDoor.lrows
open Go.ChangeShapes Go.WideShapes Go.ChangeAt Go.RowKit Cl
theorem eq1 (d : Nat) (a b : Int) (w : World) : (Op.equalIn (d + 1) 3 (.int .i64 a) (.int .i64 b)).run Tryd.prog w = .ok (a == b) w := by
  simp only [Op.equalIn, Sem.run_bind, run_underlying Tryd.underlying3, Result.andThen_ok]
  simp
theorem eqr' (d : Nat) (a b c : Int) (w : World) : (Op.equalIn (d + 2) 28 (.agg #[.int .i64 a, .int .i64 b, .int .i64 c]) (.agg #[.int .i64 a, .int .i64 b, .int .i64 c])).run Tryd.prog w = .ok true w := by
  rw [Op.equalIn]
  simp only [Sem.run_bind, run_underlying Tryd.underlying28, Result.andThen_ok]
  have h0 : ∀ (x y z : Value) (w : World), (part 3 #[x, y, z] 0).run Tryd.prog w = .ok x w := fun x y z w => by simp [part, Tryd.isAgg3]
  have h1 : ∀ (x y z : Value) (w : World), (part 3 #[x, y, z] 1).run Tryd.prog w = .ok y w := fun x y z w => by simp [part, Tryd.isAgg3]
  have h2 : ∀ (x y z : Value) (w : World), (part 3 #[x, y, z] 2).run Tryd.prog w = .ok z w := fun x y z w => by simp [part, Tryd.isAgg3]
  simp only [Tryd.sizeOf3, Result.andThen_ok]
  rw [Std.Legacy.Range.forIn_eq_forIn_range']
  simp [List.range', h0, h1, h2, eq1]
theorem eqr (a b c : Int) (w : World) : (Op.equalIn 10000 28 (.agg #[.int .i64 a, .int .i64 b, .int .i64 c]) (.agg #[.int .i64 a, .int .i64 b, .int .i64 c])).run Tryd.prog w = .ok true w := eqr' 9998 a b c w
set_option maxHeartbeats 2000000 in
theorem walk (c : Int) {w : World} (hT : Tab w) : Calls Tryd.prog 4 #[.int .i64 c] w fun e w' => e = .returned (.bool true) ∧ Kept [] w w' := by
  have T := hide hT
  clear hT
  go_enter Tryd.func4, Tryd.ntmps4
  go_wp2_with fail
  refine (size_any c T.out).mono ?_
  rintro e w1 ⟨rfl, hk1⟩
  have K1 := hide hk1
  have T1 := hide (T.out.kept0 hk1)
  clear hk1 T
  go_wp2_with fail
  refine (order_any c T1.out).mono ?_
  rintro e w2 ⟨rfl, hk2⟩
  have K2 := hide (K1.out.next hk2)
  have T2 := hide (T1.out.kept0 hk2)
  clear hk2 T1 K1
  go_wp2_with fail
  refine (count_any c T2.out).mono ?_
  rintro e w3 ⟨rfl, hk3⟩
  have K3 := hide (K2.out.next hk3)
  have T3 := hide (T2.out.kept0 hk3)
  clear hk3 T2 K2
  go_wp2_with fail
  refine (classes_true T3.out).mono ?_
  rintro e w4 ⟨rfl, hk4⟩
  have K4 := hide (K3.out.next hk4)
  clear hk4 K3 T3
  by_cases h : 0 ≤ c ∧ c < 4
  · have RR := hide (fun w => rrow_at c h w)
    have hcc : c = 0 ∨ c = 1 ∨ c = 2 ∨ c = 3 := by omega
    clear h
    rcases hcc with rfl | rfl | rfl | rfl
    · have e0 : tells 0 0 = 8 := by decide
      have e1 : tells 0 1 = 0 := by decide
      have e2 : tells 0 2 = 8 := by decide
      have e3 : tellsE 0 = 0 := by decide
      rw [e0, e1, e2, e3]
      rw [e0, e1, e2] at RR
      clear e0 e1 e2 e3
      have hq := fun w => eqr 8 0 8 w
      go_wp2_with (first | (go_at_call 13; refine (RR.out _).mono ?_; rintro e w5 ⟨rfl, hk5⟩; have K5 := hide (K4.out.next hk5); clear hk5))
      go_ret
      exact ⟨rfl, K5.out⟩
    · have e0 : tells 1 0 = 16 := by decide
      have e1 : tells 1 1 = 0 := by decide
      have e2 : tells 1 2 = 4 := by decide
      have e3 : tellsE 1 = 0 := by decide
      rw [e0, e1, e2, e3]
      rw [e0, e1, e2] at RR
      clear e0 e1 e2 e3
      have hq := fun w => eqr 16 0 4 w
      go_wp2_with (first | (go_at_call 13; refine (RR.out _).mono ?_; rintro e w5 ⟨rfl, hk5⟩; have K5 := hide (K4.out.next hk5); clear hk5))
      go_ret
      exact ⟨rfl, K5.out⟩
    · have e0 : tells 2 0 = 32 := by decide
      have e1 : tells 2 1 = 1 := by decide
      have e2 : tells 2 2 = 4 := by decide
      have e3 : tellsE 2 = 0 := by decide
      rw [e0, e1, e2, e3]
      rw [e0, e1, e2] at RR
      clear e0 e1 e2 e3
      have hq := fun w => eqr 32 1 4 w
      go_wp2_with (first | (go_at_call 13; refine (RR.out _).mono ?_; rintro e w5 ⟨rfl, hk5⟩; have K5 := hide (K4.out.next hk5); clear hk5))
      go_ret
      exact ⟨rfl, K5.out⟩
    · have e0 : tells 3 0 = 64 := by decide
      have e1 : tells 3 1 = 2 := by decide
      have e2 : tells 3 2 = 4 := by decide
      have e3 : tellsE 3 = 0 := by decide
      rw [e0, e1, e2, e3]
      rw [e0, e1, e2] at RR
      clear e0 e1 e2 e3
      have hq := fun w => eqr 64 2 4 w
      go_wp2_with (first | (go_at_call 13; refine (RR.out _).mono ?_; rintro e w5 ⟨rfl, hk5⟩; have K5 := hide (K4.out.next hk5); clear hk5))
      go_ret
      exact ⟨rfl, K5.out⟩
  · have e0 : tells c 0 = 0 := by unfold tells; rw [if_neg h]
    have e1 : tells c 1 = 0 := by unfold tells; rw [if_neg h]
    have e2 : tells c 2 = 0 := by unfold tells; rw [if_neg h]
    have e3 : tellsE c = 1 := by unfold tellsE; rw [if_neg h]
    rw [e0, e1, e2, e3]
    clear e0 e1 e2 e3
    by_cases h0 : c < 0
    · clear h
      go_wp2
      go_ret
      exact ⟨rfl, K4.out⟩
    · have h1 : 3 < c := by omega
      clear h
      go_wp2
      go_ret
      exact ⟨rfl, K4.out⟩

theorem own : ownKnob Tryd.prog.godebug = none := by kernel_rfl
theorem laidOut : laidOutB Tryd.prog = true := by kernel_rfl

set_option maxRecDepth 100000 in
theorem contract (H : Type) (enc : TypeId × Value → H) (W : World) (base : Nat) (args : Array Value) (ds gs : List (DataW H)) (before : List MemPlace)
    (hval : ∀ (j : Nat) t v, Tryd.f4.params[j]? = some t → args[j]? = some v → Value.okWide Tryd.prog W .any base t v)
    (hW : DataW.Whole enc Tryd.prog Tryd.f4.params.toList Rows.classRowsSpec.vars false W args.toList ds gs before) (_hsh : W.ShapedOpen Tryd.prog) (hlaid : laidMetH Tryd.prog Rows.classRowsRow.laid W) :
    Calls Tryd.prog 4 args W fun e W' => ∃ v, e = .returned v ∧ Rows.classRowsSpec.post enc Tryd.prog Tryd.f4 false true false false W args v W' := by
  have hW' := hW
  obtain ⟨p, q, hA0, hV, rfl, hfz, hnd⟩ := hW
  have hA : DataW.TrodAll enc Tryd.prog W 0 (fun _ => true) true Tryd.f4.params.toList args.toList ds p := hA0
  have hK := hA
  rw [Tryd.params4] at hA hval
  obtain ⟨v0, vs0, d0, ds0, p0, q0, hargs, rfl, rfl, h0, r0⟩ := trodAll_cons hA
  obtain ⟨rfl, rfl, rfl⟩ := trodAll_nil r0
  obtain rfl : args = #[v0] := by cases args; simp_all
  obtain ⟨rfl, rfl⟩ := trodVars_none hV
  obtain ⟨x, rfl, rfl, rfl, w0⟩ := open_int Tryd.underlying3 (hval 0 3 v0 rfl rfl) h0
  have hTab : Cl.Tab W := Cl.tab_of_laid hlaid
  clear hA0
  refine (walk x hTab).mono fun e W' ⟨he, hk⟩ => ?_
  subst he
  exact ⟨_, rfl, _, _, _, [], _, [], hW', trodAll_mk1 (shut_bool Tryd.underlying4 _), trodAll_below laidOut hk.below _ _ _ _ hK (by kernel_rfl), rfl, hk.below.frame _, fun h => by cases h⟩

set_option maxRecDepth 100000 in
theorem laid_met (os : Os) : laidMet Tryd.prog Rows.classRowsRow.laid ((World.laidAll Tryd.prog os Rows.classRowsRow.laid).forCall (fun _ _ => 0) ⟨#[], #[.int .i64 0], []⟩).memory :=
  laidMet_laidAll _ (by kernel_rfl) (by kernel_rfl)
set_option maxRecDepth 100000 in
theorem reads (os : Os) {H : Type} (enc : TypeId × Value → H) : ∃ places, DataW.whole enc Tryd.prog ((World.laidAll Tryd.prog os Rows.classRowsRow.laid).forCall (fun _ _ => 0) ⟨#[], #[.int .i64 0], []⟩).memory Tryd.f4.params.toList Rows.classRowsSpec.vars false (#[.int .i64 0] : Array Value).toList 8 = some ([.lit (.int .i64 0)], [], places) :=
  ⟨[], by kernel_rfl⟩

set_option maxRecDepth 100000 in
theorem lifted (os : Os) (started : os.Started) (H : Type) (enc : TypeId × Value → H) (F : Stop.Interp) :
    ReturnsInHanded {} Tryd.checked os 4 .any ((OpenSpec.ofChange Rows.classRowsSpec).preRow enc Tryd.prog Tryd.f4 Rows.classRowsRow.domain false Rows.classRowsRow.laid) (((OpenSpec.ofChange Rows.classRowsSpec).at F).post enc Tryd.prog Tryd.f4 false true false false) := by
  obtain ⟨places, hx⟩ := reads os enc
  refine returnsInHanded_of_row (C := Tryd.checked) (s := OpenSpec.ofChange Rows.classRowsSpec) own started (by kernel_rfl) Tryd.func4
    (witness_row_at (enc := enc) (C := Tryd.checked) false (World.laidAll Tryd.prog os Rows.classRowsRow.laid) #[.int .i64 0] (World.laidAll_os _ _ _) (by kernel_rfl) (by kernel_rfl) (by kernel_rfl)
      (OpenSpec.preRow_of_cond 8 hx (by kernel_rfl) (fun k hk => by cases hk) (by kernel_rfl) (laid_met os))) ?_
  intro W base args ds gs before hval hW _ _ _ hlaid hsh _
  exact contract H enc W base args ds gs before hval hW hsh hlaid

theorem said : Rows.ClassRowsSaid :=
  OpenClaim.holds_of_cond 4 Tryd.f4 rfl rfl rfl rfl rfl rfl rfl ⟨rfl, rfl, rfl, rfl, rfl⟩ rfl rfl rfl rfl rfl (by kernel_rfl) Tryd.func4 (by kernel_rfl)
    (of_decide_eq_true (by kernel_rfl)) (by unfold Func.isWrapper; first | (rw [if_pos (by decide +kernel)]; kernel_rfl) | (rw [if_neg (by decide +kernel)]; exact ⟨rfl, rfl⟩))
    (fun os started H enc _ F => by rw [OpenClaim.pre_eq_preRow]; exact lifted os started H enc F)

theorem plain (f : FuncId) (fn : Func) (hf : Tryd.pinned.checked.prog.funcNamed Tryd.f4.name = some f) (hfn : Tryd.pinned.checked.prog.funcs[f]? = some fn) :
    false = Tryd.pinned.checked.prog.looks [] ∧ ∀ (j : Nat) t, fn.params[j]? = some t → Tryd.pinned.checked.prog.wantsStandIn t = false := by
  obtain rfl : f = 4 := Option.some.inj ((show Tryd.prog.funcNamed Tryd.f4.name = some 4 by kernel_rfl).symm.trans hf) |>.symm
  obtain rfl : fn = Tryd.f4 := (Option.some.inj (Tryd.func4.symm.trans hfn)).symm
  refine ⟨by kernel_rfl, fun j t ht => ?_⟩
  rw [Tryd.params4] at ht
  have hm : t = 3 := by have h9 := Array.mem_of_getElem? ht; simp at h9; first | exact h9 | (rcases h9 with h | h | h <;> simp [h])
  rcases hm with rfl
  · exact (show Tryd.prog.wantsStandIn 3 = false by kernel_rfl)

theorem card : Rows.ClassRowsCardSaid :=
  Claim7.holds_tied_plain_at .later [] _ _ _ _ said (fun _ h => by cases h) (by kernel_rfl) (fun _ h => by cases h) classRows_row_tie rfl ⟨rfl, rfl⟩ (by kernel_rfl) rfl plain (by kernel_rfl)
end Go.Proofs.YtlmmnkkbgieihaaDoor.lrows
