/-
  ClassTells answers true at every number: of all sizes the class and the pages are told, or that there is none. The table of package class that the row lists is as its own text lays it (the card ties it to it); the card speaks of the pruned copy of the project that the seat holds.
-/
import Derived.Test.YtlmmnkkbgieihaaDoorCls2
import Derived.Test.YtlmmnkkbgieihaaDoorTabs
import Derived.Test.YtlmmnkkbgieihaaDoorCards
import Derived.Test.YtlmmnkkbgieihaaDoorTie
import Derived.Deep.DeepHandedRow
import Derived.Lay
namespace Go.Proofs.YtlmmnkkbgieihaaDoor.tells
open Go.ChangeShapes Go.WideShapes Go.ChangeAt Go.RowKit Cl
set_option maxHeartbeats 2000000 in
theorem walk (n : Int) {w : World} (hT : Tab w) : Calls Tryd.prog 3 #[.int .i64 n] w fun e w' => e = .returned (.bool true) ∧ Kept [] w w' := by
  have T := hide hT
  clear hT
  go_enter Tryd.func3, Tryd.ntmps3
  go_wp2_with fail
  refine (of_any n T.out).mono ?_
  rintro e w1 ⟨rfl, hk1⟩
  have K1 := hide hk1
  have T1 := hide (T.out.kept0 hk1)
  clear hk1 T
  go_wp2_with fail
  refine (pages_any n w1).mono ?_
  rintro e w2 ⟨rfl, hw⟩
  subst w2
  go_wp2_with fail
  refine (classes_true T1.out).mono ?_
  rintro e w3 ⟨rfl, hk3⟩
  have K3 := hide (K1.out.next hk3)
  clear hk3 K1 T1
  by_cases h0 : n < 1
  · have e1 : ofC n = 0 := by unfold ofC; rw [if_pos (by omega)]
    have e2 : ofE n = 8 := by unfold ofE; rw [if_neg (by omega)]
    have e3 : pg n = 0 := by unfold pg; rw [if_neg (by omega)]
    have e4 : pgE n = 8 := by unfold pgE; rw [if_neg (by omega)]
    rw [e1, e2, e3, e4]
    clear e1 e2 e3 e4
    go_wp2
    go_ret
    exact ⟨rfl, K3.out⟩
  · by_cases h1 : n ≤ 64
    · have e2 : ofE n = 0 := by unfold ofE; rw [if_pos (by omega)]
      have e3 : pg n = (n + 63) / 64 := by unfold pg; rw [if_pos (by omega)]
      have e4 : pgE n = 0 := by unfold pgE; rw [if_pos (by omega)]
      rw [e2, e3, e4]
      have RC := hide (fun w => rclass_ok n ⟨by omega, h1⟩ w)
      generalize ofC n = c at *
      have hp : ∃ p : Int, (n + 63) / 64 = p ∧ n ≤ 64 * p ∧ 64 * (p - 1) < n ∧ 0 < p ∧ p ≤ 16 := ⟨(n + 63) / 64, rfl, by omega, by omega, by omega, by omega⟩
      obtain ⟨p, ep, p1, p2, p3, p4⟩ := hp
      rw [ep]
      have hn1 : 1 ≤ n := by omega
      have hn2 : n ≤ 1024 := by omega
      clear e2 e3 e4 ep h0
      go_wp2_with (first | (go_at_call 9; refine (RC.out _).mono ?_; rintro e w4 ⟨rfl, hw⟩; subst w4))
      go_ret
      exact ⟨rfl, K3.out⟩
    · have e1 : (if 1 ≤ n ∧ n ≤ 64 then (0 : Int) else 8) = 8 := by rw [if_neg (by omega)]
      have e2 : ofE n = 8 := e1
      rw [e2]
      by_cases h2 : n ≤ 1024
      · have e3 : pg n = (n + 63) / 64 := by unfold pg; rw [if_pos (by omega)]
        have e4 : pgE n = 0 := by unfold pgE; rw [if_pos (by omega)]
        have e5 : ofC n = 0 := by unfold ofC; (repeat rw [if_neg (by omega)])
        rw [e3, e4, e5]
        have hp : ∃ p : Int, (n + 63) / 64 = p ∧ n ≤ 64 * p ∧ 64 * (p - 1) < n ∧ 0 < p ∧ p ≤ 16 := ⟨(n + 63) / 64, rfl, by omega, by omega, by omega, by omega⟩
        obtain ⟨p, ep, p1, p2, p3, p4⟩ := hp
        rw [ep]
        have hn1 : 1 ≤ n := by omega
        have hn2 : n ≤ 1024 := by omega
        clear e1 e2 e3 e4 e5 ep h0
        go_wp2
        go_ret
        exact ⟨rfl, K3.out⟩
      · have e3 : pg n = 0 := by unfold pg; rw [if_neg (by omega)]
        have e4 : pgE n = 8 := by unfold pgE; rw [if_neg (by omega)]
        have e5 : ofC n = 0 := by unfold ofC; (repeat rw [if_neg (by omega)])
        rw [e3, e4, e5]
        clear e1 e2 e3 e4 e5
        have hn1 : 1 ≤ n := by omega
        go_wp2
        go_ret
        exact ⟨rfl, K3.out⟩

theorem own : ownKnob Tryd.prog.godebug = none := by kernel_rfl
theorem laidOut : laidOutB Tryd.prog = true := by kernel_rfl

set_option maxRecDepth 100000 in
theorem contract (H : Type) (enc : TypeId × Value → H) (W : World) (base : Nat) (args : Array Value) (ds gs : List (DataW H)) (before : List MemPlace)
    (hval : ∀ (j : Nat) t v, Tryd.f3.params[j]? = some t → args[j]? = some v → Value.okWide Tryd.prog W .any base t v)
    (hW : DataW.Whole enc Tryd.prog Tryd.f3.params.toList Rows.classTellsSpec.vars false W args.toList ds gs before) (_hsh : W.ShapedOpen Tryd.prog) (hlaid : laidMetH Tryd.prog Rows.classTellsRow.laid W) :
    Calls Tryd.prog 3 args W fun e W' => ∃ v, e = .returned v ∧ Rows.classTellsSpec.post enc Tryd.prog Tryd.f3 false true false false W args v W' := by
  have hW' := hW
  obtain ⟨p, q, hA0, hV, rfl, hfz, hnd⟩ := hW
  have hA : DataW.TrodAll enc Tryd.prog W 0 (fun _ => true) true Tryd.f3.params.toList args.toList ds p := hA0
  have hK := hA
  rw [Tryd.params3] at hA hval
  obtain ⟨v0, vs0, d0, ds0, p0, q0, hargs, rfl, rfl, h0, r0⟩ := trodAll_cons hA
  obtain ⟨rfl, rfl, rfl⟩ := trodAll_nil r0
  obtain rfl : args = #[v0] := by cases args; simp_all
  obtain ⟨rfl, rfl⟩ := trodVars_none hV
  obtain ⟨x, rfl, rfl, rfl, w0⟩ := open_int Tryd.underlying3 (hval 0 3 v0 rfl rfl) h0
  have hTab : Cl.Tab W := Cl.tab_of_laid hlaid
  clear hA0
  refine (walk x hTab).mono fun e W' ⟨he, hk⟩ => ?_
  subst he
  exact ⟨_, rfl, _, _, _, [], _, [], hW', trodAll_mk1 (shut_bool Tryd.underlying4 _), trodAll_below laidOut hk.below _ _ _ _ hK (by kernel_rfl), rfl, hk.below.frame _, fun h => by cases h⟩

set_option maxRecDepth 100000 in
theorem laid_met (os : Os) : laidMet Tryd.prog Rows.classTellsRow.laid ((World.laidAll Tryd.prog os Rows.classTellsRow.laid).forCall (fun _ _ => 0) ⟨#[], #[.int .i64 0], []⟩).memory :=
  laidMet_laidAll _ (by kernel_rfl) (by kernel_rfl)
set_option maxRecDepth 100000 in
theorem reads (os : Os) {H : Type} (enc : TypeId × Value → H) : ∃ places, DataW.whole enc Tryd.prog ((World.laidAll Tryd.prog os Rows.classTellsRow.laid).forCall (fun _ _ => 0) ⟨#[], #[.int .i64 0], []⟩).memory Tryd.f3.params.toList Rows.classTellsSpec.vars false (#[.int .i64 0] : Array Value).toList 8 = some ([.lit (.int .i64 0)], [], places) :=
  ⟨[], by kernel_rfl⟩

set_option maxRecDepth 100000 in
theorem lifted (os : Os) (started : os.Started) (H : Type) (enc : TypeId × Value → H) (F : Stop.Interp) :
    ReturnsInHanded {} Tryd.checked os 3 .any ((OpenSpec.ofChange Rows.classTellsSpec).preRow enc Tryd.prog Tryd.f3 Rows.classTellsRow.domain false Rows.classTellsRow.laid) (((OpenSpec.ofChange Rows.classTellsSpec).at F).post enc Tryd.prog Tryd.f3 false true false false) := by
  obtain ⟨places, hx⟩ := reads os enc
  refine returnsInHanded_of_row (C := Tryd.checked) (s := OpenSpec.ofChange Rows.classTellsSpec) own started (by kernel_rfl) Tryd.func3
    (witness_row_at (enc := enc) (C := Tryd.checked) false (World.laidAll Tryd.prog os Rows.classTellsRow.laid) #[.int .i64 0] (World.laidAll_os _ _ _) (by kernel_rfl) (by kernel_rfl) (by kernel_rfl)
      (OpenSpec.preRow_of_cond 8 hx (by kernel_rfl) (fun k hk => by cases hk) (by kernel_rfl) (laid_met os))) ?_
  intro W base args ds gs before hval hW _ _ _ hlaid hsh _
  exact contract H enc W base args ds gs before hval hW hsh hlaid

theorem said : Rows.ClassTellsSaid :=
  OpenClaim.holds_of_cond 3 Tryd.f3 rfl rfl rfl rfl rfl rfl rfl ⟨rfl, rfl, rfl, rfl, rfl⟩ rfl rfl rfl rfl rfl (by kernel_rfl) Tryd.func3 (by kernel_rfl)
    (of_decide_eq_true (by kernel_rfl)) (by unfold Func.isWrapper; first | (rw [if_pos (by decide +kernel)]; kernel_rfl) | (rw [if_neg (by decide +kernel)]; exact ⟨rfl, rfl⟩))
    (fun os started H enc _ F => by rw [OpenClaim.pre_eq_preRow]; exact lifted os started H enc F)

theorem plain (f : FuncId) (fn : Func) (hf : Tryd.pinned.checked.prog.funcNamed Tryd.f3.name = some f) (hfn : Tryd.pinned.checked.prog.funcs[f]? = some fn) :
    false = Tryd.pinned.checked.prog.looks [] ∧ ∀ (j : Nat) t, fn.params[j]? = some t → Tryd.pinned.checked.prog.wantsStandIn t = false := by
  obtain rfl : f = 3 := Option.some.inj ((show Tryd.prog.funcNamed Tryd.f3.name = some 3 by kernel_rfl).symm.trans hf) |>.symm
  obtain rfl : fn = Tryd.f3 := (Option.some.inj (Tryd.func3.symm.trans hfn)).symm
  refine ⟨by kernel_rfl, fun j t ht => ?_⟩
  rw [Tryd.params3] at ht
  have hm : t = 3 := by have h9 := Array.mem_of_getElem? ht; simp at h9; first | exact h9 | (rcases h9 with h | h | h <;> simp [h])
  rcases hm with rfl
  · exact (show Tryd.prog.wantsStandIn 3 = false by kernel_rfl)

theorem card : Rows.ClassTellsCardSaid :=
  Claim7.holds_tied_plain_at .later [] _ _ _ _ said (fun _ h => by cases h) (by kernel_rfl) (fun _ h => by cases h) classTells_row_tie rfl ⟨rfl, rfl⟩ (by kernel_rfl) rfl plain (by kernel_rfl)
end Go.Proofs.YtlmmnkkbgieihaaDoor.tells
