/-
  NodesetLists, tied: for every set and every number the law answers true, and its arguments read behind the call as before. The three tables of Go's library that the row lists are as their own text lays them (the given tie).
-/
import Derived.Test.YtjcghcibligioaaDoorParse
import Derived.Test.YtjcghcibligioaaDoorTextRef
import Derived.Test.YtjcghcibligioaaDoorCards
import Derived.Test.YtjcghcibligioaaDoorTie
import Derived.Deep.DeepHandedRow
import Derived.Lay
namespace Go.Proofs.YtjcghcibligioaaDoor.lists
open Go.ChangeShapes Go.WideShapes Go.ChangeAt Go.RowKit ND
theorem or_nodes : ∀ s, s < 256 → orTo (fun i => (nodes s).getD i 0) (nodes s).length = s := by decide +kernel
theorem count_nodes : ∀ s, s < 256 → Lib.onesCount s = (nodes s).length := by decide +kernel
theorem text_short : ∀ s, s < 256 → (textOf s).length ≤ 64 := by decide +kernel
set_option maxRecDepth 100000 in
set_option maxHeartbeats 1000000 in
theorem walk (s : Nat) (n : Int) (hs : s < 256) (m : Int) (w : World) (hm : w.cell? ⟨0, 0, none⟩ = some (.int .i64 m)) :
    Calls Tryd.prog 3 #[.int .u8 s, .int .i64 n] w fun e w' => e = .returned (.bool true) ∧ Kept [] w w' := by
  have HM := hide hm
  have hl0 := pre_le s 8
  obtain ⟨nl, hnl⟩ : ∃ l, l = nodes s := ⟨_, rfl⟩
  have hl8 : nl.length ≤ 8 := by rw [hnl]; exact hl0
  have hwf : ∀ x, x ∈ nl → 0 ≤ x ∧ x < 8 := by
    intro x hx
    rw [hnl] at hx
    have := pre_mem hx
    omega
  have hor : orTo (fun i => nl.getD i 0) nl.length = s := by rw [hnl]; exact or_nodes s hs
  have hcn : Lib.onesCount s = nl.length := by rw [hnl]; exact count_nodes s hs
  obtain ⟨x, b, hx⟩ : ∃ x b, nextOf nl n = (x, b) := ⟨_, _, rfl⟩
  obtain ⟨t, ht⟩ : ∃ t, t = textOf s := ⟨_, rfl⟩
  have htl : t.length ≤ 64 := by rw [ht]; exact text_short s hs
  have hpt : parseOf t = some s := by rw [ht]; exact parse_text s hs
  obtain ⟨h, hh⟩ : ∃ h, h = hasB s n := ⟨_, rfl⟩
  have HL := hide hnl
  have HW := hide hwf
  have HO := hide hor
  have HCN := hide hcn
  have HX := hide hx
  have HT := hide ht
  have HTL := hide htl
  have HPT := hide hpt
  have HH := hide hh
  clear hm hl0 hnl hwf hor hcn hx ht htl hpt hh
  go_enter Tryd.func3, Tryd.ntmps3
  go_wp2_with fail
  refine (ND.list_any s hs _).mono ?_
  rintro e w1 ⟨v1, rfl, I1, k1⟩
  rw [← HL.out] at I1
  obtain ⟨a1, c1, hv1, J1⟩ := I1.isInts (fun x hx => WalkArith.wf_i64 (by have := HW.out x hx; omega))
  subst hv1
  have II := hide J1
  have K1 := hide k1
  clear I1 J1 k1
  go_wp2_with fail
  refine (ND.next_any s n hs _).mono ?_
  rintro e w2 ⟨rfl, k2⟩
  rw [← HL.out, HX.out]
  have K2 := hide (K1.out.next k2)
  have I2 := hide (II.out.kept k2)
  clear k2 K1 II
  go_wp2_with fail
  refine (NR.next_any s n hs _).mono ?_
  rintro e w3 ⟨rfl, k3⟩
  rw [← HL.out, HX.out]
  have K3 := hide (K2.out.next k3)
  have I3 := hide (I2.out.kept k3)
  clear k3 K2 I2
  go_wp2_with fail
  refine (of_ok (by unfold maxLen; omega) (by exact I3.out) (by intro i hi; exact HW.out _ (by show nl.getD i 0 ∈ nl; rw [List.getD_eq_getElem?_getD, List.getElem?_eq_getElem hi]; exact List.getElem_mem hi))).mono ?_
  rintro e w' ⟨rfl, hw⟩
  subst w'
  rw [HO.out]
  go_wp2_with fail
  refine (ND.text_any s hs _).mono ?_
  rintro e w4 ⟨rfl, k4⟩
  rw [← HT.out]
  have K4 := hide (K3.out.next k4)
  have I4 := hide (I3.out.kept k4)
  clear k4 K3 I3
  go_wp2_with fail
  refine (parse_any t (by have := HTL.out; omega) m _ (by exact K4.out.cell HM.out (by simp))).mono ?_
  rintro e w5 ⟨rfl, k5⟩
  rw [HPT.out]
  unfold pAns
  have K5 := hide (K4.out.next k5)
  have I5 := hide (I4.out.kept k5)
  clear k5 K4 I4
  go_wp2_with fail
  refine (sets_true _).mono ?_
  rintro e w6 ⟨rfl, k6⟩
  have K6 := hide (K5.out.next k6)
  have I6 := hide (I5.out.kept k6)
  clear k6 K5 I5
  go_wp2_with fail
  refine (NR.list_any s hs _).mono ?_
  rintro e w7 ⟨v7, rfl, J7, k7⟩
  rw [← HL.out] at J7
  obtain ⟨a7, c7, hv7, J7'⟩ := J7.isInts (fun x hx => WalkArith.wf_i64 (by have := HW.out x hx; omega))
  subst hv7
  have JJ := hide J7'
  have K7 := hide (K6.out.next k7)
  have I7 := hide (I6.out.kept k7)
  clear k7 K6 I6 J7 J7'
  go_wp2_with fail
  refine (NR.same_true (by unfold maxLen; omega) (by exact I7.out) (by exact JJ.out)).mono ?_
  rintro e w10 ⟨rfl, k10⟩
  have K10 := hide (K7.out.next k10)
  clear I7 JJ k10 K7
  go_wp2_with fail
  refine (count_any s hs _).mono ?_
  rintro e w' ⟨rfl, hw⟩
  subst w'
  rw [HCN.out]
  go_wp2_with fail
  refine (ND.has_any s n hs _).mono ?_
  rintro e w' ⟨rfl, hw⟩
  subst w'
  rw [← HH.out]
  go_wp2_with fail
  refine (NR.has_any s n hs _).mono ?_
  rintro e w' ⟨rfl, hw⟩
  subst w'
  rw [← HH.out]
  go_wp2_with fail
  refine (ND.text_any s hs _).mono ?_
  rintro e w8 ⟨rfl, k8⟩
  rw [← HT.out]
  have K8 := hide (K10.out.next k8)
  clear k8 K10
  go_wp2_with fail
  refine (NR.text_any s hs _).mono ?_
  rintro e w9 ⟨rfl, k9⟩
  rw [← HT.out]
  have K9 := hide (K8.out.next k9)
  clear k9 K8
  clear HL HW HO HCN HX HT HTL HPT HH HM
  go_wp2
  go_ret
  exact ⟨rfl, K9.out⟩
theorem byte_nat {x : Int} (h : (Lit.int .u8 x).wf = true) : ∃ n : Nat, x = (n : Int) ∧ n < 256 := by
  have h2 := bounds_u8 h
  obtain ⟨n, rfl⟩ := Int.eq_ofNat_of_zero_le h2.1
  exact ⟨n, rfl, by omega⟩

theorem own : ownKnob Tryd.prog.godebug = none := by kernel_rfl
theorem laidOut : laidOutB Tryd.prog = true := by kernel_rfl

theorem contract (H : Type) (enc : TypeId × Value → H) (W : World) (base : Nat) (args : Array Value) (ds gs : List (DataW H)) (before : List MemPlace)
    (hval : ∀ (j : Nat) t v, Tryd.f3.params[j]? = some t → args[j]? = some v → Value.okWide Tryd.prog W .any base t v)
    (hW : DataW.Whole enc Tryd.prog Tryd.f3.params.toList Rows.nodesetListsSpec.vars false W args.toList ds gs before) (_hsh : W.ShapedOpen Tryd.prog) :
    Calls Tryd.prog 3 args W fun e W' => ∃ v, e = .returned v ∧ Rows.nodesetListsSpec.post enc Tryd.prog Tryd.f3 false true false false W args v W' := by
  have hW' := hW
  obtain ⟨p, q, hA0, hV, rfl, hfz, hnd⟩ := hW
  have hA : DataW.TrodAll enc Tryd.prog W 0 (fun _ => true) true Tryd.f3.params.toList args.toList ds p := hA0
  have hK := hA
  rw [Tryd.params3] at hA hval
  obtain ⟨v0, vs0, d0, ds0, p0, q0, hargs, rfl, rfl, h0, r0⟩ := trodAll_cons hA
  obtain ⟨v1, vs1, d1, ds1, p1, q1, rfl, rfl, rfl, h1, r1⟩ := trodAll_cons r0
  obtain ⟨rfl, rfl, rfl⟩ := trodAll_nil r1
  obtain rfl : args = #[v0, v1] := by cases args; simp_all
  obtain ⟨rfl, rfl⟩ := trodVars_none hV
  obtain ⟨s, rfl, rfl, rfl, w0⟩ := open_int Tryd.underlying5 (hval 0 5 v0 rfl rfl) h0
  obtain ⟨n, rfl, rfl, rfl, w1⟩ := open_int Tryd.underlying3 (hval 1 3 v1 rfl rfl) h1
  obtain ⟨s, rfl, hs⟩ := byte_nat w0
  obtain ⟨m, hm⟩ := Tryd.laysM145.s1_3 W _hsh
  clear hA0
  refine (walk s n hs m W hm).mono fun e W' ⟨he, hk⟩ => ?_
  subst he
  exact ⟨_, rfl, _, _, _, [], _, [], hW', trodAll_mk1 (shut_bool Tryd.underlying4 _), trodAll_below laidOut hk.below _ _ _ _ hK (by kernel_rfl), rfl, hk.below.frame _, fun h => by cases h⟩

theorem laid_met (os : Os) : laidMet Tryd.prog Rows.nodesetListsRow.laid ((World.laidAll Tryd.prog os Rows.nodesetListsRow.laid).forCall (fun _ _ => 0) ⟨#[], #[.int .u8 0, .int .i64 0], []⟩).memory :=
  laidMet_laidAll _ (by kernel_rfl) (by kernel_rfl)
theorem reads (os : Os) {H : Type} (enc : TypeId × Value → H) : ∃ places, DataW.whole enc Tryd.prog ((World.laidAll Tryd.prog os Rows.nodesetListsRow.laid).forCall (fun _ _ => 0) ⟨#[], #[.int .u8 0, .int .i64 0], []⟩).memory Tryd.f3.params.toList Rows.nodesetListsSpec.vars false (#[.int .u8 0, .int .i64 0] : Array Value).toList 8 = some ([.lit (.int .u8 0), .lit (.int .i64 0)], [], places) :=
  ⟨[], by kernel_rfl⟩

set_option maxRecDepth 100000 in
theorem lifted (os : Os) (started : os.Started) (H : Type) (enc : TypeId × Value → H) (F : Stop.Interp) :
    ReturnsInHanded {} Tryd.checked os 3 .any ((OpenSpec.ofChange Rows.nodesetListsSpec).preRow enc Tryd.prog Tryd.f3 Rows.nodesetListsRow.domain false Rows.nodesetListsRow.laid) (((OpenSpec.ofChange Rows.nodesetListsSpec).at F).post enc Tryd.prog Tryd.f3 false true false false) := by
  obtain ⟨places, hx⟩ := reads os enc
  refine returnsInHanded_of_row (C := Tryd.checked) (s := OpenSpec.ofChange Rows.nodesetListsSpec) own started (by kernel_rfl) Tryd.func3
    (witness_row_at (enc := enc) (C := Tryd.checked) false (World.laidAll Tryd.prog os Rows.nodesetListsRow.laid) #[.int .u8 0, .int .i64 0] (World.laidAll_os _ _ _) (by kernel_rfl) (by kernel_rfl) (by kernel_rfl)
      (OpenSpec.preRow_of_cond 8 hx (by kernel_rfl) (fun k hk => by cases hk) (by kernel_rfl) (laid_met os))) ?_
  intro W base args ds gs before hval hW _ _ _ _ hsh _
  exact contract H enc W base args ds gs before hval hW hsh

theorem said : Rows.NodesetListsSaid :=
  OpenClaim.holds_of_cond 3 Tryd.f3 rfl rfl rfl rfl rfl rfl rfl ⟨rfl, rfl, rfl, rfl, rfl⟩ rfl rfl rfl rfl rfl (by kernel_rfl) Tryd.func3 (by kernel_rfl)
    (of_decide_eq_true (by kernel_rfl)) (by unfold Func.isWrapper; first | (rw [if_pos (by decide +kernel)]; kernel_rfl) | (rw [if_neg (by decide +kernel)]; exact ⟨rfl, rfl⟩))
    (fun os started H enc _ F => by rw [OpenClaim.pre_eq_preRow]; exact lifted os started H enc F)

theorem plain (f : FuncId) (fn : Func) (hf : Tryd.pinned.checked.prog.funcNamed Tryd.f3.name = some f) (hfn : Tryd.pinned.checked.prog.funcs[f]? = some fn) :
    false = Tryd.pinned.checked.prog.looks [] ∧ ∀ (j : Nat) t, fn.params[j]? = some t → Tryd.pinned.checked.prog.wantsStandIn t = false := by
  obtain rfl : f = 3 := Option.some.inj ((show Tryd.prog.funcNamed Tryd.f3.name = some 3 by kernel_rfl).symm.trans hf) |>.symm
  obtain rfl : fn = Tryd.f3 := (Option.some.inj (Tryd.func3.symm.trans hfn)).symm
  refine ⟨by kernel_rfl, fun j t ht => ?_⟩
  rw [Tryd.params3] at ht
  have hm : t = 5 ∨ t = 3 := by simpa using Array.mem_of_getElem? ht
  rcases hm with rfl | rfl
  · exact (show Tryd.prog.wantsStandIn 5 = false by kernel_rfl)
  · exact (show Tryd.prog.wantsStandIn 3 = false by kernel_rfl)

theorem card : Rows.NodesetListsCardSaid :=
  Claim7.holds_tied_plain_at .later [] _ _ _ _ said (fun _ h => by cases h) (by kernel_rfl) (fun _ h => by cases h) nodesetLists_row_tie rfl ⟨rfl, rfl⟩ (by kernel_rfl) rfl plain (by kernel_rfl)
end Go.Proofs.YtjcghcibligioaaDoor.lists
