/-
  HeapMarks, tied: for every count of nodes, mark and node the law answers true, and its arguments read behind the call as before. The two tables of math/bits that the row lists are as their own text lays them (the card ties them to it); the card speaks of the pruned copy of the project that the seat holds.
-/
import Derived.Test.YtkhcopnklfmgcaaDoorHp3
import Derived.Test.YtkhcopnklfmgcaaDoorLift
import Derived.Test.YtkhcopnklfmgcaaDoorTabs
import Derived.Test.YtkhcopnklfmgcaaDoorCards
import Derived.Test.YtkhcopnklfmgcaaDoorTie
import Derived.Deep.DeepHandedRow
import Derived.Lay
namespace Go.Proofs.YtkhcopnklfmgcaaDoor.marks
open Go.ChangeShapes Go.WideShapes Go.ChangeAt Go.RowKit By
/-- Of a heap of N nodes of 8 frames g frames of one node are free, and all of the others. -/
def HI (w wr : World) (q nb N : Nat) (k : Int) (at_ g : Nat) : Prop :=
  ∃ P u tk f F, HP wr q nb N 3 (k, k, 8) P u tk f F ∧ f at_ = g ∧ (∀ j, j < N → j ≠ at_ → f j = 8) ∧ (∀ x, HF q nb N F x → w.heap.size ≤ x) ∧ Kept [] w wr
theorem HI.next {w wr w' : World} {q nb N at_ g : Nat} {k : Int} (h : HI w wr q nb N k at_ g) (hk : Kept [] wr w') : HI w w' q nb N k at_ g := by
  obtain ⟨P, u, tk, f, F, hH, h1, h2, h3, h4⟩ := h
  exact ⟨P, u, tk, f, F, hH.kept0 hk, h1, h2, h3, h4.next hk⟩
theorem HI.may_yes {w wr : World} {q nb N at_ g : Nat} {k : Int} (h : HI w wr q nb N k at_ g) (j v : Nat) (hj : j < N) (hv : v = if j = at_ then g else 8) (hg : k + 1 ≤ v) (hk : 0 ≤ k) {ji : Int} (ej : ji = j) :
    Calls Tryd.prog 30 #[.pointer (some ⟨q, 0, none⟩), .int .i64 ji, .int .i64 0] wr fun e w' => e = .returned (.bool true) ∧ HI w w' q nb N k at_ g := by
  subst ej
  have h0 := h
  obtain ⟨P, u, tk, f, F, hH, h1, h2, h3, h4⟩ := h
  have hf : f j = v := by
    by_cases e : j = at_
    · rw [hv, if_pos e, e, h1]
    · rw [hv, if_neg e, h2 j hj e]
  obtain ⟨A, hA⟩ := BS.some (hH.bud j hj) (by omega)
  refine (By.may_yes hH j 0 A hj (by decide) hA (by simp; omega)).mono ?_
  rintro e w' ⟨rfl, d, rfl⟩
  exact ⟨rfl, h0.next ((Kept.refl [] wr).drewN d)⟩
theorem HI.may_no {w wr : World} {q nb N at_ g : Nat} {k : Int} (h : HI w wr q nb N k at_ g) (j v : Nat) (hj : j < N) (hv : v = if j = at_ then g else 8) (hg : (v : Int) < k + 1) (hk : k ≤ 8) {ji : Int} (ej : ji = j) :
    Calls Tryd.prog 30 #[.pointer (some ⟨q, 0, none⟩), .int .i64 ji, .int .i64 0] wr fun e w' => e = .returned (.bool false) ∧ HI w w' q nb N k at_ g := by
  subst ej
  have h0 := h
  obtain ⟨P, u, tk, f, F, hH, h1, h2, h3, h4⟩ := h
  have hf : f j = v := by
    by_cases e : j = at_
    · rw [hv, if_pos e, e, h1]
    · rw [hv, if_neg e, h2 j hj e]
  refine (By.may_no hH j 0 hj (by decide) (hH.few j 0 hj (by simp; omega)) (by simp; omega)).mono ?_
  rintro e w' ⟨rfl, d, rfl⟩
  exact ⟨rfl, h0.next ((Kept.refl [] wr).drewN d)⟩
theorem HI.take {w wr : World} {q nb N at_ g : Nat} {k : Int} (h : HI w wr q nb N k at_ (g + 1)) (hj : at_ < N) (hg : k ≤ g) {ji : Int} (ej : ji = at_) :
    Calls Tryd.prog 27 #[.pointer (some ⟨q, 0, none⟩), .int .i64 ji, .int .i64 0] wr fun e w' => ∃ x : Nat, e = .returned (.tuple #[.int .i64 x, .int .i64 0]) ∧ (x : Int) / 8 = at_ ∧ HI w w' q nb N k at_ g := by
  subst ej
  obtain ⟨P, u, tk, f, F, hH, h1, h2, h3, h4⟩ := h
  obtain ⟨A, hA⟩ := BS.some (hH.bud at_ hj) (by omega)
  have hlt := ((hH.bud at_ hj).at_ hA).1
  refine (htake_ok hH at_ 0 A hj (by decide) hA (by simp; omega) _ rfl).mono ?_
  rintro e w' ⟨f', G, rfl, hf', hH', hk', hG⟩
  refine ⟨_, rfl, by omega, P, _, _, _, _, hH', by simp; omega, fun j hj' hne => by simp [hne]; exact h2 j hj' hne, HF.swap h3 h4.size hj hG, h4.trans hk' (fun x hx hl => by have := h3 x (.inr (.inr ⟨at_, hj, hx⟩)); omega)⟩
theorem HI.take_no {w wr : World} {q nb N at_ g : Nat} {k : Int} (h : HI w wr q nb N k at_ g) (hj : at_ < N) (hg : (g : Int) ≤ k) (hk : k ≤ 8) {ji : Int} (ej : ji = at_) :
    Calls Tryd.prog 27 #[.pointer (some ⟨q, 0, none⟩), .int .i64 ji, .int .i64 0] wr fun e w' => e = .returned (.tuple #[.int .i64 0, .int .i64 5]) ∧ HI w w' q nb N k at_ g := by
  subst ej
  have h0 := h
  obtain ⟨P, u, tk, f, F, hH, h1, h2, h3, h4⟩ := h
  refine (htake_no hH at_ 0 hj (by decide) (hH.few at_ 0 hj (by simp; omega)) (by simp; omega)).mono ?_
  rintro e w' ⟨rfl, hk'⟩
  exact ⟨rfl, h0.next hk'⟩
theorem HI.free {w wr : World} {q nb N at_ g : Nat} {k : Int} (h : HI w wr q nb N k at_ g) (j v : Nat) (hj : j < N) (hv : v = if j = at_ then g else 8) {ji : Int} (ej : ji = j) :
    Calls Tryd.prog 28 #[.pointer (some ⟨q, 0, none⟩), .int .i64 ji] wr fun e w' => e = .returned (.tuple #[.int .i64 v, .int .i64 0]) ∧ w' = wr := by
  subst ej
  obtain ⟨P, u, tk, f, F, hH, h1, h2, h3, h4⟩ := h
  have hf : f j = v := by
    by_cases e : j = at_
    · rw [hv, if_pos e, e, h1]
    · rw [hv, if_neg e, h2 j hj e]
  rw [← hf]
  exact hfree_ok hH j hj
set_option maxRecDepth 20000 in
set_option maxHeartbeats 2000000 in
theorem walk (x y z : Int) {w : World} (hT : Tab w) : Calls Tryd.prog 8 #[.int .i64 x, .int .i64 y, .int .i64 z] w fun e w' => e = .returned (.bool true) ∧ Kept [] w w' := by
  obtain ⟨r, hr, hx⟩ := mod_small x 4 (by decide) (by decide)
  obtain ⟨k, hk, hy⟩ := mod_small y 9 (by decide) (by decide)
  obtain ⟨n, hn⟩ : ∃ n : Nat, (1 : Int) + r = n := ⟨1 + r, by omega⟩
  have hn1 : 1 ≤ n := by omega
  have hn8 : n ≤ 4 := by omega
  obtain ⟨m, hm, hz⟩ := mod_small z n (by omega) (by omega)
  have T := hide hT
  clear hT
  go_enter Tryd.func8, Tryd.ntmps8
  go_wp2_with fail
  refine (hnew_ok n 3 8 k k 8 hn1 (by omega) (by decide) rfl (by omega) (by omega) (by omega) (by decide) T.out).mono ?_
  rintro e w1 ⟨q, nb, P, F, rfl, hH, hF, hk1⟩
  have T1 := hide (T.out.kept hk1 (by simp))
  have I1 := hide (show HI w w1 q nb n k m 8 from ⟨P, _, _, _, F, hH, rfl, fun _ _ _ => rfl, hF, hk1⟩)
  clear hH hF hk1 T
  go_wp2_with fail
  refine (heaps_true T1.out).mono ?_
  rintro e w2 ⟨rfl, hk2⟩
  have I2 := hide (I1.out.next hk2)
  clear hk2 I1 T1 hx hy hz hn hr
  go_wp2_with fail
  go_loopw [12] (fun v wr => ∃ i g : Nat, v = .int .i64 i ∧ i + g = 8 ∧ k ≤ g ∧ HI w wr q nb n k m g) (fun v _ => 8 - (intOf v).toNat)
  case atStart => exact ⟨0, 8, rfl, rfl, by omega, I2.out⟩
  case round =>
    obtain ⟨i, g, rfl, hig, hkg, hI⟩ := hrel
    have I := hide hI
    clear hI I2
    by_cases hlt : k < g
    · obtain ⟨g', rfl⟩ : ∃ g', g = g' + 1 := ⟨g - 1, by omega⟩
      have hc : (i : Int) < 8 - k := by omega
      go_wp2_with fail
      refine (I.out.may_yes m (g' + 1) (by omega) (by simp) (by omega) (by omega) rfl).mono ?_
      rintro e w3 ⟨rfl, hI3⟩
      have I3 := hide hI3
      clear hI3 I
      go_wp2_with fail
      refine (I3.out.take (by omega) (by omega) rfl).mono ?_
      rintro e w4 ⟨f, rfl, hf8, hI4⟩
      have I4 := hide hI4
      clear hI4 I3
      go_wp2
      go_roundw
      case rel => exact ⟨i + 1, g', by go_num, by omega, by omega, I4.out⟩
      case measure => simp [intOf]; omega
    · have hc : ¬ (i : Int) < 8 - k := by omega
      have hgk : g = k := by omega
      subst hgk
      go_wp2_with fail
      refine (I.out.take_no (by omega) (by omega) (by omega) rfl).mono ?_
      rintro e w3 ⟨rfl, hI3⟩
      have I3 := hide hI3
      clear hI3 I hc hlt hkg hig
      go_wp2_with fail
      go_loopw [17] (fun v wr => ∃ j : Nat, v = .int .i64 j ∧ j ≤ n ∧ HI w wr q nb n g m g) (fun v _ => n - (intOf v).toNat)
      case atStart => exact ⟨0, rfl, by omega, I3.out⟩
      case round =>
        obtain ⟨j, rfl, hjn, hI⟩ := hrel
        have I := hide hI
        clear hI I3
        by_cases hj : j < n
        · have hji : (j : Int) < n := by omega
          by_cases hjm : j = m
          · subst hjm
            go_wp2_with fail
            refine (I.out.free j g hj (by simp) rfl).mono ?_
            rintro e w' ⟨rfl, hw⟩
            subst w'
            go_wp2_with fail
            refine (I.out.may_no j g hj (by simp) (by omega) (by omega) rfl).mono ?_
            rintro e w5 ⟨rfl, hI5⟩
            have I5 := hide hI5
            clear hI5 I
            go_wp2
            go_roundw
            case rel => exact ⟨j + 1, by go_num, by omega, I5.out⟩
            case measure => simp [intOf]; omega
          · have hji2 : ¬ (j : Int) = m := by omega
            have hjb : ((j : Int) != (m : Int)) = true := by simpa using hji2
            go_wp2_with fail
            refine (I.out.free j 8 hj (by simp [hjm]) rfl).mono ?_
            rintro e w' ⟨rfl, hw⟩
            subst w'
            by_cases hg8 : (g : Int) < 8
            · go_wp2_with fail
              refine (I.out.may_yes j 8 hj (by simp [hjm]) (by omega) (by omega) rfl).mono ?_
              rintro e w5 ⟨rfl, hI5⟩
              have I5 := hide hI5
              clear hI5 I
              go_wp2
              go_roundw
              case rel => exact ⟨j + 1, by go_num, by omega, I5.out⟩
              case measure => simp [intOf]; omega
            · go_wp2_with fail
              refine (I.out.may_no j 8 hj (by simp [hjm]) (by omega) (by omega) rfl).mono ?_
              rintro e w5 ⟨rfl, hI5⟩
              have I5 := hide hI5
              clear hI5 I
              go_wp2
              go_roundw
              case rel => exact ⟨j + 1, by go_num, by omega, I5.out⟩
              case measure => simp [intOf]; omega
        · have hji : ¬ (j : Int) < n := by omega
          have K := hide (show Kept [] w _ from by obtain ⟨P, u, tk, f, F, -, -, -, -, h4⟩ := I.out; exact h4)
          clear I
          go_wp2
          go_ret
          exact ⟨rfl, K.out⟩

theorem own : ownKnob Tryd.prog.godebug = none := by kernel_rfl
theorem laidOut : laidOutB Tryd.prog = true := by kernel_rfl

set_option maxRecDepth 100000 in
theorem contract (H : Type) (enc : TypeId × Value → H) (W : World) (base : Nat) (args : Array Value) (ds gs : List (DataW H)) (before : List MemPlace)
    (hval : ∀ (j : Nat) t v, Tryd.f8.params[j]? = some t → args[j]? = some v → Value.okWide Tryd.prog W .any base t v)
    (hW : DataW.Whole enc Tryd.prog Tryd.f8.params.toList Rows.heapMarksSpec.vars false W args.toList ds gs before) (_hsh : W.ShapedOpen Tryd.prog) (hlaid : laidMetH Tryd.prog Rows.heapMarksRow.laid W) :
    Calls Tryd.prog 8 args W fun e W' => ∃ v, e = .returned v ∧ Rows.heapMarksSpec.post enc Tryd.prog Tryd.f8 false true false false W args v W' := by
  have hW' := hW
  obtain ⟨p, q, hA0, hV, rfl, hfz, hnd⟩ := hW
  have hA : DataW.TrodAll enc Tryd.prog W 0 (fun _ => true) true Tryd.f8.params.toList args.toList ds p := hA0
  have hK := hA
  rw [Tryd.params8] at hA hval
  obtain ⟨v0, vs0, d0, ds0, p0, q0, hargs, rfl, rfl, h0, r0⟩ := trodAll_cons hA
  obtain ⟨v1, vs1, d1, ds1, p1, q1, rfl, rfl, rfl, h1, r1⟩ := trodAll_cons r0
  obtain ⟨v2, vs2, d2, ds2, p2, q2, rfl, rfl, rfl, h2, r2⟩ := trodAll_cons r1
  obtain ⟨rfl, rfl, rfl⟩ := trodAll_nil r2
  obtain rfl : args = #[v0, v1, v2] := by cases args; simp_all
  obtain ⟨rfl, rfl⟩ := trodVars_none hV
  obtain ⟨x, rfl, rfl, rfl, w0⟩ := open_int Tryd.underlying3 (hval 0 3 v0 rfl rfl) h0
  obtain ⟨y, rfl, rfl, rfl, w1⟩ := open_int Tryd.underlying3 (hval 1 3 v1 rfl rfl) h1
  obtain ⟨z, rfl, rfl, rfl, w2⟩ := open_int Tryd.underlying3 (hval 2 3 v2 rfl rfl) h2
  have hTab : By.Tab W := By.tab_of_laid hlaid
  clear hA0
  refine (walk x y z hTab).mono fun e W' ⟨he, hk⟩ => ?_
  subst he
  exact ⟨_, rfl, _, _, _, [], _, [], hW', trodAll_mk1 (shut_bool Tryd.underlying4 _), trodAll_below laidOut hk.below _ _ _ _ hK (by kernel_rfl), rfl, hk.below.frame _, fun h => by cases h⟩

set_option maxRecDepth 100000 in
theorem laid_met (os : Os) : laidMet Tryd.prog Rows.heapMarksRow.laid ((World.laidAll Tryd.prog os Rows.heapMarksRow.laid).forCall (fun _ _ => 0) ⟨#[], #[.int .i64 0, .int .i64 0, .int .i64 0], []⟩).memory :=
  laidMet_laidAll _ (by kernel_rfl) (by kernel_rfl)
set_option maxRecDepth 100000 in
theorem reads (os : Os) {H : Type} (enc : TypeId × Value → H) : ∃ places, DataW.whole enc Tryd.prog ((World.laidAll Tryd.prog os Rows.heapMarksRow.laid).forCall (fun _ _ => 0) ⟨#[], #[.int .i64 0, .int .i64 0, .int .i64 0], []⟩).memory Tryd.f8.params.toList Rows.heapMarksSpec.vars false (#[.int .i64 0, .int .i64 0, .int .i64 0] : Array Value).toList 8 = some ([.lit (.int .i64 0), .lit (.int .i64 0), .lit (.int .i64 0)], [], places) :=
  ⟨[], by kernel_rfl⟩

set_option maxRecDepth 100000 in
theorem lifted (os : Os) (started : os.Started) (H : Type) (enc : TypeId × Value → H) (F : Stop.Interp) :
    ReturnsInHanded {} Tryd.checked os 8 .any ((OpenSpec.ofChange Rows.heapMarksSpec).preRow enc Tryd.prog Tryd.f8 Rows.heapMarksRow.domain false Rows.heapMarksRow.laid) (((OpenSpec.ofChange Rows.heapMarksSpec).at F).post enc Tryd.prog Tryd.f8 false true false false) := by
  obtain ⟨places, hx⟩ := reads os enc
  refine returnsInHanded_of_row (C := Tryd.checked) (s := OpenSpec.ofChange Rows.heapMarksSpec) own started (by kernel_rfl) Tryd.func8
    (witness_row_at (enc := enc) (C := Tryd.checked) false (World.laidAll Tryd.prog os Rows.heapMarksRow.laid) #[.int .i64 0, .int .i64 0, .int .i64 0] (World.laidAll_os _ _ _) (by kernel_rfl) (by kernel_rfl) (by kernel_rfl)
      (OpenSpec.preRow_of_cond 8 hx (by kernel_rfl) (fun k hk => by cases hk) (by kernel_rfl) (laid_met os))) ?_
  intro W base args ds gs before hval hW _ _ _ hlaid hsh _
  exact contract H enc W base args ds gs before hval hW hsh hlaid

theorem said : Rows.HeapMarksSaid :=
  OpenClaim.holds_of_cond 8 Tryd.f8 rfl rfl rfl rfl rfl rfl rfl ⟨rfl, rfl, rfl, rfl, rfl⟩ rfl rfl rfl rfl rfl (by kernel_rfl) Tryd.func8 (by kernel_rfl)
    (of_decide_eq_true (by kernel_rfl)) (by unfold Func.isWrapper; first | (rw [if_pos (by decide +kernel)]; kernel_rfl) | (rw [if_neg (by decide +kernel)]; exact ⟨rfl, rfl⟩))
    (fun os started H enc _ F => by rw [OpenClaim.pre_eq_preRow]; exact lifted os started H enc F)

theorem plain (f : FuncId) (fn : Func) (hf : Tryd.pinned.checked.prog.funcNamed Tryd.f8.name = some f) (hfn : Tryd.pinned.checked.prog.funcs[f]? = some fn) :
    false = Tryd.pinned.checked.prog.looks [] ∧ ∀ (j : Nat) t, fn.params[j]? = some t → Tryd.pinned.checked.prog.wantsStandIn t = false := by
  obtain rfl : f = 8 := Option.some.inj ((show Tryd.prog.funcNamed Tryd.f8.name = some 8 by kernel_rfl).symm.trans hf) |>.symm
  obtain rfl : fn = Tryd.f8 := (Option.some.inj (Tryd.func8.symm.trans hfn)).symm
  refine ⟨by kernel_rfl, fun j t ht => ?_⟩
  rw [Tryd.params8] at ht
  have hm : t = 3 := by have h9 := Array.mem_of_getElem? ht; simp at h9; first | exact h9 | (rcases h9 with h | h | h <;> simp [h])
  rcases hm with rfl
  · exact (show Tryd.prog.wantsStandIn 3 = false by kernel_rfl)

theorem card : Rows.HeapMarksCardSaid :=
  Claim7.holds_tied_plain_at .later [] _ _ _ _ said (fun _ h => by cases h) (by kernel_rfl) (fun _ h => by cases h) heapMarks_row_tie rfl ⟨rfl, rfl⟩ (by kernel_rfl) rfl plain (by kernel_rfl)
end Go.Proofs.YtkhcopnklfmgcaaDoor.marks
