/-
  BuddyBack, tied: for every size, row of acts and order the law answers true, and its arguments read behind the call as before. The two tables of math/bits that the row lists are as their own text lays them (the card ties them to it); the card speaks of the pruned copy of the project that the seat holds.
-/
import Derived.Test.YtkhcopnklfmgcaaDoorHalves
import Derived.Test.YtkhcopnklfmgcaaDoorActs3
import Derived.Test.YtkhcopnklfmgcaaDoorBud7
import Derived.Test.YtkhcopnklfmgcaaDoorTabs
import Derived.Test.YtkhcopnklfmgcaaDoorCards
import Derived.Test.YtkhcopnklfmgcaaDoorTie
import Derived.Deep.DeepHandedRow
import Derived.Lay
namespace Go.Proofs.YtkhcopnklfmgcaaDoor.back
open Go.ChangeShapes Go.WideShapes Go.ChangeAt Go.RowKit By
set_option maxHeartbeats 2000000 in
theorem walk (x y : Int) {ao : Option Addr} {len cap : Nat} {w : World} (_hlen : len ≤ maxLen) (hA : IsActs w ao len) (hT : Tab w) : Calls Tryd.prog 6 #[.int .i64 x, .slice ao len cap, .int .i64 y] w fun e w' => e = .returned (.bool true) ∧ Kept [] w w' := by
  unfold maxLen at _hlen
  obtain ⟨K, hK, hx⟩ := mod_raw x 9 (by decide)
  obtain ⟨k, hk, hy⟩ := mod_small y 4 (by decide) (by decide)
  have HA := hide hA
  have T := hide hT
  have HY := hide hy
  clear hT hA hy
  go_enter Tryd.func6, Tryd.ntmps6
  go_wp2_with fail
  refine (bs_new K (2 ^ K) (by omega) rfl T.out (shl1 (by omega))).mono ?_
  rintro e w1 ⟨p, F, rfl, hB, -, hF, hk1⟩
  have B1 := hide hB
  have HF := hide hF
  have K1 := hide hk1
  have T1 := hide (T.out.kept hk1 (by simp))
  clear hB hF hk1 T
  go_wp2_with fail
  refine (halves_true T1.out).mono ?_
  rintro e w2 ⟨rfl, hk2⟩
  have B2 := hide (B1.out.kept0 hk2)
  have K2 := hide (K1.out.next hk2)
  clear hk2 B1 K1 T1 hx
  go_wp2_with fail
  go_loopw [9] (fun v wr => ∃ (i f : Nat) (u : Nat → Bool) (tk : Nat → Nat) (G : List Nat), i ≤ len ∧ i ≤ 20 ∧ v = .int .i64 i ∧ BS wr p K u tk f G ∧ (∀ x, x ∈ G → w.heap.size ≤ x) ∧ Kept [] w wr) (fun v _ => 20 - (intOf v).toNat)
  case atStart => exact ⟨0, 2 ^ K, _, _, F, Nat.zero_le _, Nat.zero_le _, rfl, B2.out, HF.out, K2.out⟩
  case round =>
    obtain ⟨i, f, u, tk, G, hil, hi20, rfl, hB, hG, hKK⟩ := hrel
    have B := hide hB
    have HG := hide hG
    have KK := hide hKK
    clear hB hG hKK B2 K2 HF
    by_cases hi : i < len ∧ i < 20
    · obtain ⟨b, off, ax, ay, az, hao, -, hc, -⟩ := (HA.out.kept KK.out) i hi.1
      subst hao
      obtain ⟨o, ho, hy⟩ := mod_small ay 4 (by decide) (by decide)
      have hil' : (i : Int) < len := by omega
      have hi20' : (i : Int) < 20 := by omega
      go_wp2_with fail
      refine (bs_some o B.out (by omega) rfl).mono ?_
      rintro e w3 ⟨rx, rz, f', u', tk', G3, rfl, hB3, hk3, hG3⟩
      have B3 := hide hB3
      have K3 := hide (KK.out.trans hk3 (fun x hx hl => by have := HG.out x hx; omega))
      have HG3 := hide (show ∀ x, x ∈ G3 → w.heap.size ≤ x from fun x hx => (hG3 x hx).elim (HG.out x) (fun h => Nat.le_trans KK.out.size h))
      clear hB3 hk3 hG3 B KK HG hc hy
      go_wp2
      go_roundw
      case rel => exact ⟨i + 1, f', u', tk', G3, by omega, by omega, by go_num, B3.out, HG3.out, K3.out⟩
      case measure => simp [intOf]; omega
    · have hn : ¬ ((i : Int) < len ∧ (i : Int) < 20) := by omega
      have hhy := HY.out
      have HFr := hide (bs_free B.out)
      have HFle := hide B.out.fle
      have hk10 : k ≤ 10 := by omega
      have hpk := n1024 hk10
      rcases B.out.finds k with ⟨A, hl⟩ | hl
      · have hTake := hide (bs_takeA k A B.out hl rfl)
        have HL := hide hl
        have HTk := hide (B.out.at_ hl)
        clear hl HA hn
        by_cases hil2 : (i : Int) < len
        all_goals
          first | (have hi20n : ¬ ((i : Int) < 20) := by omega) | skip
          go_wp2_with fail
          refine HFr.out.mono ?_
          rintro e w' ⟨rfl, hw⟩
          subst w'
          go_wp2_with fail
          refine hTake.out.mono ?_
          rintro e w3 ⟨f', G3, rfl, hf', hB3, hk3, hG3⟩
          obtain ⟨hlt, htk0, hfr, -, -⟩ := HTk.out
          have Hlt := hide hlt
          have Htk := hide htk0
          have Hfr := hide hfr
          have B3 := hide hB3
          have K3 := hide (KK.out.trans hk3 (fun x hx hl => by have := HG.out x hx; omega))
          have HG3 := hide (show ∀ x, x ∈ G3 → w.heap.size ≤ x from fun x hx => (hG3 x hx).elim (HG.out x) (fun h => Nat.le_trans KK.out.size h))
          have HF' := hide hf'
          clear hlt htk0 hfr hB3 hk3 hG3 HTk hTake HFr B KK HG hf'
          go_wp2_with fail
          refine (bs_give A k B3.out Hlt.out (by simp) rfl rfl).mono ?_
          rintro e w4 ⟨G4, rfl, hB4, hk4, hG4⟩
          rw [upd_forth Hfr.out] at hB4
          have etk : (fun i => if i = A then 0 else (fun i => if i = A then k + 1 else tk i) i) = tk := by
            funext i
            by_cases h : i = A
            · simp only [if_pos h]; rw [h, Htk.out]
            · simp only [if_neg h]
          rw [etk] at hB4
          have B4 := hide hB4
          have K4 := hide (K3.out.trans hk4 (fun x hx hl => by have := HG3.out x hx; omega))
          have HG4 := hide (show ∀ x, x ∈ G4 → w.heap.size ≤ x from fun x hx => (hG4 x hx).elim (HG3.out x) (fun h => Nat.le_trans K3.out.size h))
          clear hB4 hk4 hG4 B3 K3 HG3 etk Hfr Htk
          go_wp2_with fail
          refine (bs_takeA k A B4.out HL.out rfl).mono ?_
          rintro e w5 ⟨f5, G5, rfl, hf5, hB5, hk5, hG5⟩
          have hff : f5 = f' := by omega
          subst hff
          have B5 := hide hB5
          have K5 := hide (K4.out.trans hk5 (fun x hx hl => by have := HG4.out x hx; omega))
          have E2 : wrap64 ((f : Int) - wrap64 ((2 : Int) ^ k)) = (f5 : Int) := by
            have := HF'.out
            have hle := HFle.out
            rw [shl1 hk10]
            generalize 2 ^ k = q at hpk this ⊢
            rw [IntWalk.wrap64_in _ ⟨by omega, by omega⟩]
            omega
          clear hB5 hk5 hG5 B4 K4 HG4 hf5 HF' Hlt HL
          have B5' := hide (B5.out.kept0 (Kept.refl [] w5))
          go_wp2_with fail
          go_quiet (first | (go_at_call 16; refine (bs_free (B5.out.kept0 ((Kept.refl [] w5).drewN _))).mono ?_; rintro e w6 ⟨rfl, hw6⟩; exact ⟨rfl, _, hw6⟩))
          go_wp2
          go_ret
          exact ⟨rfl, K5.out.drewN _⟩
      · have hTake := hide (bs_none k B.out hk10 hl rfl)
        have HL := hide hl
        clear hl HA hn
        by_cases hil2 : (i : Int) < len
        all_goals
          first | (have hi20n : ¬ ((i : Int) < 20) := by omega) | skip
          go_wp2_with fail
          refine HFr.out.mono ?_
          rintro e w' ⟨rfl, hw⟩
          subst w'
          go_wp2_with fail
          refine hTake.out.mono ?_
          rintro e w' ⟨rfl, hw⟩
          subst w'
          go_wp2_with fail
          refine (bs_hasno k B.out hk10 HL.out rfl).mono ?_
          rintro e w' ⟨rfl, hw⟩
          subst w'
          go_wp2
          go_ret
          exact ⟨rfl, KK.out⟩

theorem own : ownKnob Tryd.prog.godebug = none := by kernel_rfl
theorem laidOut : laidOutB Tryd.prog = true := by kernel_rfl

set_option maxRecDepth 100000 in
theorem contract (H : Type) (enc : TypeId × Value → H) (W : World) (base : Nat) (args : Array Value) (ds gs : List (DataW H)) (before : List MemPlace)
    (hval : ∀ (j : Nat) t v, Tryd.f6.params[j]? = some t → args[j]? = some v → Value.okWide Tryd.prog W .any base t v)
    (hW : DataW.Whole enc Tryd.prog Tryd.f6.params.toList Rows.buddyBackSpec.vars false W args.toList ds gs before) (_hsh : W.ShapedOpen Tryd.prog) (hlaid : laidMetH Tryd.prog Rows.buddyBackRow.laid W) :
    Calls Tryd.prog 6 args W fun e W' => ∃ v, e = .returned v ∧ Rows.buddyBackSpec.post enc Tryd.prog Tryd.f6 false true false false W args v W' := by
  have hW' := hW
  obtain ⟨p, q, hA0, hV, rfl, hfz, hnd⟩ := hW
  have hA : DataW.TrodAll enc Tryd.prog W 0 (fun _ => true) true Tryd.f6.params.toList args.toList ds p := hA0
  have hK := hA
  rw [Tryd.params6] at hA hval
  obtain ⟨v0, vs0, d0, ds0, p0, q0, hargs, rfl, rfl, h0, r0⟩ := trodAll_cons hA
  obtain ⟨v1, vs1, d1, ds1, p1, q1, rfl, rfl, rfl, h1, r1⟩ := trodAll_cons r0
  obtain ⟨v2, vs2, d2, ds2, p2, q2, rfl, rfl, rfl, h2, r2⟩ := trodAll_cons r1
  obtain ⟨rfl, rfl, rfl⟩ := trodAll_nil r2
  obtain rfl : args = #[v0, v1, v2] := by cases args; simp_all
  obtain ⟨rfl, rfl⟩ := trodVars_none hV
  obtain ⟨x, rfl, rfl, rfl, w0⟩ := open_int Tryd.underlying3 (hval 0 3 v0 rfl rfl) h0
  obtain ⟨a1, len1, cap1, rfl, hl1, hT1⟩ := open_acts (okWide_slice Tryd.underlying22 (hval 1 22 v1 rfl rfl)) h1
  obtain ⟨y, rfl, rfl, rfl, w2⟩ := open_int Tryd.underlying3 (hval 2 3 v2 rfl rfl) h2
  have hTab : By.Tab W := By.tab_of_laid hlaid
  clear hA0
  refine (walk x y hl1 hT1 hTab).mono fun e W' ⟨he, hk⟩ => ?_
  subst he
  exact ⟨_, rfl, _, _, _, [], _, [], hW', trodAll_mk1 (shut_bool Tryd.underlying4 _), trodAll_below laidOut hk.below _ _ _ _ hK (by kernel_rfl), rfl, hk.below.frame _, fun h => by cases h⟩

set_option maxRecDepth 100000 in
theorem laid_met (os : Os) : laidMet Tryd.prog Rows.buddyBackRow.laid ((World.laidAll Tryd.prog os Rows.buddyBackRow.laid).forCall (fun _ _ => 0) ⟨#[], #[.int .i64 0, .slice none 0 0, .int .i64 0], []⟩).memory :=
  laidMet_laidAll _ (by kernel_rfl) (by kernel_rfl)
set_option maxRecDepth 100000 in
theorem reads (os : Os) {H : Type} (enc : TypeId × Value → H) : ∃ places, DataW.whole enc Tryd.prog ((World.laidAll Tryd.prog os Rows.buddyBackRow.laid).forCall (fun _ _ => 0) ⟨#[], #[.int .i64 0, .slice none 0 0, .int .i64 0], []⟩).memory Tryd.f6.params.toList Rows.buddyBackSpec.vars false (#[.int .i64 0, .slice none 0 0, .int .i64 0] : Array Value).toList 8 = some ([.lit (.int .i64 0), .nil, .lit (.int .i64 0)], [], places) :=
  ⟨[], by kernel_rfl⟩

set_option maxRecDepth 100000 in
theorem lifted (os : Os) (started : os.Started) (H : Type) (enc : TypeId × Value → H) (F : Stop.Interp) :
    ReturnsInHanded {} Tryd.checked os 6 .any ((OpenSpec.ofChange Rows.buddyBackSpec).preRow enc Tryd.prog Tryd.f6 Rows.buddyBackRow.domain false Rows.buddyBackRow.laid) (((OpenSpec.ofChange Rows.buddyBackSpec).at F).post enc Tryd.prog Tryd.f6 false true false false) := by
  obtain ⟨places, hx⟩ := reads os enc
  refine returnsInHanded_of_row (C := Tryd.checked) (s := OpenSpec.ofChange Rows.buddyBackSpec) own started (by kernel_rfl) Tryd.func6
    (witness_row_at (enc := enc) (C := Tryd.checked) false (World.laidAll Tryd.prog os Rows.buddyBackRow.laid) #[.int .i64 0, .slice none 0 0, .int .i64 0] (World.laidAll_os _ _ _) (by kernel_rfl) (by kernel_rfl) (by kernel_rfl)
      (OpenSpec.preRow_of_cond 8 hx (by kernel_rfl) (fun k hk => by cases hk) (by kernel_rfl) (laid_met os))) ?_
  intro W base args ds gs before hval hW _ _ _ hlaid hsh _
  exact contract H enc W base args ds gs before hval hW hsh hlaid

theorem said : Rows.BuddyBackSaid :=
  OpenClaim.holds_of_cond 6 Tryd.f6 rfl rfl rfl rfl rfl rfl rfl ⟨rfl, rfl, rfl, rfl, rfl⟩ rfl rfl rfl rfl rfl (by kernel_rfl) Tryd.func6 (by kernel_rfl)
    (of_decide_eq_true (by kernel_rfl)) (by unfold Func.isWrapper; first | (rw [if_pos (by decide +kernel)]; kernel_rfl) | (rw [if_neg (by decide +kernel)]; exact ⟨rfl, rfl⟩))
    (fun os started H enc _ F => by rw [OpenClaim.pre_eq_preRow]; exact lifted os started H enc F)

theorem plain (f : FuncId) (fn : Func) (hf : Tryd.pinned.checked.prog.funcNamed Tryd.f6.name = some f) (hfn : Tryd.pinned.checked.prog.funcs[f]? = some fn) :
    false = Tryd.pinned.checked.prog.looks [] ∧ ∀ (j : Nat) t, fn.params[j]? = some t → Tryd.pinned.checked.prog.wantsStandIn t = false := by
  obtain rfl : f = 6 := Option.some.inj ((show Tryd.prog.funcNamed Tryd.f6.name = some 6 by kernel_rfl).symm.trans hf) |>.symm
  obtain rfl : fn = Tryd.f6 := (Option.some.inj (Tryd.func6.symm.trans hfn)).symm
  refine ⟨by kernel_rfl, fun j t ht => ?_⟩
  rw [Tryd.params6] at ht
  have hm : t = 3 ∨ t = 22 := by have h9 := Array.mem_of_getElem? ht; simp at h9; first | exact h9 | (rcases h9 with h | h | h <;> simp [h])
  rcases hm with rfl | rfl
  · exact (show Tryd.prog.wantsStandIn 3 = false by kernel_rfl)
  · exact (show Tryd.prog.wantsStandIn 22 = false by kernel_rfl)

theorem card : Rows.BuddyBackCardSaid :=
  Claim7.holds_tied_plain_at .later [] _ _ _ _ said (fun _ h => by cases h) (by kernel_rfl) (fun _ h => by cases h) buddyBack_row_tie rfl ⟨rfl, rfl⟩ (by kernel_rfl) rfl plain (by kernel_rfl)
end Go.Proofs.YtkhcopnklfmgcaaDoor.back
