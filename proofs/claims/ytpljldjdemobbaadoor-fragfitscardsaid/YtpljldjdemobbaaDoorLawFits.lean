/-
  FragFits, tied: for every size, row of acts and order the law answers true, and its arguments read behind the call as before. The two tables of math/bits that the row lists are as their own text lays them (the card ties them to it); the card speaks of the pruned copy of the project that the seat holds.
-/
import Derived.Test.YtpljldjdemobbaaDoorFrg5
import Derived.Test.YtpljldjdemobbaaDoorBTabs
import Derived.Test.YtpljldjdemobbaaDoorCards
import Derived.Test.YtpljldjdemobbaaDoorTie
import Derived.Deep.DeepHandedRow
import Derived.Lay
namespace Go.Proofs.YtpljldjdemobbaaDoor.fits
open Go.ChangeShapes Go.WideShapes Go.ChangeAt Go.RowKit By
theorem best_lt {T : Nat → Nat} {o : Nat} : ∀ k, (∀ j, o ≤ j → j < k → T j = 0) → best T k < (o : Int)
  | 0, _ => by simp only [best]; omega
  | k + 1, h => by
    unfold best
    split
    · rename_i h1
      have : ¬ o ≤ k := fun h2 => by have := h k h2 (by omega); omega
      omega
    · exact best_lt k (fun j h1 h2 => h j h1 (by omega))
set_option maxRecDepth 20000 in
set_option maxHeartbeats 8000000 in
theorem walk (x y : Int) {ao : Option Addr} {len cap : Nat} {w : World} (hlen : len ≤ maxLen) (hA : IsFActs w ao len) (hT : Tab w) : Calls Tryd.prog 4 #[.int .i64 x, .slice ao len cap, .int .i64 y] w fun e w' => e = .returned (.bool true) ∧ Kept [] w w' := by
  obtain ⟨K, hK, hx⟩ := mod_raw x 9 (by decide)
  obtain ⟨o, ho, hy⟩ := mod_small y 6 (by decide) (by decide)
  have ho10 : o ≤ 10 := by omega
  have T := hide hT
  have HY := hide hy
  have B0 := hide (both_ok (cap := cap) (2 ^ K) K (by omega) rfl hlen hA hT (shl1 (by omega)))
  clear hT hlen hA hy
  go_enter Tryd.func4, Tryd.ntmps4
  go_wp2_with fail
  refine B0.out.mono ?_
  rintro e w1 ⟨p, r, rfl, hT1⟩
  obtain ⟨ub, base, u, tk, F, tv, t, hL, hBA⟩ := hT1
  have hB := hBA.bs
  have hnf := hBA.newF
  have hk1 := hBA.kept
  clear hBA B0 hx
  have T1 := hide (T.out.kept hk1 (by simp))
  have B1 := hide hB
  have N1 := hide hnf
  have K1 := hide hk1
  clear hB hnf hk1 T hL
  have hy := HY.out
  go_wp2_with fail
  refine (frags_true T1.out).mono ?_
  rintro e w2 ⟨rfl, hk2⟩
  have K2 := hide (K1.out.next hk2)
  have B2 := hide (B1.out.kept0 hk2)
  clear hk2 K1 B1 T1
  go_wp2_with fail
  refine (fits_any (fun j hj => B2.out.tops_le (by omega)) (orders_ok B2.out) o ho10 rfl).mono ?_
  rintro e w3 ⟨rfl, hk3⟩
  have e3 : fits (tops u) o (11 - o) = fit u o := rfl
  rw [e3]
  have hfl := B2.out.fit_le (o := o) (by omega)
  have K3 := hide (K2.out.next hk3)
  have B3 := hide (B2.out.kept0 hk3)
  clear hk3 K2 B2 e3 hy
  obtain ⟨n, hn⟩ : ∃ n, n = fit u o := ⟨_, rfl⟩
  rw [← hn] at hfl ⊢
  have HN := hide hn
  clear hn
  go_wp2_with fail
  go_loopw [11] (fun v wr => ∃ (i f : Nat) (u' : Nat → Bool) (tk' : Nat → Nat) (G : List Nat), i ≤ n ∧ v = .int .i64 i ∧ fit u' o = n - i ∧ BS wr p K u' tk' f G ∧ (∀ x, x ∈ G → w.heap.size ≤ x) ∧ Kept [] w wr) (fun v _ => n - (intOf v).toNat)
  case atStart => exact ⟨0, _, u, tk, F, Nat.zero_le _, rfl, by rw [← HN.out]; rfl, B3.out, N1.out, K3.out⟩
  case round =>
    obtain ⟨i, f, u', tk', G, hin, rfl, hfi, hB, hG, hKK⟩ := hrel
    have B := hide hB
    have HG := hide hG
    have KK := hide hKK
    have HF := hide hfi
    clear hB hG hKK hfi B3 N1 K3
    have e4 : fits (tops u') o (11 - o) = n - i := HF.out
    have hwi : IntKind.i64.wrap ((n : Int) - (i : Int)) = ((n - i : Nat) : Int) := by rw [IntKind.wrap_i64]; omega
    by_cases hi : i < n
    · have hii : (i : Int) < (n : Int) := by omega
      obtain ⟨A, hA⟩ := B.out.finds_of ho10 (by rw [HF.out]; omega)
      have HA := hide hA
      clear hA
      go_wp2_with fail
      refine (fits_any (fun j hj => B.out.tops_le (by omega)) (orders_ok B.out) o ho10 rfl).mono ?_
      rintro e w4 ⟨rfl, hk4⟩
      rw [e4]
      have B4 := hide (B.out.kept0 hk4)
      have K4 := hide (KK.out.next hk4)
      clear hk4 KK
      go_wp2_with fail
      refine (bs_takeA o A B4.out HA.out rfl).mono ?_
      rintro e w5 ⟨f5, G5, rfl, hf5, hB5, hk5, hG5⟩
      have hft := B4.out.take_fit ho10 HA.out hB5 hf5
      rw [HF.out] at hft
      have B5 := hide hB5
      have K5 := hide (K4.out.trans hk5 (fun x hx hl => by have := HG.out x hx; omega))
      have HG5 := hide (show ∀ x, x ∈ G5 → w.heap.size ≤ x from fun x hx => (hG5 x hx).elim (HG.out x) (fun h => Nat.le_trans K4.out.size h))
      have HF5 := hide (show fit (upd u' (A / 2 ^ o) o true) o = n - (i + 1) by omega)
      clear hf5 hB5 hk5 hG5 hft B4 K4 HG HF B e4 hwi HA
      go_wp2_with fail
      go_roundw
      case rel => exact ⟨i + 1, _, _, _, _, by omega, by go_num, HF5.out, B5.out, HG5.out, K5.out⟩
      case measure => simp [intOf]; omega
    · have hii : ¬ (i : Int) < (n : Int) := by omega
      have hie : n - i = 0 := by omega
      have hz : fit u' o = 0 := by rw [HF.out, hie]
      have hnun := (B.out.nun_iff ho10).2 hz
      have HNun := hide hnun
      have hbest : best (tops u') 11 < (o : Int) := best_lt 11 (fun j h1 h2 => (fits_zero (d := 11 - o)).1 hz j h1 (by omega))
      clear hnun hz e4 hwi HF
      go_wp2_with fail
      refine (bs_none o B.out ho10 HNun.out rfl).mono ?_
      rintro e w' ⟨rfl, hw⟩
      subst w'
      go_wp2_with (first
        | (go_at_call 10; refine (largest_any (orders_ok B.out)).mono ?_; rintro e w6 ⟨rfl, hk6⟩; have K6 := hide (KK.out.next hk6); clear hk6)
        | (go_at_call 11; refine (fits_no (by omega) _ _).mono ?_; rintro e w7 ⟨rfl, hw7⟩; subst w7))
      go_ret
      exact ⟨rfl, K6.out⟩

theorem own : ownKnob Tryd.prog.godebug = none := by kernel_rfl
theorem laidOut : laidOutB Tryd.prog = true := by kernel_rfl

set_option maxRecDepth 100000 in
theorem contract (H : Type) (enc : TypeId × Value → H) (W : World) (base : Nat) (args : Array Value) (ds gs : List (DataW H)) (before : List MemPlace)
    (hval : ∀ (j : Nat) t v, Tryd.f4.params[j]? = some t → args[j]? = some v → Value.okWide Tryd.prog W .any base t v)
    (hW : DataW.Whole enc Tryd.prog Tryd.f4.params.toList Rows.fragFitsSpec.vars false W args.toList ds gs before) (_hsh : W.ShapedOpen Tryd.prog) (hlaid : laidMetH Tryd.prog Rows.fragFitsRow.laid W) :
    Calls Tryd.prog 4 args W fun e W' => ∃ v, e = .returned v ∧ Rows.fragFitsSpec.post enc Tryd.prog Tryd.f4 false true false false W args v W' := by
  have hW' := hW
  obtain ⟨p, q, hA0, hV, rfl, hfz, hnd⟩ := hW
  have hA : DataW.TrodAll enc Tryd.prog W 0 (fun _ => true) true Tryd.f4.params.toList args.toList ds p := hA0
  have hK := hA
  rw [Tryd.params4] at hA hval
  obtain ⟨v0, vs0, d0, ds0, p0, q0, hargs, rfl, rfl, h0, r0⟩ := trodAll_cons hA
  obtain ⟨v1, vs1, d1, ds1, p1, q1, rfl, rfl, rfl, h1, r1⟩ := trodAll_cons r0
  obtain ⟨v2, vs2, d2, ds2, p2, q2, rfl, rfl, rfl, h2, r2⟩ := trodAll_cons r1
  obtain ⟨rfl, rfl, rfl⟩ := trodAll_nil r2
  obtain rfl : args = #[v0, v1, v2] := by cases args; simp_all
  obtain ⟨rfl, rfl⟩ := trodVars_none hV
  obtain ⟨x, rfl, rfl, rfl, w0⟩ := open_int Tryd.underlying3 (hval 0 3 v0 rfl rfl) h0
  obtain ⟨a1, len1, cap1, rfl, hl1, hT1⟩ := open_facts (okWide_slice Tryd.underlying22 (hval 1 22 v1 rfl rfl)) h1
  obtain ⟨y, rfl, rfl, rfl, w2⟩ := open_int Tryd.underlying3 (hval 2 3 v2 rfl rfl) h2
  have hTab : By.Tab W := By.tab_of_laid hlaid
  clear hA0
  refine (walk x y hl1 hT1 hTab).mono fun e W' ⟨he, hk⟩ => ?_
  subst he
  exact ⟨_, rfl, _, _, _, [], _, [], hW', trodAll_mk1 (shut_bool Tryd.underlying4 _), trodAll_below laidOut hk.below _ _ _ _ hK (by kernel_rfl), rfl, hk.below.frame _, fun h => by cases h⟩

set_option maxRecDepth 100000 in
theorem laid_met (os : Os) : laidMet Tryd.prog Rows.fragFitsRow.laid ((World.laidAll Tryd.prog os Rows.fragFitsRow.laid).forCall (fun _ _ => 0) ⟨#[], #[.int .i64 0, .slice none 0 0, .int .i64 0], []⟩).memory :=
  laidMet_laidAll _ (by kernel_rfl) (by kernel_rfl)
set_option maxRecDepth 100000 in
theorem reads (os : Os) {H : Type} (enc : TypeId × Value → H) : ∃ places, DataW.whole enc Tryd.prog ((World.laidAll Tryd.prog os Rows.fragFitsRow.laid).forCall (fun _ _ => 0) ⟨#[], #[.int .i64 0, .slice none 0 0, .int .i64 0], []⟩).memory Tryd.f4.params.toList Rows.fragFitsSpec.vars false (#[.int .i64 0, .slice none 0 0, .int .i64 0] : Array Value).toList 8 = some ([.lit (.int .i64 0), .nil, .lit (.int .i64 0)], [], places) :=
  ⟨[], by kernel_rfl⟩

set_option maxRecDepth 100000 in
theorem lifted (os : Os) (started : os.Started) (H : Type) (enc : TypeId × Value → H) (F : Stop.Interp) :
    ReturnsInHanded {} Tryd.checked os 4 .any ((OpenSpec.ofChange Rows.fragFitsSpec).preRow enc Tryd.prog Tryd.f4 Rows.fragFitsRow.domain false Rows.fragFitsRow.laid) (((OpenSpec.ofChange Rows.fragFitsSpec).at F).post enc Tryd.prog Tryd.f4 false true false false) := by
  obtain ⟨places, hx⟩ := reads os enc
  refine returnsInHanded_of_row (C := Tryd.checked) (s := OpenSpec.ofChange Rows.fragFitsSpec) own started (by kernel_rfl) Tryd.func4
    (witness_row_at (enc := enc) (C := Tryd.checked) false (World.laidAll Tryd.prog os Rows.fragFitsRow.laid) #[.int .i64 0, .slice none 0 0, .int .i64 0] (World.laidAll_os _ _ _) (by kernel_rfl) (by kernel_rfl) (by kernel_rfl)
      (OpenSpec.preRow_of_cond 8 hx (by kernel_rfl) (fun k hk => by cases hk) (by kernel_rfl) (laid_met os))) ?_
  intro W base args ds gs before hval hW _ _ _ hlaid hsh _
  exact contract H enc W base args ds gs before hval hW hsh hlaid

theorem said : Rows.FragFitsSaid :=
  OpenClaim.holds_of_cond 4 Tryd.f4 rfl rfl rfl rfl rfl rfl rfl ⟨rfl, rfl, rfl, rfl, rfl⟩ rfl rfl rfl rfl rfl (by kernel_rfl) Tryd.func4 (by kernel_rfl)
    (of_decide_eq_true (by kernel_rfl)) (by unfold Func.isWrapper; first | (rw [if_pos (by decide +kernel)]; kernel_rfl) | (rw [if_neg (by decide +kernel)]; exact ⟨rfl, rfl⟩))
    (fun os started H enc _ F => by rw [OpenClaim.pre_eq_preRow]; exact lifted os started H enc F)

theorem plain (f : FuncId) (fn : Func) (hf : Tryd.pinned.checked.prog.funcNamed Tryd.f4.name = some f) (hfn : Tryd.pinned.checked.prog.funcs[f]? = some fn) :
    false = Tryd.pinned.checked.prog.looks [] ∧ ∀ (j : Nat) t, fn.params[j]? = some t → Tryd.pinned.checked.prog.wantsStandIn t = false := by
  obtain rfl : f = 4 := Option.some.inj ((show Tryd.prog.funcNamed Tryd.f4.name = some 4 by kernel_rfl).symm.trans hf) |>.symm
  obtain rfl : fn = Tryd.f4 := (Option.some.inj (Tryd.func4.symm.trans hfn)).symm
  refine ⟨by kernel_rfl, fun j t ht => ?_⟩
  rw [Tryd.params4] at ht
  have hm : t = 3 ∨ t = 22 := by have h9 := Array.mem_of_getElem? ht; simp at h9; first | exact h9 | (rcases h9 with h | h | h <;> simp [h])
  rcases hm with rfl | rfl
  · exact (show Tryd.prog.wantsStandIn 3 = false by kernel_rfl)
  · exact (show Tryd.prog.wantsStandIn 22 = false by kernel_rfl)

theorem card : Rows.FragFitsCardSaid :=
  Claim7.holds_tied_plain_at .later [] _ _ _ _ said (fun _ h => by cases h) (by kernel_rfl) (fun _ h => by cases h) fragFits_row_tie rfl ⟨rfl, rfl⟩ (by kernel_rfl) rfl plain (by kernel_rfl)
end Go.Proofs.YtpljldjdemobbaaDoor.fits
