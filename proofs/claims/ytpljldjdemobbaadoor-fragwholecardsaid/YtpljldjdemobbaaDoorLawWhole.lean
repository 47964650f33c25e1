/-
  FragWhole, tied: for every size and order the law answers true, and its arguments read behind the call as before. The two tables of math/bits that the row lists are as their own text lays them (the card ties them to it); the card speaks of the pruned copy of the project that the seat holds.
-/
import Derived.Test.YtpljldjdemobbaaDoorFrg6
import Derived.Test.YtpljldjdemobbaaDoorBTabs
import Derived.Test.YtpljldjdemobbaaDoorCards
import Derived.Test.YtpljldjdemobbaaDoorTie
import Derived.Deep.DeepHandedRow
import Derived.Lay
namespace Go.Proofs.YtpljldjdemobbaaDoor.whole
open Go.ChangeShapes Go.WideShapes Go.ChangeAt Go.RowKit By
set_option maxRecDepth 20000 in
set_option maxHeartbeats 8000000 in
theorem walk (x y : Int) {w : World} (hT : Tab w) : Calls Tryd.prog 5 #[.int .i64 x, .int .i64 y] w fun e w' => e = .returned (.bool true) ∧ Kept [] w w' := by
  obtain ⟨k0, hk0, hx⟩ := mod_small x 8 (by decide) (by decide)
  obtain ⟨o0, ho0, hy⟩ := mod_small y 10 (by decide) (by decide)
  have T := hide hT
  clear hT
  obtain ⟨k, hkE⟩ : ∃ k, k = k0 + 1 := ⟨_, rfl⟩
  obtain ⟨o, hoE⟩ : ∃ o, o = o0 + 1 := ⟨_, rfl⟩
  obtain ⟨n, hnE⟩ : ∃ n, n = 2 ^ k := ⟨_, rfl⟩
  obtain ⟨h, hhE⟩ : ∃ h, h = 2 ^ k0 := ⟨_, rfl⟩
  have hk10 : k ≤ 10 := by omega
  have hk8 : k ≤ 8 := by omega
  have hk00' : k0 ≤ 10 := by omega
  have hk1 : 1 ≤ k := by omega
  have ho1 : 1 ≤ o := by omega
  have ho10 : o ≤ 10 := by omega
  have hnh : n = 2 * h := by rw [hnE, hhE, hkE, Nat.pow_succ]; omega
  have hn1024 : n ≤ 1024 := by rw [hnE]; exact n1024 hk10
  have hh1 : 1 ≤ h := by rw [hhE]; exact two_pos _
  have ek : IntKind.i64.wrap (1 + (k0 : Int)) = (k : Int) := by rw [IntKind.wrap_i64]; omega
  have eo : IntKind.i64.wrap (1 + (o0 : Int)) = (o : Int) := by rw [IntKind.wrap_i64]; omega
  have en : wrap64 ((2 : Int) ^ k) = (n : Int) := by rw [shl1 hk10, hnE]
  have eh : wrap64 ((2 : Int) ^ k0) = (h : Int) := by rw [shl1 (by omega), hhE]
  have en2 : IntKind.i64.wrap ((2 : Int) ^ k) = (n : Int) := by rw [shl2 hk10, hnE]
  have eh2 : IntKind.i64.wrap ((2 : Int) ^ k0) = (h : Int) := by rw [shl2 hk00', hhE]
  have ekm : IntKind.i64.wrap ((k : Int) - 1) = (k0 : Int) := by rw [IntKind.wrap_i64]; omega
  have em : min k 64 = k := by omega
  have em0 : min k0 64 = k0 := by omega
  have hk0' : (0 : Int) ≤ (k : Int) := by omega
  have hk00 : (0 : Int) ≤ (k0 : Int) := by omega
  have HE := hide hkE
  have HO := hide hoE
  have HN := hide hnE
  have HH := hide hhE
  have HNH := hide hnh
  have HNL := hide hn1024
  clear hkE hoE hnE hhE hnh hn1024
  go_enter Tryd.func5, Tryd.ntmps5
  go_wp2_with fail
  refine (bs_new k n hk10 HN.out T.out rfl).mono ?_
  rintro e w1 ⟨p, F, rfl, hB, -, hF, hk1'⟩
  have B1 := hide hB
  have HF := hide hF
  have K1 := hide hk1'
  have T1 := hide (T.out.kept hk1' (by simp))
  have EH := hide eh
  have EH2 := hide eh2
  have EKM := hide ekm
  have EN2 := hide en2
  clear hB hF hk1' T hx hy ek eo eh eh2 ekm en2
  go_wp2_with fail
  refine (frags_true T1.out).mono ?_
  rintro e w2 ⟨rfl, hk2⟩
  have B2 := hide (B1.out.kept0 hk2)
  have K2 := hide (K1.out.next hk2)
  clear hk2 B1 K1 T1
  go_wp2_with fail
  have hidx : tsum (u0 k) k * 1000 / 2 ^ k = 0 := by
    rw [tsum_zero (fun j hj => by rw [tops0 hk10 j (by omega), if_neg (by omega)])]; simp
  have hbst : best (tops (u0 k)) 11 = (k : Int) := best_at (by rw [tops0 hk10 k (by omega), if_pos rfl]; omega) 11 (by omega) (fun j h1 h2 => by rw [tops0 hk10 j h2, if_neg (by omega)])
  have hft : fits (tops (u0 k)) 0 (11 - 0) = n := by
    have h1 := tsum_fits (u0 k) 0 11
    rw [Nat.zero_add, B2.out.tsum] at h1
    simp [tsum] at h1
    rw [HN.out]; exact h1.symm
  refine (index_ok B2.out k hk10 (by have := two_pos k; omega) rfl).mono ?_
  rintro e w3 ⟨rfl, hk3⟩
  rw [hidx]
  have en2 := EN2.out
  have B3 := hide (B2.out.kept0 hk3)
  have K3 := hide (K2.out.next hk3)
  clear hk3 B2 K2 hidx
  go_wp2_with fail
  go_region_held3 (fun w' => True) (trivial) (first
    | (go_at_call 10; refine (largest_any (orders_ok (B3.out.kept0 (by first | exact Kept.refl [] _ | exact (Kept.refl [] _).drew | exact (Kept.refl [] _).drewN _)))).mono ?_; rintro e w4 ⟨rfl, hk4⟩; have hk4 : Kept [] w3 w4 := ⟨hk4.os, hk4.tape, hk4.output, hk4.size, hk4.block⟩; rw [hbst]; have B4 := hide (B3.out.kept0 hk4); have K4 := hide (K3.out.next hk4); clear hk4)
    | (go_at_call 11; refine (fits_any (fun j hj => B4.out.tops_le (by omega)) (orders_ok (B4.out.kept0 (by first | exact Kept.refl [] _ | exact (Kept.refl [] _).drew | exact (Kept.refl [] _).drewN _))) 0 (by decide) rfl).mono ?_; rintro e w5 ⟨rfl, hk5⟩; have hk5 : Kept [] w4 w5 := ⟨hk5.os, hk5.tape, hk5.output, hk5.size, hk5.block⟩; rw [hft]; have B5 := hide (B4.out.kept0 hk5); have K5 := hide (K4.out.next hk5); clear hk5))
  rename_i hHeld0
  clear hHeld0
  clear B3 K3 B4 K4 hbst hft en2
  go_wp2_with fail
  go_loopw [11] (fun v wr => ∃ (i f : Nat) (u : Nat → Bool) (tk : Nat → Nat) (G : List Nat), i ≤ n ∧ v = .int .i64 i ∧ f = n - i ∧ BS wr p k u tk f G ∧ (∀ a, a < 2 ^ k → tk a ≤ 1) ∧ (∀ x, x ∈ G → w.heap.size ≤ x) ∧ Kept [] w wr) (fun v _ => n - (intOf v).toNat)
  case atStart => exact ⟨0, _, _, _, F, Nat.zero_le _, rfl, HN.out.symm, B5.out, fun _ _ => Nat.zero_le _, HF.out, K5.out⟩
  case round =>
    obtain ⟨i, f, u, tk, G, hin, rfl, hf, hB, hone, hG, hKK⟩ := hrel
    have B := hide hB
    have HG := hide hG
    have KK := hide hKK
    have H1 := hide hone
    clear hB hG hKK hone B5 K5 HF
    have hnl := HNL.out
    by_cases hi : i < n
    · have hii : (i : Int) < (n : Int) := by omega
      obtain ⟨A, hA⟩ := B.out.finds_of (o := 0) (by omega) (by
        have h3 := B.out.tsum
        rw [tsum_fit (o := 0) (by omega)] at h3
        simp [tsum] at h3
        omega)
      have HA := hide hA
      clear hA
      go_wp2_with fail
      refine (bs_takeA 0 A B.out HA.out rfl).mono ?_
      rintro e w5 ⟨f5, G5, rfl, hf5, hB5, hk5, hG5⟩
      have B5 := hide hB5
      have K5 := hide (KK.out.trans hk5 (fun x hx hl => by have := HG.out x hx; omega))
      have HG5 := hide (show ∀ x, x ∈ G5 → w.heap.size ≤ x from fun x hx => (hG5 x hx).elim (HG.out x) (fun h => Nat.le_trans KK.out.size h))
      have hff : f5 = n - (i + 1) := by omega
      have H5 := hide (show ∀ a, a < 2 ^ k → (fun i => if i = A then 0 + 1 else tk i) a ≤ 1 from fun a ha => by
        by_cases e : a = A
        · simp [e]
        · simp [e]; exact H1.out a ha)
      clear hf5 hB5 hk5 hG5 B KK HG H1 HA
      go_wp2_with fail
      go_roundw
      case rel => exact ⟨i + 1, f5, _, _, _, by omega, by go_num, hff, B5.out, H5.out, HG5.out, K5.out⟩
      case measure => simp [intOf]; omega
    · have hii : ¬ (i : Int) < (n : Int) := by omega
      obtain rfl : f = 0 := by omega
      have hu : u = ev 0 := by rw [← ev_zero]; funext i; exact B.out.full i
      have hu2 := B.out.ones H1.out
      subst hu
      have HU := hide hu2
      clear hu2 hf H1
      go_wp2_with fail
      go_loopw [14] (fun v wr => ∃ (m : Nat) (tk : Nat → Nat) (G : List Nat), m ≤ h ∧ v = .int .i64 (2 * m : Nat) ∧ BS wr p k (ev m) tk m G ∧ (∀ a, 2 * m ≤ a → a < 2 ^ k → tk a = 1) ∧ (∀ x, x ∈ G → w.heap.size ≤ x) ∧ Kept [] w wr) (fun v _ => n - (intOf v).toNat)
      case atStart => exact ⟨0, _, _, Nat.zero_le _, rfl, B.out, fun a _ ha => HU.out a ha, HG.out, KK.out⟩
      case round =>
        obtain ⟨m, tk2, G2, hmh, rfl, hB, hone, hG, hKK⟩ := hrel
        have B2 := hide hB
        have HG2 := hide hG
        have K2 := hide hKK
        have H1 := hide hone
        have hnh := HNH.out
        clear hB hG hKK hone B HG KK HU
        by_cases hm : m < h
        · have hii2 : ((2 * m : Nat) : Int) < (n : Int) := by omega
          have hlt : 2 * m < 2 ^ k := by rw [← HN.out]; omega
          have hg := hide (bs_give (2 * m) 0 B2.out hlt (H1.out _ (Nat.le_refl _) hlt) rfl rfl)
          obtain ⟨z, hz⟩ : ∃ z, z = 2 * m := ⟨_, rfl⟩
          have hzb : z < 1024 := by omega
          have hzn : (z : Int) < (n : Int) := by omega
          clear hlt hii2 hnh
          rw [← hz] at hg ⊢
          have HZ := hide hz
          clear hz
          go_wp2_with fail
          refine hg.out.mono ?_
          rintro e w6 ⟨G6, rfl, hB6, hk6, hG6⟩
          rw [HZ.out, ev_next] at hB6
          have B6 := hide hB6
          have K6 := hide (K2.out.trans hk6 (fun x hx hl => by have := HG2.out x hx; omega))
          have HG6 := hide (show ∀ x, x ∈ G6 → w.heap.size ≤ x from fun x hx => (hG6 x hx).elim (HG2.out x) (fun h => Nat.le_trans K2.out.size h))
          have H6 := hide (show ∀ a, 2 * (m + 1) ≤ a → a < 2 ^ k → (fun i => if i = 2 * m then 0 else tk2 i) a = 1 from fun a ha hak => by
            simp only []
            rw [if_neg (by omega)]
            exact H1.out a (by omega) hak)
          clear hB6 hk6 hG6 B2 K2 HG2 H1 hg
          go_wp2_with fail
          go_roundw
          case rel => exact ⟨m + 1, _, _, by omega, by have := HZ.out; rw [this]; go_num, B6.out, H6.out, HG6.out, K6.out⟩
          case measure => have := HZ.out; simp [intOf]; omega
        · have hii2 : ¬ ((2 * m : Nat) : Int) < (n : Int) := by omega
          obtain rfl : m = h := by omega
          clear hnh
          have hm0 : m ≠ 0 := Nat.pos_iff_ne_zero.1 hh1
          obtain ⟨hidx, hidx0, hbst, hft0, hfto⟩ := ev_facts B2.out hm0 o ho1 ho10
          clear H1
          go_wp2_with fail
          refine (index_ok B2.out o ho10 hm0 rfl).mono ?_
          rintro e w6 ⟨rfl, hk6⟩
          rw [hidx]
          have B6 := hide (B2.out.kept0 hk6)
          have K6 := hide (K2.out.next hk6)
          clear hk6 B2 K2 hidx
          go_wp2_with fail
          refine (index_ok B6.out 0 (by decide) hm0 rfl).mono ?_
          rintro e w7 ⟨rfl, hk7⟩
          rw [hidx0]
          have hkc : (k = 1 ∧ m = 1) ∨ (k = 2 ∧ m = 2) ∨ (k = 3 ∧ m = 4) ∨ (k = 4 ∧ m = 8) ∨ (k = 5 ∧ m = 16) ∨ (k = 6 ∧ m = 32) ∨ (k = 7 ∧ m = 64) ∨ (k = 8 ∧ m = 128) := nums HE.out HH.out (by clear en; omega)
          have HO10 := hide ho10
          clear en em em0 hk00 hk0' hk10 hk8 hk1 ho1 ho10 hh1 hk0 ho0 hi hin hii hii2 hm hnl
          have B7 := hide (B6.out.kept0 hk7)
          have K7 := hide (K6.out.next hk7)
          clear hk7 B6 K6 hidx0
          rcases hkc with ⟨hkk, hmm⟩ | ⟨hkk, hmm⟩ | ⟨hkk, hmm⟩ | ⟨hkk, hmm⟩ | ⟨hkk, hmm⟩ | ⟨hkk, hmm⟩ | ⟨hkk, hmm⟩ | ⟨hkk, hmm⟩
          all_goals
            subst hkk hmm
            have v0 : IntKind.i64.wrap 0 = 0 := by decide
            have v1 : IntKind.i64.wrap 1 = 1 := by decide
            have v2 : IntKind.i64.wrap 2 = 2 := by decide
            have v3 : IntKind.i64.wrap 3 = 3 := by decide
            have v4 : IntKind.i64.wrap 4 = 4 := by decide
            have v5 : IntKind.i64.wrap 5 = 5 := by decide
            have v6 : IntKind.i64.wrap 6 = 6 := by decide
            have v7 : IntKind.i64.wrap 7 = 7 := by decide
            have v8 : IntKind.i64.wrap 8 = 8 := by decide
            have v16 : IntKind.i64.wrap 16 = 16 := by decide
            have v32 : IntKind.i64.wrap 32 = 32 := by decide
            have v64 : IntKind.i64.wrap 64 = 64 := by decide
            have v128 : IntKind.i64.wrap 128 = 128 := by decide
            go_wp2_with fail
            go_region_held3 (fun w' => True) (trivial) (first
              | (go_at_call 10; refine (largest_any (orders_ok (B7.out.kept0 (by first | exact Kept.refl [] _ | exact (Kept.refl [] _).drew | exact (Kept.refl [] _).drewN _)))).mono ?_; rintro e w8 ⟨rfl, hk8⟩; have hk8 : Kept [] w7 w8 := ⟨hk8.os, hk8.tape, hk8.output, hk8.size, hk8.block⟩; rw [hbst]; have B8 := hide (B7.out.kept0 hk8); have K8 := hide (K7.out.next hk8); clear hk8)
              | (go_at_call 11; refine (fits_any (fun j hj => B9.out.tops_le (Nat.le_of_lt_succ hj)) (orders_ok (B9.out.kept0 (by first | exact Kept.refl [] _ | exact (Kept.refl [] _).drew | exact (Kept.refl [] _).drewN _))) o HO10.out rfl).mono ?_; rintro e w10 ⟨rfl, hk10⟩; have hk10 : Kept [] w9 w10 := ⟨hk10.os, hk10.tape, hk10.output, hk10.size, hk10.block⟩; rw [hfto]; have K10 := hide (K9.out.next hk10); clear hk10)
              | (go_at_call 11; refine (fits_any (fun j hj => B8.out.tops_le (Nat.le_of_lt_succ hj)) (orders_ok (B8.out.kept0 (by first | exact Kept.refl [] _ | exact (Kept.refl [] _).drew | exact (Kept.refl [] _).drewN _))) 0 (by decide) rfl).mono ?_; rintro e w9 ⟨rfl, hk9⟩; have hk9 : Kept [] w8 w9 := ⟨hk9.os, hk9.tape, hk9.output, hk9.size, hk9.block⟩; rw [hft0]; have B9 := hide (B8.out.kept0 hk9); have K9 := hide (K8.out.next hk9); clear hk9))
            rename_i hHeld0
            clear hHeld0
            go_wp2_with fail
            go_ret
            exact ⟨rfl, by first | exact K10.out | exact K10.out.drew | exact K10.out.drewN _⟩

theorem own : ownKnob Tryd.prog.godebug = none := by kernel_rfl
theorem laidOut : laidOutB Tryd.prog = true := by kernel_rfl

set_option maxRecDepth 100000 in
theorem contract (H : Type) (enc : TypeId × Value → H) (W : World) (base : Nat) (args : Array Value) (ds gs : List (DataW H)) (before : List MemPlace)
    (hval : ∀ (j : Nat) t v, Tryd.f5.params[j]? = some t → args[j]? = some v → Value.okWide Tryd.prog W .any base t v)
    (hW : DataW.Whole enc Tryd.prog Tryd.f5.params.toList Rows.fragWholeSpec.vars false W args.toList ds gs before) (_hsh : W.ShapedOpen Tryd.prog) (hlaid : laidMetH Tryd.prog Rows.fragWholeRow.laid W) :
    Calls Tryd.prog 5 args W fun e W' => ∃ v, e = .returned v ∧ Rows.fragWholeSpec.post enc Tryd.prog Tryd.f5 false true false false W args v W' := by
  have hW' := hW
  obtain ⟨p, q, hA0, hV, rfl, hfz, hnd⟩ := hW
  have hA : DataW.TrodAll enc Tryd.prog W 0 (fun _ => true) true Tryd.f5.params.toList args.toList ds p := hA0
  have hK := hA
  rw [Tryd.params5] at hA hval
  obtain ⟨v0, vs0, d0, ds0, p0, q0, hargs, rfl, rfl, h0, r0⟩ := trodAll_cons hA
  obtain ⟨v1, vs1, d1, ds1, p1, q1, rfl, rfl, rfl, h1, r1⟩ := trodAll_cons r0
  obtain ⟨rfl, rfl, rfl⟩ := trodAll_nil r1
  obtain rfl : args = #[v0, v1] := by cases args; simp_all
  obtain ⟨rfl, rfl⟩ := trodVars_none hV
  obtain ⟨x, rfl, rfl, rfl, w0⟩ := open_int Tryd.underlying3 (hval 0 3 v0 rfl rfl) h0
  obtain ⟨y, rfl, rfl, rfl, w1⟩ := open_int Tryd.underlying3 (hval 1 3 v1 rfl rfl) h1
  have hTab : By.Tab W := By.tab_of_laid hlaid
  clear hA0
  refine (walk x y hTab).mono fun e W' ⟨he, hk⟩ => ?_
  subst he
  exact ⟨_, rfl, _, _, _, [], _, [], hW', trodAll_mk1 (shut_bool Tryd.underlying4 _), trodAll_below laidOut hk.below _ _ _ _ hK (by kernel_rfl), rfl, hk.below.frame _, fun h => by cases h⟩

set_option maxRecDepth 100000 in
theorem laid_met (os : Os) : laidMet Tryd.prog Rows.fragWholeRow.laid ((World.laidAll Tryd.prog os Rows.fragWholeRow.laid).forCall (fun _ _ => 0) ⟨#[], #[.int .i64 0, .int .i64 0], []⟩).memory :=
  laidMet_laidAll _ (by kernel_rfl) (by kernel_rfl)
set_option maxRecDepth 100000 in
theorem reads (os : Os) {H : Type} (enc : TypeId × Value → H) : ∃ places, DataW.whole enc Tryd.prog ((World.laidAll Tryd.prog os Rows.fragWholeRow.laid).forCall (fun _ _ => 0) ⟨#[], #[.int .i64 0, .int .i64 0], []⟩).memory Tryd.f5.params.toList Rows.fragWholeSpec.vars false (#[.int .i64 0, .int .i64 0] : Array Value).toList 8 = some ([.lit (.int .i64 0), .lit (.int .i64 0)], [], places) :=
  ⟨[], by kernel_rfl⟩

set_option maxRecDepth 100000 in
theorem lifted (os : Os) (started : os.Started) (H : Type) (enc : TypeId × Value → H) (F : Stop.Interp) :
    ReturnsInHanded {} Tryd.checked os 5 .any ((OpenSpec.ofChange Rows.fragWholeSpec).preRow enc Tryd.prog Tryd.f5 Rows.fragWholeRow.domain false Rows.fragWholeRow.laid) (((OpenSpec.ofChange Rows.fragWholeSpec).at F).post enc Tryd.prog Tryd.f5 false true false false) := by
  obtain ⟨places, hx⟩ := reads os enc
  refine returnsInHanded_of_row (C := Tryd.checked) (s := OpenSpec.ofChange Rows.fragWholeSpec) own started (by kernel_rfl) Tryd.func5
    (witness_row_at (enc := enc) (C := Tryd.checked) false (World.laidAll Tryd.prog os Rows.fragWholeRow.laid) #[.int .i64 0, .int .i64 0] (World.laidAll_os _ _ _) (by kernel_rfl) (by kernel_rfl) (by kernel_rfl)
      (OpenSpec.preRow_of_cond 8 hx (by kernel_rfl) (fun k hk => by cases hk) (by kernel_rfl) (laid_met os))) ?_
  intro W base args ds gs before hval hW _ _ _ hlaid hsh _
  exact contract H enc W base args ds gs before hval hW hsh hlaid

theorem said : Rows.FragWholeSaid :=
  OpenClaim.holds_of_cond 5 Tryd.f5 rfl rfl rfl rfl rfl rfl rfl ⟨rfl, rfl, rfl, rfl, rfl⟩ rfl rfl rfl rfl rfl (by kernel_rfl) Tryd.func5 (by kernel_rfl)
    (of_decide_eq_true (by kernel_rfl)) (by unfold Func.isWrapper; first | (rw [if_pos (by decide +kernel)]; kernel_rfl) | (rw [if_neg (by decide +kernel)]; exact ⟨rfl, rfl⟩))
    (fun os started H enc _ F => by rw [OpenClaim.pre_eq_preRow]; exact lifted os started H enc F)

theorem plain (f : FuncId) (fn : Func) (hf : Tryd.pinned.checked.prog.funcNamed Tryd.f5.name = some f) (hfn : Tryd.pinned.checked.prog.funcs[f]? = some fn) :
    false = Tryd.pinned.checked.prog.looks [] ∧ ∀ (j : Nat) t, fn.params[j]? = some t → Tryd.pinned.checked.prog.wantsStandIn t = false := by
  obtain rfl : f = 5 := Option.some.inj ((show Tryd.prog.funcNamed Tryd.f5.name = some 5 by kernel_rfl).symm.trans hf) |>.symm
  obtain rfl : fn = Tryd.f5 := (Option.some.inj (Tryd.func5.symm.trans hfn)).symm
  refine ⟨by kernel_rfl, fun j t ht => ?_⟩
  rw [Tryd.params5] at ht
  have hm : t = 3 := by have h9 := Array.mem_of_getElem? ht; simp at h9; first | exact h9 | (rcases h9 with h | h | h <;> simp [h])
  rcases hm with rfl
  · exact (show Tryd.prog.wantsStandIn 3 = false by kernel_rfl)

theorem card : Rows.FragWholeCardSaid :=
  Claim7.holds_tied_plain_at .later [] _ _ _ _ said (fun _ h => by cases h) (by kernel_rfl) (fun _ h => by cases h) fragWhole_row_tie rfl ⟨rfl, rfl⟩ (by kernel_rfl) rfl plain (by kernel_rfl)
end Go.Proofs.YtpljldjdemobbaaDoor.whole
