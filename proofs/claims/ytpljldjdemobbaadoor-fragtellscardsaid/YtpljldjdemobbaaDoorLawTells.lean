/-
  FragTells, tied: for every size, row of acts and order the law answers true, and its arguments read behind the call as before. The two tables of math/bits that the row lists are as their own text lays them (the card ties them to it); the card speaks of the pruned copy of the project that the seat holds.
-/
import Derived.Test.YtpljldjdemobbaaDoorFrg5
import Derived.Test.YtpljldjdemobbaaDoorBTabs
import Derived.Test.YtpljldjdemobbaaDoorCards
import Derived.Test.YtpljldjdemobbaaDoorTie
import Derived.Deep.DeepHandedRow
import Derived.Lay
namespace Go.Proofs.YtpljldjdemobbaaDoor.tells
open Go.ChangeShapes Go.WideShapes Go.ChangeAt Go.RowKit By
set_option maxRecDepth 20000 in
set_option maxHeartbeats 8000000 in
theorem walk (x y : Int) {ao : Option Addr} {len cap : Nat} {w : World} (hlen : len ≤ maxLen) (hA : IsFActs w ao len) (hT : Tab w) : Calls Tryd.prog 3 #[.int .i64 x, .slice ao len cap, .int .i64 y] w fun e w' => e = .returned (.bool true) ∧ Kept [] w w' := by
  obtain ⟨K, hK, hx⟩ := mod_raw x 9 (by decide)
  have HA := hide hA
  have T := hide hT
  have HL := hide hlen
  have HX := hide hx
  have en : ∀ (C : Array Value) (w : World), C = ordC (fun _ => 0) → (Op.equalIn 10000 28 (.agg C) (.agg #[.int .i64 0, .int .i64 0, .int .i64 0, .int .i64 0, .int .i64 0, .int .i64 0, .int .i64 0, .int .i64 0, .int .i64 0, .int .i64 0, .int .i64 0])).run Tryd.prog w = .ok true w := fun C w h => eqA11 C _ (fun _ => 0) h rfl w
  have e0 := en (ordC (fun _ => 0)) 
  have EN := hide (fun w => e0 w rfl)
  clear hT hA hx hlen en e0
  go_enter Tryd.func3, Tryd.ntmps3
  go_wp2_with fail
  refine (index_no (f := 0) (free_nil _) (.inr rfl)).mono ?_
  rintro e w' ⟨rfl, hw⟩
  subst w'
  go_wp2_with fail
  refine (frags_true T.out).mono ?_
  rintro e w1 ⟨rfl, hk1⟩
  have K1 := hide hk1
  have T1 := hide (T.out.kept hk1 (by simp))
  clear hk1 T
  go_wp2_with fail
  refine (largest_any (orders_nil _)).mono ?_
  rintro e w2 ⟨rfl, hk2⟩
  have eb : best (fun _ => 0) 11 = -1 := by simp [best]
  rw [eb]
  have K2 := hide (K1.out.next hk2)
  have T2 := hide (T1.out.kept hk2 (by simp))
  clear hk2 T1 K1
  go_wp2_with fail
  refine (fits_any (T := fun _ => 0) (fun _ _ => by decide) (orders_nil _) 0 (by decide) rfl).mono ?_
  rintro e w3 ⟨rfl, hk3⟩
  have ef : fits (fun _ => 0) 0 (11 - 0) = 0 := by simp [fits]
  rw [ef]
  have K3 := hide (K2.out.next hk3)
  have T3 := hide (T2.out.kept hk3 (by simp))
  clear hk3 T2 K2
  go_wp2_with fail
  refine (orders_nil _).mono ?_
  rintro e w4 ⟨rfl, hk4⟩
  have K4 := hide (K3.out.next hk4)
  have T4 := hide (T3.out.kept hk4 (by simp))
  clear hk4 T3 K3
  have EN4 := EN.out
  have hx := HX.out
  go_wp2_with fail
  refine (both_ok (2 ^ K) K (by omega) rfl HL.out (HA.out.kept K4.out) T4.out (shl1 (by omega))).mono ?_
  rintro e w5 ⟨p, r, rfl, hT5⟩
  obtain ⟨ub, base, u, tk, F, tv, t, hB, hR, hout, hk5⟩ := hT5.parts
  have hf2 : cnt (2 ^ K) u ≤ 2 ^ K := cnt_le u (2 ^ K)
  have B5 := hide hB
  have R5 := hide hR
  have HO := hide hout
  have H2 := hide (n1024 (show K ≤ 10 by omega))
  have K5 := hide (K4.out.next hk5)
  clear hB hR hout hk5 hT5 K4 T4 HA HL hx HX EN4
  go_wp2_with fail
  refine (rorders_ok R5.out H2.out HO.out).mono ?_
  rintro e w6 ⟨rfl, hk6⟩
  have K6 := hide (K5.out.next hk6)
  have B6 := hide (B5.out.kept0 hk6)
  have R6 := hide (R5.out.kept0 hk6)
  clear hk6 K5 B5 R5
  obtain ⟨T, hTE⟩ : ∃ T, T = tops u := ⟨_, rfl⟩
  rw [← hTE]
  have HTE := hide hTE
  clear hTE
  unfold ordC
  go_wp2_with fail
  have hR := hide (show World.rowIs (w6.alloc (.cells #[.int .i64 (T 0 : Nat), .int .i64 (T 1 : Nat), .int .i64 (T 2 : Nat), .int .i64 (T 3 : Nat), .int .i64 (T 4 : Nat), .int .i64 (T 5 : Nat), .int .i64 (T 6 : Nat), .int .i64 (T 7 : Nat), .int .i64 (T 8 : Nat), .int .i64 (T 9 : Nat), .int .i64 (T 10 : Nat)] 28)) w6.heap.size 28 11 (fun j => .int .i64 (T j : Nat)) from World.rowIs_alloc w6 _ 28 _ (fun i hi => by
    have hi2 : i < 11 := hi
    rcases (show i = 0 ∨ i = 1 ∨ i = 2 ∨ i = 3 ∨ i = 4 ∨ i = 5 ∨ i = 6 ∨ i = 7 ∨ i = 8 ∨ i = 9 ∨ i = 10 by omega) with e | e | e | e | e | e | e | e | e | e | e <;> (subst e; rfl)))
  have ka := (Kept.refl [] w6).alloc (.cells #[.int .i64 (T 0 : Nat), .int .i64 (T 1 : Nat), .int .i64 (T 2 : Nat), .int .i64 (T 3 : Nat), .int .i64 (T 4 : Nat), .int .i64 (T 5 : Nat), .int .i64 (T 6 : Nat), .int .i64 (T 7 : Nat), .int .i64 (T 8 : Nat), .int .i64 (T 9 : Nat), .int .i64 (T 10 : Nat)] 28)
  have K7 := hide (K6.out.next ka)
  have B7 := hide (B6.out.kept0 ka)
  have R7 := hide (R6.out.kept0 ka)
  clear ka K6 B6 R6
  generalize (w6.alloc (.cells #[.int .i64 (T 0 : Nat), .int .i64 (T 1 : Nat), .int .i64 (T 2 : Nat), .int .i64 (T 3 : Nat), .int .i64 (T 4 : Nat), .int .i64 (T 5 : Nat), .int .i64 (T 6 : Nat), .int .i64 (T 7 : Nat), .int .i64 (T 8 : Nat), .int .i64 (T 9 : Nat), .int .i64 (T 10 : Nat)] 28)) = w7 at hR K7 B7 R7 ⊢
  go_loop [12, 13] (fun b i => ∃ k : Nat, k ≤ 11 ∧ i = .int .i64 k ∧ b = .int .i64 (best T k)) (fun _ i => 11 - (intOf i).toNat)
  case atStart => exact ⟨0, by omega, rfl, rfl⟩
  case round =>
    obtain ⟨k, hk, rfl, rfl⟩ := hrel
    by_cases h2 : k < 11
    · have hc := hR.out.cell h2
      have hki : (k : Int) ≤ 10 := by omega
      have hk0 : (0 : Int) ≤ (k : Int) := by omega
      have hk11 : (k : Int) < 11 := by omega
      have hB := hide (show best T (k + 1) = if 0 < T k then (k : Int) else best T k from rfl)
      by_cases h3 : 0 < T k
      · have h4 : (0 : Int) < (T k : Nat) := by omega
        have e := hB.out
        rw [if_pos h3] at e
        clear hB
        go_wp2
        go_round
        case rel => exact ⟨k + 1, by omega, by go_num, by rw [e]⟩
        case measure => simp [intOf]; omega
      · have h4 : ¬ (0 : Int) < (T k : Nat) := by omega
        have e := hB.out
        rw [if_neg h3] at e
        clear hB
        go_wp2
        go_round
        case rel => exact ⟨k + 1, by omega, by go_num, by rw [e]⟩
        case measure => simp [intOf]; omega
    · have hk11 : k = 11 := by omega
      subst hk11
      have hki : ¬ ((11 : Nat) : Int) ≤ 10 := by omega
      have ft : ∃ (z : Int) (ok : Bool), (Calls Tryd.prog 8 #[.pointer (some ⟨p, 0, none⟩), .int .i64 y] w7 fun e w' => e = .returned (.tuple #[.int .i64 z, .bool ok]) ∧ Kept [] w7 w') ∧ ∀ w8, Kept [] w7 w8 → Calls Tryd.prog 15 #[.pointer (some ⟨r, 0, none⟩), .int .i64 y] w8 fun e w' => e = .returned (.tuple #[.int .i64 z, .bool ok]) ∧ Kept [] w8 w' := by
        by_cases hy : (0 ≤ y ∧ y ≤ 10) ∧ cnt (2 ^ K) u ≠ 0
        · obtain ⟨o, rfl⟩ := Int.eq_ofNat_of_zero_le hy.1.1
          have ho : o ≤ 10 := by omega
          refine ⟨(tsum u o * 1000 / cnt (2 ^ K) u : Nat), true, index_ok B7.out o ho hy.2 rfl, fun w8 hk8 => ?_⟩
          rw [Nat.mul_comm (tsum u o)]
          have hsl : ∀ k, k ≤ 11 → tsum u k ≤ 4194304 := fun k hk => by
            have := B7.out.tsum
            have h1 := tsum_mono u (a := k) (11 - k)
            rw [show k + (11 - k) = 11 by omega] at h1
            have h2 := B7.out.fle
            omega
          exact rindex_any rfl o ho _ hy.2 (tsum u) rfl (fun k _ => tsum_succ u k) (fun k hk => B7.out.tops_le (by omega)) hsl (fun wr hkr => rcount_ok (R7.out.kept0 (hk8.next hkr)) H2.out) (fun wr hkr => rorders_ok (R7.out.kept0 (hk8.next hkr)) H2.out HO.out) rfl
        · refine ⟨0, false, ?_, fun w8 hk8 => ?_⟩
          · refine (index_no (bs_free B7.out) (by
              by_cases h1 : 0 ≤ y ∧ y ≤ 10
              · exact .inr (Classical.byContradiction fun h2 => hy ⟨h1, h2⟩)
              · exact .inl h1)).mono ?_
            rintro e w' ⟨rfl, rfl⟩
            exact ⟨rfl, Kept.refl _ _⟩
          · exact rindex_no rfl (rcount_ok (R7.out.kept0 hk8) H2.out) (by
              by_cases h1 : 0 ≤ y ∧ y ≤ 10
              · exact .inr (Classical.byContradiction fun h2 => hy ⟨h1, h2⟩)
              · exact .inl h1)
      obtain ⟨z, ok, hI, hJ⟩ := ft
      have HI := hide hI
      have HJ := hide hJ
      clear hI hJ
      go_wp2_with fail
      refine HI.out.mono ?_
      rintro e w8 ⟨rfl, hk8⟩
      have R8 := hide (hk8.row hR.out (by simp))
      have K8 := hide (K7.out.next hk8)
      have B8 := hide (B7.out.kept0 hk8)
      have RR8 := hide (R7.out.kept0 hk8)
      have HJ8 := hide (HJ.out w8 hk8)
      clear hk8 K7 B7 R7 hR HI HJ
      go_wp2_with fail
      refine HJ8.out.mono ?_
      rintro e w9 ⟨rfl, hk9⟩
      have R9 := hide (hk9.row R8.out (by simp))
      have K9 := hide (K8.out.next hk9)
      have B9 := hide (B8.out.kept0 hk9)
      have RR9 := hide (RR8.out.kept0 hk9)
      clear hk9 K8 B8 RR8 R8 HJ8
      have hq : ∀ w, (Op.equalIn 10000 28 (.agg (ordC (tops u))) (.agg (ordC T))).run Tryd.prog w = .ok true w := fun w => eqA11 _ _ T (by rw [HTE.out]) rfl w
      have rg : ∀ wq : World, wq.rowIs w6.heap.size 28 11 (fun j => .int .i64 (T j : Nat)) → wq.rangeAt w6.heap.size 0 (ordC T).toList := fun wq hq j v hv => by
        have hj : j < 11 := (List.getElem?_eq_some_iff.1 hv).1
        rw [Array.getElem?_toList, ordC_get T j hj] at hv
        rw [Nat.zero_add, hq.cell hj]; exact hv
      have RG := hide rg
      have rg9 := rg w9 R9.out
      have hu28 : Tryd.prog.underlying 28 = some (.array 11 3) := Tryd.underlying28
      have hi28 : (Tryd.prog.info? 28).map (·.size) = some (ordC T).toList.length := by kernel_rfl
      clear rg
      go_wp2_with fail
      go_region_held3 (fun w' => w'.rangeAt w6.heap.size 0 (ordC T).toList) (first | assumption | simpa using rg9) (first
        | (go_at_call 12; refine (orders_ok (B9.out.kept0 (by first | exact Kept.refl [] _ | exact (Kept.refl [] _).drew | exact (Kept.refl [] _).drewN _))).mono ?_; rintro e w10 ⟨rfl, hk10⟩; have hk10 : Kept [] w9 w10 := ⟨hk10.os, hk10.tape, hk10.output, hk10.size, hk10.block⟩; have R10 := hide (hk10.row R9.out (by simp)); have K10 := hide (K9.out.next hk10); have B10 := hide (B9.out.kept0 hk10); have RR10 := hide (RR9.out.kept0 hk10); clear hk10; have rg10 := RG.out _ R10.out)
        | (go_at_call 10; refine (largest_any (orders_ok (B10.out.kept0 (by first | exact Kept.refl [] _ | exact (Kept.refl [] _).drew | exact (Kept.refl [] _).drewN _)))).mono ?_; rintro e w11 ⟨rfl, hk11⟩; have hk11 : Kept [] w10 w11 := ⟨hk11.os, hk11.tape, hk11.output, hk11.size, hk11.block⟩; rw [← HTE.out]; have R11 := hide (hk11.row R10.out (by simp)); have B11 := hide (B10.out.kept0 hk11); have RR11 := hide (RR10.out.kept0 hk11); have K11 := hide (K10.out.next hk11); clear hk11; have rg11 := RG.out _ R11.out)
        | (go_at_call 16; refine (bs_free (B11.out.kept0 (by first | exact Kept.refl [] _ | exact (Kept.refl [] _).drew | exact (Kept.refl [] _).drewN _))).mono ?_; rintro e w12 ⟨rfl, hw12⟩; subst w12)
        | (go_at_call 17; refine (rcount_ok (RR11.out.kept0 (by first | exact Kept.refl [] _ | exact (Kept.refl [] _).drew | exact (Kept.refl [] _).drewN _)) H2.out).mono ?_; rintro e w13 ⟨rfl, hk13⟩; have hk13 : Kept [] w11 w13 := ⟨hk13.os, hk13.tape, hk13.output, hk13.size, hk13.block⟩; have K13 := hide (K11.out.next hk13); have R13 := hide (hk13.row R11.out (by simp)); clear hk13; have rg13 := RG.out _ R13.out))
      go_wp2_with fail
      go_ret
      exact ⟨rfl, by first | exact K13.out | exact K13.out.drew | exact K13.out.drewN _⟩

theorem own : ownKnob Tryd.prog.godebug = none := by kernel_rfl
theorem laidOut : laidOutB Tryd.prog = true := by kernel_rfl

set_option maxRecDepth 100000 in
theorem contract (H : Type) (enc : TypeId × Value → H) (W : World) (base : Nat) (args : Array Value) (ds gs : List (DataW H)) (before : List MemPlace)
    (hval : ∀ (j : Nat) t v, Tryd.f3.params[j]? = some t → args[j]? = some v → Value.okWide Tryd.prog W .any base t v)
    (hW : DataW.Whole enc Tryd.prog Tryd.f3.params.toList Rows.fragTellsSpec.vars false W args.toList ds gs before) (_hsh : W.ShapedOpen Tryd.prog) (hlaid : laidMetH Tryd.prog Rows.fragTellsRow.laid W) :
    Calls Tryd.prog 3 args W fun e W' => ∃ v, e = .returned v ∧ Rows.fragTellsSpec.post enc Tryd.prog Tryd.f3 false true false false W args v W' := by
  have hW' := hW
  obtain ⟨p, q, hA0, hV, rfl, hfz, hnd⟩ := hW
  have hA : DataW.TrodAll enc Tryd.prog W 0 (fun _ => true) true Tryd.f3.params.toList args.toList ds p := hA0
  have hK := hA
  rw [Tryd.params3] at hA hval
  obtain ⟨v0, vs0, d0, ds0, p0, q0, hargs, rfl, rfl, h0, r0⟩ := trodAll_cons hA
  obtain ⟨v1, vs1, d1, ds1, p1, q1, rfl, rfl, rfl, h1, r1⟩ := trodAll_cons r0
  obtain ⟨v2, vs2, d2, ds2, p2, q2, rfl, rfl, rfl, h2, r2⟩ := trodAll_cons r1
  obtain ⟨rfl, rfl, rfl⟩ := trodAll_nil r2
  obtain rfl : args = #[v0, v1, v2] := by cases args; simp_all
  obtain ⟨rfl, rfl⟩ := trodVars_none hV
  obtain ⟨x, rfl, rfl, rfl, w0⟩ := open_int Tryd.underlying3 (hval 0 3 v0 rfl rfl) h0
  obtain ⟨a1, len1, cap1, rfl, hl1, hT1⟩ := open_facts (okWide_slice Tryd.underlying22 (hval 1 22 v1 rfl rfl)) h1
  obtain ⟨y, rfl, rfl, rfl, w2⟩ := open_int Tryd.underlying3 (hval 2 3 v2 rfl rfl) h2
  have hTab : By.Tab W := By.tab_of_laid hlaid
  clear hA0
  refine (walk x y hl1 hT1 hTab).mono fun e W' ⟨he, hk⟩ => ?_
  subst he
  exact ⟨_, rfl, _, _, _, [], _, [], hW', trodAll_mk1 (shut_bool Tryd.underlying4 _), trodAll_below laidOut hk.below _ _ _ _ hK (by kernel_rfl), rfl, hk.below.frame _, fun h => by cases h⟩

set_option maxRecDepth 100000 in
theorem laid_met (os : Os) : laidMet Tryd.prog Rows.fragTellsRow.laid ((World.laidAll Tryd.prog os Rows.fragTellsRow.laid).forCall (fun _ _ => 0) ⟨#[], #[.int .i64 0, .slice none 0 0, .int .i64 0], []⟩).memory :=
  laidMet_laidAll _ (by kernel_rfl) (by kernel_rfl)
set_option maxRecDepth 100000 in
theorem reads (os : Os) {H : Type} (enc : TypeId × Value → H) : ∃ places, DataW.whole enc Tryd.prog ((World.laidAll Tryd.prog os Rows.fragTellsRow.laid).forCall (fun _ _ => 0) ⟨#[], #[.int .i64 0, .slice none 0 0, .int .i64 0], []⟩).memory Tryd.f3.params.toList Rows.fragTellsSpec.vars false (#[.int .i64 0, .slice none 0 0, .int .i64 0] : Array Value).toList 8 = some ([.lit (.int .i64 0), .nil, .lit (.int .i64 0)], [], places) :=
  ⟨[], by kernel_rfl⟩

set_option maxRecDepth 100000 in
theorem lifted (os : Os) (started : os.Started) (H : Type) (enc : TypeId × Value → H) (F : Stop.Interp) :
    ReturnsInHanded {} Tryd.checked os 3 .any ((OpenSpec.ofChange Rows.fragTellsSpec).preRow enc Tryd.prog Tryd.f3 Rows.fragTellsRow.domain false Rows.fragTellsRow.laid) (((OpenSpec.ofChange Rows.fragTellsSpec).at F).post enc Tryd.prog Tryd.f3 false true false false) := by
  obtain ⟨places, hx⟩ := reads os enc
  refine returnsInHanded_of_row (C := Tryd.checked) (s := OpenSpec.ofChange Rows.fragTellsSpec) own started (by kernel_rfl) Tryd.func3
    (witness_row_at (enc := enc) (C := Tryd.checked) false (World.laidAll Tryd.prog os Rows.fragTellsRow.laid) #[.int .i64 0, .slice none 0 0, .int .i64 0] (World.laidAll_os _ _ _) (by kernel_rfl) (by kernel_rfl) (by kernel_rfl)
      (OpenSpec.preRow_of_cond 8 hx (by kernel_rfl) (fun k hk => by cases hk) (by kernel_rfl) (laid_met os))) ?_
  intro W base args ds gs before hval hW _ _ _ hlaid hsh _
  exact contract H enc W base args ds gs before hval hW hsh hlaid

theorem said : Rows.FragTellsSaid :=
  OpenClaim.holds_of_cond 3 Tryd.f3 rfl rfl rfl rfl rfl rfl rfl ⟨rfl, rfl, rfl, rfl, rfl⟩ rfl rfl rfl rfl rfl (by kernel_rfl) Tryd.func3 (by kernel_rfl)
    (of_decide_eq_true (by kernel_rfl)) (by unfold Func.isWrapper; first | (rw [if_pos (by decide +kernel)]; kernel_rfl) | (rw [if_neg (by decide +kernel)]; exact ⟨rfl, rfl⟩))
    (fun os started H enc _ F => by rw [OpenClaim.pre_eq_preRow]; exact lifted os started H enc F)

theorem plain (f : FuncId) (fn : Func) (hf : Tryd.pinned.checked.prog.funcNamed Tryd.f3.name = some f) (hfn : Tryd.pinned.checked.prog.funcs[f]? = some fn) :
    false = Tryd.pinned.checked.prog.looks [] ∧ ∀ (j : Nat) t, fn.params[j]? = some t → Tryd.pinned.checked.prog.wantsStandIn t = false := by
  obtain rfl : f = 3 := Option.some.inj ((show Tryd.prog.funcNamed Tryd.f3.name = some 3 by kernel_rfl).symm.trans hf) |>.symm
  obtain rfl : fn = Tryd.f3 := (Option.some.inj (Tryd.func3.symm.trans hfn)).symm
  refine ⟨by kernel_rfl, fun j t ht => ?_⟩
  rw [Tryd.params3] at ht
  have hm : t = 3 ∨ t = 22 := by have h9 := Array.mem_of_getElem? ht; simp at h9; first | exact h9 | (rcases h9 with h | h | h <;> simp [h])
  rcases hm with rfl | rfl
  · exact (show Tryd.prog.wantsStandIn 3 = false by kernel_rfl)
  · exact (show Tryd.prog.wantsStandIn 22 = false by kernel_rfl)

theorem card : Rows.FragTellsCardSaid :=
  Claim7.holds_tied_plain_at .later [] _ _ _ _ said (fun _ h => by cases h) (by kernel_rfl) (fun _ h => by cases h) fragTells_row_tie rfl ⟨rfl, rfl⟩ (by kernel_rfl) rfl plain (by kernel_rfl)
end Go.Proofs.YtpljldjdemobbaaDoor.tells
