/-
  FragSums, tied: for every size and row of acts the law answers true, and its arguments read behind the call as before. The two tables of math/bits that the row lists are as their own text lays them (the card ties them to it); the card speaks of the pruned copy of the project that the seat holds.
-/
import Derived.Test.YtpljldjdemobbaaDoorFrg5
import Derived.Test.YtpljldjdemobbaaDoorBTabs
import Derived.Test.YtpljldjdemobbaaDoorCards
import Derived.Test.YtpljldjdemobbaaDoorTie
import Derived.Deep.DeepHandedRow
import Derived.Lay
import Derived.Lib.MinMax
namespace Go.Proofs.YtpljldjdemobbaaDoor.sums
open Go.ChangeShapes Go.WideShapes Go.ChangeAt Go.RowKit By
theorem open_facts2 {H : Type} {enc : TypeId × Value → H} {W : World} {v : Value} {d : DataW H} {p : List MemPlace} (hv : ∃ a len cap, v = .slice a len cap)
    (h : DataW.Trod enc Tryd.prog W 0 (fun _ => true) true 22 v d p) : ∃ a len cap, v = .slice a len cap ∧ len ≤ cap ∧ len ≤ maxLen ∧ IsFActs W a len := by
  obtain ⟨a, len, cap, rfl, hl, hA⟩ := open_facts hv h
  refine ⟨a, len, cap, rfl, ?_, hl, hA⟩
  obtain ⟨fuel, hf⟩ := h
  rcases Deep.open_slice Tryd.underlying22 hf with ⟨hcs, _⟩ | ⟨x, l, c, m, n, D, Pl, hcs, _, hl, hm, hmm, _, hx⟩
  · simp [Value.cells] at hcs
    omega
  · simp [Value.cells] at hcs
    omega
set_option maxRecDepth 20000 in
set_option maxHeartbeats 8000000 in
theorem walk (x : Int) {ao : Option Addr} {len cap : Nat} {w : World} (hcap : len ≤ cap) (hlen : len ≤ maxLen) (hA : IsFActs w ao len) (hT : Tab w) : Calls Tryd.prog 6 #[.int .i64 x, .slice ao len cap] w fun e w' => e = .returned (.bool true) ∧ Kept [] w w' := by
  obtain ⟨K, hK, hx⟩ := mod_raw x 9 (by decide)
  have T := hide hT
  have HA := hide hA
  have HL := hide hlen
  have HSh := hide (shl1 (k := K) (by omega))
  clear hT hlen hA
  go_enter Tryd.func6, Tryd.ntmps6
  go_wp2_with fail
  refine (frags_true T.out).mono ?_
  rintro e w2 ⟨rfl, hk2⟩
  have K2 := hide hk2
  have T2 := hide (T.out.kept hk2 (by simp))
  clear hk2 T2 hx
  go_wp2_with fail
  have i55 : (Tryd.prog.info? 55).map (fun i => (i.zero, i.size, i.bytes)) = some (some (.agg #[.bool false, .int .i64 0, .int .i64 0]), 3, 24) := by kernel_rfl
  have I55 := hide i55
  clear i55
  go_loopw [6] (fun v wr => ∃ n : Nat, v = .int .i64 n ∧ n ≤ 13 ∧ n ≤ len + 1 ∧ Kept [] w wr) (fun v _ => 13 - (intOf v).toNat)
  case atStart => exact ⟨0, rfl, by omega, by omega, K2.out⟩
  case round =>
    obtain ⟨n, rfl, hn13, hnl, hKK⟩ := hrel
    have KK := hide hKK
    have HNL := hide hnl
    clear hKK K2 hnl
    by_cases hi : n ≤ len ∧ n ≤ 12
    · have hii : (n : Int) ≤ min (len : Int) 12 := by omega
      have hn0 : (0 : Int) ≤ (n : Int) := by omega
      have hs1 : ∀ wq, (Instr.slice 22 (.slice ao len cap) none (some (.int .i64 (n : Int))) none).run Tryd.prog wq = .ok (.slice ao n cap) wq := fun wq => run_cutS0 Tryd.underlying22 I55.out _ _ _ _ n rfl (by omega) wq
      have HAn := hide (show IsFActs wr ao n from fun i h => (HA.out.kept KK.out) i (by omega))
      have HLn := hide (show n ≤ maxLen from by have := HL.out; omega)
      go_wp2_with fail
      refine (both_ok (2 ^ K) K (by omega) rfl HLn.out HAn.out (T.out.kept KK.out (by simp)) HSh.out).mono ?_
      rintro e w5 ⟨p, r, rfl, hT5⟩
      obtain ⟨ub, base, u, tk, F, tv, t, hB, hR, hout, hk5⟩ := hT5.parts
      have B5 := hide hB
      have R5 := hide hR
      have H2 := hide (n1024 (show K ≤ 10 by omega))
      have K5 := hide (KK.out.next hk5)
      have HS := hide hB.tsum
      have HTo := hide (fun k (hk : k < 11) => hB.tops_le (j := k) (by omega))
      have hcl : cnt (2 ^ K) u ≤ 1024 := Nat.le_trans (cnt_le u _) H2.out
      have HC := hide hcl
      clear hB hR hout hk5 hT5 HAn HLn KK hcl
      go_wp2_with fail
      refine (orders_ok B5.out).mono ?_
      rintro e w6 ⟨rfl, hk6⟩
      have K6 := hide (K5.out.next hk6)
      have B6 := hide (B5.out.kept0 hk6)
      have R6 := hide (R5.out.kept0 hk6)
      clear hk6 K5 B5 R5
      obtain ⟨T, hTE⟩ : ∃ T, T = tops u := ⟨_, rfl⟩
      rw [← hTE]
      have HTE := hide hTE
      clear hTE
      unfold ordC
      go_wp2_with fail
      have hR := hide (show World.rowIs (w6.alloc (.cells #[.int .i64 (T 0 : Nat), .int .i64 (T 1 : Nat), .int .i64 (T 2 : Nat), .int .i64 (T 3 : Nat), .int .i64 (T 4 : Nat), .int .i64 (T 5 : Nat), .int .i64 (T 6 : Nat), .int .i64 (T 7 : Nat), .int .i64 (T 8 : Nat), .int .i64 (T 9 : Nat), .int .i64 (T 10 : Nat)] 28)) w6.heap.size 28 11 (fun j => .int .i64 (T j : Nat)) from World.rowIs_alloc w6 _ 28 _ (fun i hi => by
        have hi2 : i < 11 := hi
        rcases (show i = 0 ∨ i = 1 ∨ i = 2 ∨ i = 3 ∨ i = 4 ∨ i = 5 ∨ i = 6 ∨ i = 7 ∨ i = 8 ∨ i = 9 ∨ i = 10 by omega) with e | e | e | e | e | e | e | e | e | e | e <;> (subst e; rfl)))
      have ka := (Kept.refl [] w6).alloc (.cells #[.int .i64 (T 0 : Nat), .int .i64 (T 1 : Nat), .int .i64 (T 2 : Nat), .int .i64 (T 3 : Nat), .int .i64 (T 4 : Nat), .int .i64 (T 5 : Nat), .int .i64 (T 6 : Nat), .int .i64 (T 7 : Nat), .int .i64 (T 8 : Nat), .int .i64 (T 9 : Nat), .int .i64 (T 10 : Nat)] 28)
      have K7 := hide (K6.out.next ka)
      have B7 := hide (B6.out.kept0 ka)
      have R7 := hide (R6.out.kept0 ka)
      clear ka K6 B6 R6
      generalize (w6.alloc (.cells #[.int .i64 (T 0 : Nat), .int .i64 (T 1 : Nat), .int .i64 (T 2 : Nat), .int .i64 (T 3 : Nat), .int .i64 (T 4 : Nat), .int .i64 (T 5 : Nat), .int .i64 (T 6 : Nat), .int .i64 (T 7 : Nat), .int .i64 (T 8 : Nat), .int .i64 (T 9 : Nat), .int .i64 (T 10 : Nat)] 28)) = w7 at hR K7 B7 R7 ⊢
      go_loop [9, 11] (fun s i => ∃ k : Nat, k ≤ 11 ∧ i = .int .i64 k ∧ s = .int .i64 (tsum u k : Nat)) (fun _ i => 11 - (intOf i).toNat)
      case atStart => exact ⟨0, by omega, rfl, rfl⟩
      case round =>
        obtain ⟨k, hk, rfl, rfl⟩ := hrel
        by_cases h2 : k < 11
        · have hc := hR.out.cell h2
          have hki : (k : Int) ≤ 10 := by omega
          have hk0 : (0 : Int) ≤ (k : Int) := by omega
          have hk11 : (k : Int) < 11 := by omega
          have ht := HTo.out k h2
          have hp : 2 ^ k ≤ 2 ^ 10 := Nat.pow_le_pow_right (by decide) (by omega)
          have hq : tops u k * 2 ^ k ≤ 1024 * 2 ^ 10 := Nat.mul_le_mul ht hp
          have hle : tsum u k ≤ 1024 := by
            have h1 := tsum_mono u (a := k) (11 - k)
            rw [show k + (11 - k) = 11 by omega, HS.out] at h1
            have := HC.out
            omega
          have hnx : wrap64 ((tsum u k : Int) + wrap64 ((T k : Int) * 2 ^ k)) = (tsum u (k + 1) : Nat) := by
            have e1 : (T k : Int) * 2 ^ k = ((tops u k * 2 ^ k : Nat) : Int) := by rw [HTE.out]; simp
            rw [e1, IntWalk.wrap64_in ((tops u k * 2 ^ k : Nat) : Int) ⟨by omega, by omega⟩, tsum_succ, IntWalk.wrap64_in _ ⟨by omega, by omega⟩]
            omega
          have HX := hide hnx
          clear hnx hp hq ht hle
          go_wp2
          go_round
          case rel => exact ⟨k + 1, by omega, by go_num, by rw [HX.out]⟩
          case measure => simp [intOf]; omega
        · have hk11 : k = 11 := by omega
          subst hk11
          have hki : ¬ ((11 : Nat) : Int) ≤ 10 := by omega
          rw [HS.out]
          have ef : fits (tops u) 0 (11 - 0) = cnt (2 ^ K) u := by
            have := tsum_fits u 0 11
            rw [Nat.zero_add, HS.out] at this
            simp [tsum] at this
            exact this.symm
          have EF := hide ef
          clear ef
          go_wp2_with (first
            | (go_at_call 17; refine (rcount_ok R7.out H2.out).mono ?_; rintro e w8 ⟨rfl, hk8⟩; have K8 := hide (K7.out.next hk8); have B8 := hide (B7.out.kept0 hk8); clear hk8)
            | (go_at_call 11; refine (fits_any (fun j hj => B8.out.tops_le (by omega)) (orders_ok B8.out) 0 (by decide) rfl).mono ?_; rintro e w9 ⟨rfl, hk9⟩; rw [EF.out]; have K9 := hide (K8.out.next hk9); clear hk9))
          go_roundw
          case rel => exact ⟨n + 1, by go_num, by omega, by omega, K9.out⟩
          case measure => simp [intOf]; omega
    · have hii : ¬ (n : Int) ≤ min (len : Int) 12 := by omega
      go_wp2_with fail
      go_ret
      exact ⟨rfl, KK.out⟩

theorem own : ownKnob Tryd.prog.godebug = none := by kernel_rfl
theorem laidOut : laidOutB Tryd.prog = true := by kernel_rfl

set_option maxRecDepth 100000 in
theorem contract (H : Type) (enc : TypeId × Value → H) (W : World) (base : Nat) (args : Array Value) (ds gs : List (DataW H)) (before : List MemPlace)
    (hval : ∀ (j : Nat) t v, Tryd.f6.params[j]? = some t → args[j]? = some v → Value.okWide Tryd.prog W .any base t v)
    (hW : DataW.Whole enc Tryd.prog Tryd.f6.params.toList Rows.fragSumsSpec.vars false W args.toList ds gs before) (_hsh : W.ShapedOpen Tryd.prog) (hlaid : laidMetH Tryd.prog Rows.fragSumsRow.laid W) :
    Calls Tryd.prog 6 args W fun e W' => ∃ v, e = .returned v ∧ Rows.fragSumsSpec.post enc Tryd.prog Tryd.f6 false true false false W args v W' := by
  have hW' := hW
  obtain ⟨p, q, hA0, hV, rfl, hfz, hnd⟩ := hW
  have hA : DataW.TrodAll enc Tryd.prog W 0 (fun _ => true) true Tryd.f6.params.toList args.toList ds p := hA0
  have hK := hA
  rw [Tryd.params6] at hA hval
  obtain ⟨v0, vs0, d0, ds0, p0, q0, hargs, rfl, rfl, h0, r0⟩ := trodAll_cons hA
  obtain ⟨v1, vs1, d1, ds1, p1, q1, rfl, rfl, rfl, h1, r1⟩ := trodAll_cons r0
  obtain ⟨rfl, rfl, rfl⟩ := trodAll_nil r1
  obtain rfl : args = #[v0, v1] := by cases args; simp_all
  obtain ⟨rfl, rfl⟩ := trodVars_none hV
  obtain ⟨x, rfl, rfl, rfl, w0⟩ := open_int Tryd.underlying3 (hval 0 3 v0 rfl rfl) h0
  obtain ⟨a1, len1, cap1, rfl, hc1, hl1, hT1⟩ := open_facts2 (okWide_slice Tryd.underlying22 (hval 1 22 v1 rfl rfl)) h1
  have hTab : By.Tab W := By.tab_of_laid hlaid
  clear hA0
  refine (walk x hc1 hl1 hT1 hTab).mono fun e W' ⟨he, hk⟩ => ?_
  subst he
  exact ⟨_, rfl, _, _, _, [], _, [], hW', trodAll_mk1 (shut_bool Tryd.underlying4 _), trodAll_below laidOut hk.below _ _ _ _ hK (by kernel_rfl), rfl, hk.below.frame _, fun h => by cases h⟩

set_option maxRecDepth 100000 in
theorem laid_met (os : Os) : laidMet Tryd.prog Rows.fragSumsRow.laid ((World.laidAll Tryd.prog os Rows.fragSumsRow.laid).forCall (fun _ _ => 0) ⟨#[], #[.int .i64 0, .slice none 0 0], []⟩).memory :=
  laidMet_laidAll _ (by kernel_rfl) (by kernel_rfl)
set_option maxRecDepth 100000 in
theorem reads (os : Os) {H : Type} (enc : TypeId × Value → H) : ∃ places, DataW.whole enc Tryd.prog ((World.laidAll Tryd.prog os Rows.fragSumsRow.laid).forCall (fun _ _ => 0) ⟨#[], #[.int .i64 0, .slice none 0 0], []⟩).memory Tryd.f6.params.toList Rows.fragSumsSpec.vars false (#[.int .i64 0, .slice none 0 0] : Array Value).toList 8 = some ([.lit (.int .i64 0), .nil], [], places) :=
  ⟨[], by kernel_rfl⟩

set_option maxRecDepth 100000 in
theorem lifted (os : Os) (started : os.Started) (H : Type) (enc : TypeId × Value → H) (F : Stop.Interp) :
    ReturnsInHanded {} Tryd.checked os 6 .any ((OpenSpec.ofChange Rows.fragSumsSpec).preRow enc Tryd.prog Tryd.f6 Rows.fragSumsRow.domain false Rows.fragSumsRow.laid) (((OpenSpec.ofChange Rows.fragSumsSpec).at F).post enc Tryd.prog Tryd.f6 false true false false) := by
  obtain ⟨places, hx⟩ := reads os enc
  refine returnsInHanded_of_row (C := Tryd.checked) (s := OpenSpec.ofChange Rows.fragSumsSpec) own started (by kernel_rfl) Tryd.func6
    (witness_row_at (enc := enc) (C := Tryd.checked) false (World.laidAll Tryd.prog os Rows.fragSumsRow.laid) #[.int .i64 0, .slice none 0 0] (World.laidAll_os _ _ _) (by kernel_rfl) (by kernel_rfl) (by kernel_rfl)
      (OpenSpec.preRow_of_cond 8 hx (by kernel_rfl) (fun k hk => by cases hk) (by kernel_rfl) (laid_met os))) ?_
  intro W base args ds gs before hval hW _ _ _ hlaid hsh _
  exact contract H enc W base args ds gs before hval hW hsh hlaid

theorem said : Rows.FragSumsSaid :=
  OpenClaim.holds_of_cond 6 Tryd.f6 rfl rfl rfl rfl rfl rfl rfl ⟨rfl, rfl, rfl, rfl, rfl⟩ rfl rfl rfl rfl rfl (by kernel_rfl) Tryd.func6 (by kernel_rfl)
    (of_decide_eq_true (by kernel_rfl)) (by unfold Func.isWrapper; first | (rw [if_pos (by decide +kernel)]; kernel_rfl) | (rw [if_neg (by decide +kernel)]; exact ⟨rfl, rfl⟩))
    (fun os started H enc _ F => by rw [OpenClaim.pre_eq_preRow]; exact lifted os started H enc F)

theorem plain (f : FuncId) (fn : Func) (hf : Tryd.pinned.checked.prog.funcNamed Tryd.f6.name = some f) (hfn : Tryd.pinned.checked.prog.funcs[f]? = some fn) :
    false = Tryd.pinned.checked.prog.looks [] ∧ ∀ (j : Nat) t, fn.params[j]? = some t → Tryd.pinned.checked.prog.wantsStandIn t = false := by
  obtain rfl : f = 6 := Option.some.inj ((show Tryd.prog.funcNamed Tryd.f6.name = some 6 by kernel_rfl).symm.trans hf) |>.symm
  obtain rfl : fn = Tryd.f6 := (Option.some.inj (Tryd.func6.symm.trans hfn)).symm
  refine ⟨by kernel_rfl, fun j t ht => ?_⟩
  rw [Tryd.params6] at ht
  have hm : t = 3 ∨ t = 22 := by have h9 := Array.mem_of_getElem? ht; simp at h9; first | exact h9 | (rcases h9 with h | h | h <;> simp [h])
  rcases hm with rfl | rfl
  · exact (show Tryd.prog.wantsStandIn 3 = false by kernel_rfl)
  · exact (show Tryd.prog.wantsStandIn 22 = false by kernel_rfl)

theorem card : Rows.FragSumsCardSaid :=
  Claim7.holds_tied_plain_at .later [] _ _ _ _ said (fun _ h => by cases h) (by kernel_rfl) (fun _ h => by cases h) fragSums_row_tie rfl ⟨rfl, rfl⟩ (by kernel_rfl) rfl plain (by kernel_rfl)
end Go.Proofs.YtpljldjdemobbaaDoor.sums
