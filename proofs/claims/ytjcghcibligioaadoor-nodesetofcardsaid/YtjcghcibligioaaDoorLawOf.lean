/-
  NodesetOf, tied: for every list of numbers and every number the law answers true, and its arguments read behind the call as before. The three tables of Go's library that the row lists are as their own text lays them (the given tie).
-/
import Derived.Test.YtjcghcibligioaaDoorSets
import Derived.Test.YtjcghcibligioaaDoorHeap3
import Derived.Test.YtjcghcibligioaaDoorCards
import Derived.Test.YtjcghcibligioaaDoorTie
import Derived.Deep.DeepHandedRow
import Derived.Lay
namespace Go.Proofs.YtjcghcibligioaaDoor.nof
open Go.ChangeShapes Go.WideShapes Go.ChangeAt Go.RowKit ND

theorem all_count : ∀ k, k ≤ 8 → Lib.onesCount (run 0 k) = k := by decide
theorem all_has : ∀ k, k < 8 → hasB (run 0 (k + 1)) (k : Int) = true := by decide
def Good (x : Int) : Prop := 0 ≤ x ∧ x < 8
theorem first_bad (z : Nat → Int) (k : Nat) : (∀ i, i < k → Good (z i)) ∨ ∃ j, j < k ∧ (∀ i, i < j → Good (z i)) ∧ ¬ Good (z j) := by
  induction k with
  | zero => exact .inl (fun i hi => absurd hi (Nat.not_lt_zero _))
  | succ k ih =>
    rcases ih with h | ⟨j, hj, h1, h2⟩
    · by_cases hg : Good (z k)
      · exact .inl (fun i hi => if e : i = k then e ▸ hg else h i (by omega))
      · exact .inr ⟨k, by omega, h, hg⟩
    · exact .inr ⟨j, by omega, h1, h2⟩

theorem own_isInts {w : World} {base : Nat} {e : TypeId} {v : Value} {n : Nat} {z : Nat → Int} (h : w.ownsRow base e 1 v n ((List.range n).map (fun i => Value.int .i64 (z i)))) (hw : ∀ i, i < n → (Lit.int .i64 (z i)).wf = true) :
    ∃ ao cap, v = .slice ao n cap ∧ IsInts .i64 w ao n z := by
  obtain ⟨ao, cap, rfl, -, hc⟩ := own_form h
  refine ⟨ao, cap, rfl, fun i hi => ?_⟩
  obtain ⟨g, rfl, -, hg⟩ := hc i (.int .i64 (z i)) (by simp [hi])
  exact ⟨g, 0, rfl, by rw [Nat.zero_add]; exact hg, hw i hi⟩

set_option maxRecDepth 100000 in
set_option maxHeartbeats 2000000 in
theorem walk_ok (ao : Option Addr) (len cap : Nat) (z : Nat → Int) (n : Int) (w : World) (hlen : len ≤ cap) (hcap : cap ≤ maxLen) (hnil : ao = none → cap = 0) (hT : IsInts .i64 w ao len z) (k : Nat) (hk : min (len : Int) 20 = k) (hz : ∀ i, i < k → Good (z i)) :
    Calls Tryd.prog 4 #[.slice ao len cap, .int .i64 n] w fun e w' => e = .returned (.bool true) ∧ Kept [] w w' := by
  obtain ⟨i0, hi, hz0, hz1, hz2⟩ := info_parts info3
  unfold maxLen at hcap
  have hk1 : k ≤ len := by omega
  have hk2 : k ≤ 20 := by omega
  have hcut := run_cut0 Tryd.underlying23 info3 ao len cap .i64 k hk (by omega)
  have HZ := hide hz
  have hT2 := hT.kept ((Kept.refl [] w).alloc (.cells #[] 3))
  have HN := hide (hT2.news hk1)
  have HW := hide (show ∀ i, i < k → (Lit.int .i64 (z i)).wf = true from fun i hi => by obtain ⟨_, _, _, _, h⟩ := hT i (by omega); exact h)
  have HL := hide hnil
  have HKK := hide hk
  clear hz hT hT2 hnil hk
  rcases (show n < 0 ∨ 8 < n ∨ (0 ≤ n ∧ n ≤ 0) ∨ (0 < n ∧ n ≤ 8) from by omega) with hn | hn | ⟨hn, hn'⟩ | ⟨hn, hn'⟩
  all_goals
    go_enter Tryd.func4, Tryd.ntmps4
    go_wp2_with (at_builtin; refine wpList_append_any (by rfl) _ _ 23 (by rfl) w.heap.size 3 i0 (.int .i64 0) 8 Tryd.underlying23 hi hz0 hz1 hz2 rfl _ _ _ (by rfl) (World.ownsRow_made w #[] 0 (Nat.le_refl _) (by decide) rfl) ao k cap ((List.range k).map (fun i => Value.int .i64 (z i))) (by rfl) (by simp) (fun h => by have := HL.out h; omega) HN.out (by intro u hu; simp at hu; obtain ⟨x, _, rfl⟩ := hu; rfl) (by unfold maxLen; omega) (by omega) (by simp) ?_)
    intro v' w1 hown hgrow
    have hK1 : Kept [] w w1 := own_grown (World.ownsRow_made (e := 3) (size := 1) w #[] 0 (Nat.le_refl _) (by decide) rfl) hgrow w ((Kept.refl [] w).alloc (.cells #[] 3)) (Nat.le_refl _)
    obtain ⟨ao', cap', hv', hI⟩ := own_isInts hown HW.out
    subst hv'
    have II := hide hI
    have K1 := hide hK1
    clear hown hgrow hI hK1 hcut
    go_wp2_with fail
    refine (of_ok (by unfold maxLen; omega) (by exact II.out) (by exact HZ.out)).mono ?_
    rintro e w' ⟨rfl, hw⟩
    subst w'
    go_wp2_with fail
    first
      | (refine (all_bad (by omega) _).mono ?_)
      | (refine (all_ok n.toNat (by omega) (by omega) _).mono ?_)
    rintro e w' ⟨rfl, hw⟩
    subst w'
    go_wp2_with fail
    refine (sets_true _).mono ?_
    rintro e w2 ⟨rfl, k2⟩
    have K2 := hide (K1.out.next k2)
    have I2 := hide (II.out.kept k2)
    clear k2
    obtain ⟨nn, hnn⟩ : ∃ nn : Nat, nn = n.toNat := ⟨_, rfl⟩
    try rw [← hnn]
    have hn1 : (nn : Int) ≤ n ∨ n < 0 := by omega
    have hn2 : n ≤ (nn : Int) := by omega
    clear hnn
    go_wp2_with (first
      | (go_at_call 18; refine (count_any _ (run_lt 0 nn (by omega)) _).mono ?_; rintro e w' ⟨rfl, hw⟩; subst w'; rw [all_count nn (by omega)])
      | (go_at_call 19; refine (has_any _ _ (run_lt 0 nn (by omega)) _).mono ?_; rintro e w' ⟨rfl, hw⟩; subst w'; rw [show hasB (run 0 nn) (n - 1) = true from by obtain ⟨j, rfl⟩ : ∃ j, nn = j + 1 := ⟨nn - 1, by omega⟩; rw [show n - 1 = (j : Int) from by omega]; exact all_has j (by omega)]))
    go_loop [9, 10, 11] (fun t b i => ∃ j : Nat, j ≤ k ∧ i = .int .i64 j ∧ t = .int .u8 (orTo z j) ∧ b = .bool true) (fun _ _ i => k - (intOf i).toNat)
    case atStart => exact ⟨0, by omega, rfl, rfl, rfl⟩
    case round =>
      obtain ⟨j, hj, rfl, rfl, rfl⟩ := hrel
      by_cases hjk : j < k
      · obtain ⟨b, off, hao, hc, -⟩ := I2.out j hjk
        subst hao
        obtain ⟨g0, g1⟩ := HZ.out j hjk
        obtain ⟨x, hx⟩ := Int.eq_ofNat_of_zero_le g0
        rw [hx] at hc
        have hx8 : x < 8 := by omega
        have hnx : orTo z (j + 1) = orTo z j ||| 2 ^ x := by show orTo z j ||| 2 ^ (z j).toNat = _; rw [hx]; simp
        have hof := or_form (orTo z j) x (orTo_lt z j (fun i hi => (HZ.out i (by omega)).2)) hx8
        have HNX := hide hnx
        have HO := hide hof
        clear hx g0 g1 hnx hof
        go_wp2
        go_round
        case rel => exact ⟨j + 1, by omega, by go_num, by rw [HO.out, HNX.out], rfl⟩
        case measure => simp [intOf]; omega
      · have e : j = k := by omega
        subst e
        go_wp2
        go_ret
        exact ⟨rfl, K2.out⟩

set_option maxRecDepth 100000 in
set_option maxHeartbeats 2000000 in
theorem walk_bad (ao : Option Addr) (len cap : Nat) (z : Nat → Int) (n : Int) (w : World) (hlen : len ≤ cap) (hcap : cap ≤ maxLen) (hnil : ao = none → cap = 0) (hT : IsInts .i64 w ao len z) (k : Nat) (hk : min (len : Int) 20 = k) (m : Nat) (hm : m < k) (hz : (∀ i, i < m → Good (z i)) ∧ ¬ Good (z m)) :
    Calls Tryd.prog 4 #[.slice ao len cap, .int .i64 n] w fun e w' => e = .returned (.bool true) ∧ Kept [] w w' := by
  obtain ⟨i0, hi, hz0, hz1, hz2⟩ := info_parts info3
  unfold maxLen at hcap
  have hk1 : k ≤ len := by omega
  have hk2 : k ≤ 20 := by omega
  have hcut := run_cut0 Tryd.underlying23 info3 ao len cap .i64 k hk (by omega)
  have HZ := hide hz
  have hT2 := hT.kept ((Kept.refl [] w).alloc (.cells #[] 3))
  have HN := hide (hT2.news hk1)
  have HW := hide (show ∀ i, i < k → (Lit.int .i64 (z i)).wf = true from fun i hi => by obtain ⟨_, _, _, _, h⟩ := hT i (by omega); exact h)
  have HL := hide hnil
  have HKK := hide hk
  clear hz hT hT2 hnil hk
  rcases (show n < 0 ∨ 8 < n ∨ (0 ≤ n ∧ n ≤ 0) ∨ (0 < n ∧ n ≤ 8) from by omega) with hn | hn | ⟨hn, hn'⟩ | ⟨hn, hn'⟩
  all_goals
    go_enter Tryd.func4, Tryd.ntmps4
    go_wp2_with (at_builtin; refine wpList_append_any (by rfl) _ _ 23 (by rfl) w.heap.size 3 i0 (.int .i64 0) 8 Tryd.underlying23 hi hz0 hz1 hz2 rfl _ _ _ (by rfl) (World.ownsRow_made w #[] 0 (Nat.le_refl _) (by decide) rfl) ao k cap ((List.range k).map (fun i => Value.int .i64 (z i))) (by rfl) (by simp) (fun h => by have := HL.out h; omega) HN.out (by intro u hu; simp at hu; obtain ⟨x, _, rfl⟩ := hu; rfl) (by unfold maxLen; omega) (by omega) (by simp) ?_)
    intro v' w1 hown hgrow
    have hK1 : Kept [] w w1 := own_grown (World.ownsRow_made (e := 3) (size := 1) w #[] 0 (Nat.le_refl _) (by decide) rfl) hgrow w ((Kept.refl [] w).alloc (.cells #[] 3)) (Nat.le_refl _)
    obtain ⟨ao', cap', hv', hI⟩ := own_isInts hown HW.out
    subst hv'
    have II := hide hI
    have K1 := hide hK1
    clear hown hgrow hI hK1 hcut
    go_wp2_with fail
    refine (of_bad (by unfold maxLen; omega) (by exact II.out) hm (by exact HZ.out.1) (by exact HZ.out.2)).mono ?_
    rintro e w' ⟨rfl, hw⟩
    subst w'
    go_wp2_with fail
    first
      | (refine (all_bad (by omega) _).mono ?_)
      | (refine (all_ok n.toNat (by omega) (by omega) _).mono ?_)
    rintro e w' ⟨rfl, hw⟩
    subst w'
    go_wp2_with fail
    refine (sets_true _).mono ?_
    rintro e w2 ⟨rfl, k2⟩
    have K2 := hide (K1.out.next k2)
    have I2 := hide (II.out.kept k2)
    clear k2
    obtain ⟨nn, hnn⟩ : ∃ nn : Nat, nn = n.toNat := ⟨_, rfl⟩
    try rw [← hnn]
    have hn1 : (nn : Int) ≤ n ∨ n < 0 := by omega
    have hn2 : n ≤ (nn : Int) := by omega
    clear hnn
    go_wp2_with (first
      | (go_at_call 18; refine (count_any _ (run_lt 0 nn (by omega)) _).mono ?_; rintro e w' ⟨rfl, hw⟩; subst w'; rw [all_count nn (by omega)])
      | (go_at_call 19; refine (has_any _ _ (run_lt 0 nn (by omega)) _).mono ?_; rintro e w' ⟨rfl, hw⟩; subst w'; rw [show hasB (run 0 nn) (n - 1) = true from by obtain ⟨j, rfl⟩ : ∃ j, nn = j + 1 := ⟨nn - 1, by omega⟩; rw [show n - 1 = (j : Int) from by omega]; exact all_has j (by omega)]))
    go_loop [9, 10, 11] (fun t b i => ∃ (j q : Nat) (r : Bool), j ≤ k ∧ i = .int .i64 j ∧ t = .int .u8 (q : Int) ∧ q < 256 ∧ b = .bool r ∧ (r = true → j ≤ m)) (fun _ _ i => k - (intOf i).toNat)
    case atStart => exact ⟨0, 0, true, by omega, rfl, rfl, by decide, rfl, fun _ => by omega⟩
    case round =>
      obtain ⟨j, q, r, hj, rfl, rfl, hq, rfl, hr⟩ := hrel
      have HR := hide hr
      clear hr
      by_cases hjk : j < k
      · obtain ⟨b, off, hao, hc, -⟩ := I2.out j hjk
        subst hao
        by_cases hg : Good (z j)
        · obtain ⟨x, hx⟩ := Int.eq_ofNat_of_zero_le hg.1
          have hx8 : x < 8 := by have := hg.2; omega
          have hjm : j ≠ m := by intro e; subst e; exact HZ.out.2 hg
          rw [hx] at hc
          have hof := or_form q x hq hx8
          have hlt : q ||| 2 ^ x < 256 := Nat.or_lt_two_pow (n := 8) hq (Nat.pow_lt_pow_right (by decide) hx8)
          have HO := hide hof
          clear hx hg hof
          go_wp2
          go_round
          case rel => exact ⟨j + 1, q ||| 2 ^ x, r, by omega, by go_num, by rw [HO.out], hlt, rfl, fun h => by have := HR.out h; omega⟩
          case measure => simp [intOf]; omega
        · rcases (show z j < 0 ∨ (0 ≤ z j ∧ 7 < z j) from by unfold Good at hg; omega) with h7 | ⟨h7, h8⟩
          all_goals
            clear hg
            go_wp2
            go_round
            case rel => exact ⟨j + 1, q, false, by omega, by go_num, rfl, hq, rfl, (fun h => by cases h)⟩
            case measure => simp [intOf]; omega
      · have e : j = k := by omega
        subst e
        have hrf : r = false := by
          cases r
          · rfl
          · have := HR.out rfl; omega
        subst hrf
        go_wp2
        go_ret
        exact ⟨rfl, K2.out⟩


theorem walk (ao : Option Addr) (len cap : Nat) (z : Nat → Int) (n : Int) (w : World) (hlen : len ≤ cap) (hcap : cap ≤ maxLen) (hnil : ao = none → cap = 0) (hT : IsInts .i64 w ao len z) :
    Calls Tryd.prog 4 #[.slice ao len cap, .int .i64 n] w fun e w' => e = .returned (.bool true) ∧ Kept [] w w' := by
  obtain ⟨k, hk⟩ : ∃ k : Nat, min (len : Int) 20 = k := ⟨min len 20, by omega⟩
  rcases first_bad z k with h | ⟨m, hm, h1, h2⟩
  · exact walk_ok ao len cap z n w hlen hcap hnil hT k hk h
  · exact walk_bad ao len cap z n w hlen hcap hnil hT k hk m hm ⟨h1, h2⟩

theorem own : ownKnob Tryd.prog.godebug = none := by kernel_rfl
theorem laidOut : laidOutB Tryd.prog = true := by kernel_rfl

theorem contract (H : Type) (enc : TypeId × Value → H) (W : World) (base : Nat) (args : Array Value) (ds gs : List (DataW H)) (before : List MemPlace)
    (hval : ∀ (j : Nat) t v, Tryd.f4.params[j]? = some t → args[j]? = some v → Value.okWide Tryd.prog W .any base t v)
    (hW : DataW.Whole enc Tryd.prog Tryd.f4.params.toList Rows.nodesetOfSpec.vars false W args.toList ds gs before) (_hsh : W.ShapedOpen Tryd.prog) :
    Calls Tryd.prog 4 args W fun e W' => ∃ v, e = .returned v ∧ Rows.nodesetOfSpec.post enc Tryd.prog Tryd.f4 false true false false W args v W' := by
  have hW' := hW
  obtain ⟨p, q, hA0, hV, rfl, hfz, hnd⟩ := hW
  have hA : DataW.TrodAll enc Tryd.prog W 0 (fun _ => true) true Tryd.f4.params.toList args.toList ds p := hA0
  have hK := hA
  rw [Tryd.params4] at hA hval
  obtain ⟨v0, vs0, d0, ds0, p0, q0, hargs, rfl, rfl, h0, r0⟩ := trodAll_cons hA
  obtain ⟨v1, vs1, d1, ds1, p1, q1, rfl, rfl, rfl, h1, r1⟩ := trodAll_cons r0
  obtain ⟨rfl, rfl, rfl⟩ := trodAll_nil r1
  obtain rfl : args = #[v0, v1] := by cases args; simp_all
  obtain ⟨rfl, rfl⟩ := trodVars_none hV
  obtain ⟨a0, len0, cap0, z, rfl, hlen, hcap, hnil, hT⟩ := open_list Tryd.underlying23 Tryd.underlying3 (by kernel_rfl) (okWide_slice Tryd.underlying23 (hval 0 23 v0 rfl rfl)) h0
  obtain ⟨n, rfl, rfl, rfl, w1⟩ := open_int Tryd.underlying3 (hval 1 3 v1 rfl rfl) h1
  clear hA0
  refine (walk a0 len0 cap0 z n W hlen hcap hnil hT).mono fun e W' ⟨he, hk⟩ => ?_
  subst he
  exact ⟨_, rfl, _, _, _, [], _, [], hW', trodAll_mk1 (shut_bool Tryd.underlying4 _), trodAll_below laidOut hk.below _ _ _ _ hK (by kernel_rfl), rfl, hk.below.frame _, fun h => by cases h⟩

theorem laid_met (os : Os) : laidMet Tryd.prog Rows.nodesetOfRow.laid ((World.laidAll Tryd.prog os Rows.nodesetOfRow.laid).forCall (fun _ _ => 0) ⟨#[], #[.slice none 0 0, .int .i64 0], []⟩).memory :=
  laidMet_laidAll _ (by kernel_rfl) (by kernel_rfl)
theorem reads (os : Os) {H : Type} (enc : TypeId × Value → H) : ∃ places, DataW.whole enc Tryd.prog ((World.laidAll Tryd.prog os Rows.nodesetOfRow.laid).forCall (fun _ _ => 0) ⟨#[], #[.slice none 0 0, .int .i64 0], []⟩).memory Tryd.f4.params.toList Rows.nodesetOfSpec.vars false (#[.slice none 0 0, .int .i64 0] : Array Value).toList 8 = some ([.nil, .lit (.int .i64 0)], [], places) :=
  ⟨[], by kernel_rfl⟩

set_option maxRecDepth 100000 in
theorem lifted (os : Os) (started : os.Started) (H : Type) (enc : TypeId × Value → H) (F : Stop.Interp) :
    ReturnsInHanded {} Tryd.checked os 4 .any ((OpenSpec.ofChange Rows.nodesetOfSpec).preRow enc Tryd.prog Tryd.f4 Rows.nodesetOfRow.domain false Rows.nodesetOfRow.laid) (((OpenSpec.ofChange Rows.nodesetOfSpec).at F).post enc Tryd.prog Tryd.f4 false true false false) := by
  obtain ⟨places, hx⟩ := reads os enc
  refine returnsInHanded_of_row (C := Tryd.checked) (s := OpenSpec.ofChange Rows.nodesetOfSpec) own started (by kernel_rfl) Tryd.func4
    (witness_row_at (enc := enc) (C := Tryd.checked) false (World.laidAll Tryd.prog os Rows.nodesetOfRow.laid) #[.slice none 0 0, .int .i64 0] (World.laidAll_os _ _ _) (by kernel_rfl) (by kernel_rfl) (by kernel_rfl)
      (OpenSpec.preRow_of_cond 8 hx (by kernel_rfl) (fun k hk => by cases hk) (by kernel_rfl) (laid_met os))) ?_
  intro W base args ds gs before hval hW _ _ _ _ hsh _
  exact contract H enc W base args ds gs before hval hW hsh

theorem said : Rows.NodesetOfSaid :=
  OpenClaim.holds_of_cond 4 Tryd.f4 rfl rfl rfl rfl rfl rfl rfl ⟨rfl, rfl, rfl, rfl, rfl⟩ rfl rfl rfl rfl rfl (by kernel_rfl) Tryd.func4 (by kernel_rfl)
    (of_decide_eq_true (by kernel_rfl)) (by unfold Func.isWrapper; first | (rw [if_pos (by decide +kernel)]; kernel_rfl) | (rw [if_neg (by decide +kernel)]; exact ⟨rfl, rfl⟩))
    (fun os started H enc _ F => by rw [OpenClaim.pre_eq_preRow]; exact lifted os started H enc F)

theorem plain (f : FuncId) (fn : Func) (hf : Tryd.pinned.checked.prog.funcNamed Tryd.f4.name = some f) (hfn : Tryd.pinned.checked.prog.funcs[f]? = some fn) :
    false = Tryd.pinned.checked.prog.looks [] ∧ ∀ (j : Nat) t, fn.params[j]? = some t → Tryd.pinned.checked.prog.wantsStandIn t = false := by
  obtain rfl : f = 4 := Option.some.inj ((show Tryd.prog.funcNamed Tryd.f4.name = some 4 by kernel_rfl).symm.trans hf) |>.symm
  obtain rfl : fn = Tryd.f4 := (Option.some.inj (Tryd.func4.symm.trans hfn)).symm
  refine ⟨by kernel_rfl, fun j t ht => ?_⟩
  rw [Tryd.params4] at ht
  have hm : t = 23 ∨ t = 3 := by simpa using Array.mem_of_getElem? ht
  rcases hm with rfl | rfl
  · exact (show Tryd.prog.wantsStandIn 23 = false by kernel_rfl)
  · exact (show Tryd.prog.wantsStandIn 3 = false by kernel_rfl)

theorem card : Rows.NodesetOfCardSaid :=
  Claim7.holds_tied_plain_at .later [] _ _ _ _ said (fun _ h => by cases h) (by kernel_rfl) (fun _ h => by cases h) nodesetOf_row_tie rfl ⟨rfl, rfl⟩ (by kernel_rfl) rfl plain (by kernel_rfl)
end Go.Proofs.YtjcghcibligioaaDoor.nof
