/-
  NodesetJoins, tied: for every two sets the law answers true, and its arguments read behind the call as before. The three tables of Go's library that the row lists are as their own text lays them (the given tie).
-/
import Derived.Test.YtjcghcibligioaaDoorSets
import Derived.Test.YtjcghcibligioaaDoorNodeRef
import Derived.Test.YtjcghcibligioaaDoorHeap3
import Derived.Test.YtjcghcibligioaaDoorCards
import Derived.Test.YtjcghcibligioaaDoorTie
import Derived.Deep.DeepHandedRow
import Derived.Lay
namespace Go.Proofs.YtjcghcibligioaaDoor.joins
open Go.ChangeShapes Go.WideShapes Go.ChangeAt Go.RowKit ND

/-- The set of a list's numbers. -/
def orL : List Int → Nat
  | [] => 0
  | x :: r => 2 ^ x.toNat ||| orL r
theorem orL_app (l r : List Int) : orL (l ++ r) = orL l ||| orL r := by
  induction l with
  | nil => simp [orL]
  | cons x l ih => simp [orL, ih, Nat.or_assoc]
theorem orTo_take (l : List Int) (k : Nat) (hk : k ≤ l.length) : orTo (fun i => l.getD i 0) k = orL (l.take k) := by
  induction k with
  | zero => simp [orTo, orL]
  | succ k ih =>
    have h : l.take (k + 1) = l.take k ++ [l.getD k 0] := by
      rw [List.take_succ_eq_append_getElem (by omega)]
      congr 2
      rw [List.getD_eq_getElem?_getD, List.getElem?_eq_getElem (by omega)]; rfl
    rw [h, orL_app, ← ih (by omega)]
    simp [orTo, orL]
theorem orTo_list (l : List Int) : orTo (fun i => l.getD i 0) l.length = orL l := by
  rw [orTo_take l l.length (Nat.le_refl _), List.take_length]
theorem orL_nodes : ∀ s, s < 256 → orL (nodes s) = s := by decide +kernel
theorem count_nodes : ∀ s, s < 256 → Lib.onesCount s = (nodes s).length := by decide +kernel
/-- Where the search for the i-th node begins. -/
def prev (s i : Nat) : Int := if i = 0 then -1 else (nodes s).getD (i - 1) 0
theorem next_step : ∀ s, s < 256 → ∀ i, i < 8 → i < (nodes s).length → nextOf (nodes s) (prev s i) = (prev s (i + 1), true) ∧ prev s i < prev s (i + 1) ∧ hasB s (prev s (i + 1)) = true := by decide +kernel
theorem next_end : ∀ s, s < 256 → s ≠ 0 → nextOf (nodes s) (prev s (nodes s).length) = ((nodes s).getD 0 0, true) := by decide +kernel
theorem next_none : nextOf (nodes 0) (prev 0 0) = (0, false) := by decide +kernel
theorem nodes_some : ∀ s, s < 256 → s ≠ 0 → 0 < (nodes s).length := by decide +kernel

/-- The loop's state. -/
def Rel (w : World) (c : Nat) (pv : Nat → Int) (t i : Value) (wr : World) : Prop := ∃ k : Nat, k ≤ c ∧ i = .int .i64 k ∧ t = .int .i64 (pv k) ∧ Kept [] w wr

set_option maxRecDepth 100000 in
set_option maxHeartbeats 400000 in
theorem walk (a b : Nat) (ha : a < 256) (hb : b < 256) (w : World) :
    Calls Tryd.prog 6 #[.int .u8 a, .int .u8 b] w fun e w' => e = .returned (.bool true) ∧ Kept [] w w' := by
  obtain ⟨i0, hi, hz0, hz1, hz2⟩ := info_parts info3
  have hu : a ||| b < 256 := Nat.or_lt_two_pow (n := 8) ha hb
  obtain ⟨u, hue⟩ : ∃ u, u = a ||| b := ⟨_, rfl⟩
  rw [← hue] at hu
  have hor : bits BinOp.or IntKind.u8 (a : Int) (b : Int) = (u : Int) := by rw [hue]; exact u8_or_nat a b ha hb
  have HU := hide hue
  have la0 := pre_le a 8
  have lb0 := pre_le b 8
  obtain ⟨na, hna⟩ : ∃ l, l = nodes a := ⟨_, rfl⟩
  obtain ⟨nb, hnb⟩ : ∃ l, l = nodes b := ⟨_, rfl⟩
  have la : na.length ≤ 8 := by rw [hna]; exact la0
  have lb : nb.length ≤ 8 := by rw [hnb]; exact lb0
  clear la0 lb0
  have hwf : ∀ x, x ∈ na ++ nb → 0 ≤ x ∧ x < 8 := by
    intro x hx
    rw [hna, hnb] at hx
    rcases List.mem_append.1 hx with h | h
    · have := pre_mem h; omega
    · have := pre_mem h; omega
  have hset : orL (na ++ nb) = u := by rw [orL_app, hna, hnb, orL_nodes a ha, orL_nodes b hb, hue]
  have HA := hide hna
  have HB := hide hnb
  have HW := hide hwf
  have HS := hide hset
  clear hue hna hnb hwf hset
  go_enter Tryd.func6, Tryd.ntmps6
  go_wp2_with fail
  refine (NR.list_any a ha _).mono ?_
  rintro e w1 ⟨v1, rfl, I1, k1⟩
  go_wp2_with fail
  refine (NR.list_any b hb _).mono ?_
  rintro e w2 ⟨v2, rfl, I2, k2⟩
  rw [← HA.out] at I1
  rw [← HB.out] at I2
  have I1' : w2.ownsRow w.heap.size 3 1 v1 na.length (na.map (Value.int .i64)) := own_kept I1 k2 (by simp)
  obtain ⟨ao2, cap2, hv2, -, hc2⟩ := own_form I2
  have hnil2 : ao2 = none → nb.length = 0 ∧ cap2 = 0 := by
    intro h
    rcases I2.2 with ⟨e, hn⟩ | ⟨g, cap, cur, e, _⟩
    · rw [hv2] at e; simp at e; exact ⟨hn, e.2.2⟩
    · rw [hv2, h] at e; simp at e
  have hnews : ∀ j u, (nb.map (Value.int .i64))[j]? = some u → ∃ ad, ao2 = some ad ∧ w2.cell? (ad.add j) = some u := by
    intro j u hj
    obtain ⟨g, rfl, -, hg⟩ := hc2 j u hj
    exact ⟨_, rfl, by rw [add_plain, Nat.zero_add]; exact hg⟩
  have hsz : w.heap.size ≤ w2.heap.size := Nat.le_trans k1.size k2.size
  have K2 := hide (k1.next k2)
  have HO := hide I1'
  have HN := hide hnews
  have HL := hide hnil2
  rw [hv2]
  clear I1 I2 k1 k2 I1' hc2 hnil2 hnews hv2
  go_wp2_with (at_builtin; refine wpList_append_any (by rfl) _ _ 23 (by rfl) w.heap.size 3 i0 (.int .i64 0) 8 Tryd.underlying23 hi hz0 hz1 hz2 rfl _ _ _ (by rfl) HO.out ao2 nb.length cap2 (nb.map (Value.int .i64)) (by rfl) (by simp) HL.out HN.out (by intro u hu; simp at hu; obtain ⟨x, _, rfl⟩ := hu; rfl) (by unfold maxLen; omega) (by omega) hsz ?_)
  intro v' w3 hown hgrow
  have hI : Ints w3 w.heap.size 3 v' (na ++ nb) := by unfold Ints; simpa using hown
  have K3 := hide (own_grown HO.out hgrow w K2.out (Nat.le_refl _))
  obtain ⟨l, hl⟩ : ∃ l, l = na ++ nb := ⟨_, rfl⟩
  rw [← hl] at hI
  have hWl : ∀ x, x ∈ l → 0 ≤ x ∧ x < 8 := by rw [hl]; exact HW.out
  have hSl : orL l = u := by rw [hl]; exact HS.out
  have HW := hide hWl
  have HS := hide hSl
  have hll : l.length ≤ 16 := by rw [hl]; simp; omega
  clear hl hWl hSl
  obtain ⟨ao, cap, hv', hI2⟩ := hI.isInts (fun x hx => WalkArith.wf_i64 (by have := HW.out x hx; omega))
  subst hv'
  have II := hide hI2
  clear hown hgrow hI hI2 HO HN HL
  go_wp2_with fail
  refine (of_ok (by unfold maxLen; omega) (by exact II.out) (by intro i hi; exact HW.out _ (by show l.getD i 0 ∈ l; rw [List.getD_eq_getElem?_getD, List.getElem?_eq_getElem hi]; exact List.getElem_mem hi))).mono ?_
  rintro e w' ⟨rfl, hw⟩
  subst w'
  rw [orTo_list, HS.out]
  go_wp2_with fail
  refine (sets_true _).mono ?_
  rintro e w4 ⟨rfl, k4⟩
  have K4 := hide (K3.out.next k4)
  clear k4
  have hcn := count_nodes u hu
  have hlu := pre_le u 8
  obtain ⟨c, hce⟩ : ∃ c, c = (nodes u).length := ⟨_, rfl⟩
  have hc8 : c ≤ 8 := by rw [hce]; exact hlu
  rw [← hce] at hcn
  have HC := hide hce
  have HCN := hide hcn
  clear hce hcn hlu
  obtain ⟨pv, hpv⟩ : ∃ pv : Nat → Int, pv = prev u := ⟨_, rfl⟩
  have hp0 : pv 0 = -1 := by rw [hpv]; rfl
  have HPV := hide hpv
  have HP0 := hide hp0
  clear hpv hp0
  clear la lb hll hsz HA HB K2 K3 HW HS II hi hz0 hz1 hz2
  go_wp2_with fail
  go_loopw [7, 8] (fun t i wr => Rel w c pv t i wr) (fun _ i _ => c - (intOf i).toNat)
  case atStart => exact ⟨0, by omega, rfl, by rw [HP0.out], K4.out⟩
  case round =>
    obtain ⟨k, hk, rfl, rfl, hK⟩ := hrel
    have KK := hide hK
    clear hK
    by_cases hkc : k < c
    · obtain ⟨e1, e2, e3⟩ := next_step u hu k (by omega) (by rw [← HC.out]; exact hkc)
      rw [← HPV.out] at e1 e2 e3
      obtain ⟨q, hq⟩ : ∃ q, q = pv (k + 1) := ⟨_, rfl⟩
      obtain ⟨p, hp⟩ : ∃ p, p = pv k := ⟨_, rfl⟩
      rw [← hq] at e1 e2 e3
      rw [← hp] at e1 e2 ⊢
      have HQ := hide hq
      have E1 := hide e1
      have E3 := hide e3
      clear e1 e3 hq hp
      go_wp2_with fail
      refine (count_any u hu _).mono ?_
      rintro e w' ⟨rfl, hw⟩
      subst w'
      rw [HCN.out]
      go_wp2_with fail
      refine (ND.next_any u _ hu _).mono ?_
      rintro e w5 ⟨rfl, k5⟩
      rw [E1.out]
      have K5 := hide (KK.out.next k5)
      clear k5
      go_wp2_with fail
      refine (ND.has_any u _ hu _).mono ?_
      rintro e w' ⟨rfl, hw⟩
      subst w'
      rw [E3.out]
      clear hor ha hb HU K4 HC HCN HPV HP0 KK E1 E3 hu
      go_wp2
      go_roundw
      case rel => exact ⟨k + 1, by omega, by go_num, by rw [HQ.out], K5.out⟩
      case measure => simp [intOf]; omega
    · have e : k = c := by omega
      subst e
      obtain ⟨p, hp⟩ : ∃ p, p = pv k := ⟨_, rfl⟩
      rw [← hp]
      have HP : Hid (p = prev u k) := by rw [hp, HPV.out]; exact rfl
      clear hp
      go_wp2_with fail
      refine (count_any u hu _).mono ?_
      rintro e w' ⟨rfl, hw⟩
      subst w'
      rw [HCN.out]
      go_wp2_with fail
      refine (ND.next_any u _ hu _).mono ?_
      rintro e w5 ⟨rfl, k5⟩
      have K5 := hide (KK.out.next k5)
      clear k5
      by_cases hu0 : u = 0
      · have hk0 : k = 0 := by rw [HC.out, hu0]; rfl
        have E : nextOf (nodes u) p = (0, false) := by rw [HP.out, hu0, hk0]; exact next_none
        rw [E]
        have hne : ((u : Int) != 0) = false := by rw [hu0]; rfl
        clear E hu0 hk0
        go_wp2
        go_ret
        exact ⟨rfl, K5.out⟩
      · have E := next_end u hu hu0
        rw [← HC.out, ← HP.out] at E
        obtain ⟨y, hy⟩ : ∃ y, y = (nodes u).getD 0 0 := ⟨_, rfl⟩
        rw [← hy] at E
        have HY := hide hy
        clear hy
        rw [E]
        have hne : ((u : Int) != 0) = true := by rw [bne_iff_ne]; omega
        have hns := nodes_some u hu hu0
        clear E
        go_wp2_with fail
        refine (NR.list_any u hu _).mono ?_
        rintro e w6 ⟨v6, rfl, I6, k6⟩
        obtain ⟨ao6, cap6, hv6, I6'⟩ := I6.isInts (pre_wf u 8 (by omega))
        obtain ⟨b6, o6, h6, g6, -⟩ := I6' 0 hns
        rw [hv6, h6]
        have g6' : w6.cell? ⟨b6, o6, none⟩ = some (.int .i64 y) := by rw [HY.out]; simpa using g6
        have K6 := hide (K5.out.next k6)
        have hni : (0 : Int) < ((nodes u).length : Int) := by omega
        clear I6 I6' k6 hv6 h6 g6 hns HY hor ha hb HU K4 HC HCN HPV HP0 KK HP K5 hu hu0
        obtain ⟨ln, hln⟩ : ∃ ln, ln = (nodes u).length := ⟨_, rfl⟩
        rw [← hln] at hni ⊢
        clear hln
        go_wp2
        go_ret
        exact ⟨rfl, K6.out⟩
theorem byte_nat {x : Int} (h : (Lit.int .u8 x).wf = true) : ∃ n : Nat, x = (n : Int) ∧ n < 256 := by
  have h2 := bounds_u8 h
  obtain ⟨n, rfl⟩ := Int.eq_ofNat_of_zero_le h2.1
  exact ⟨n, rfl, by omega⟩

theorem own : ownKnob Tryd.prog.godebug = none := by kernel_rfl
theorem laidOut : laidOutB Tryd.prog = true := by kernel_rfl

theorem contract (H : Type) (enc : TypeId × Value → H) (W : World) (base : Nat) (args : Array Value) (ds gs : List (DataW H)) (before : List MemPlace)
    (hval : ∀ (j : Nat) t v, Tryd.f6.params[j]? = some t → args[j]? = some v → Value.okWide Tryd.prog W .any base t v)
    (hW : DataW.Whole enc Tryd.prog Tryd.f6.params.toList Rows.nodesetJoinsSpec.vars false W args.toList ds gs before) (_hsh : W.ShapedOpen Tryd.prog) :
    Calls Tryd.prog 6 args W fun e W' => ∃ v, e = .returned v ∧ Rows.nodesetJoinsSpec.post enc Tryd.prog Tryd.f6 false true false false W args v W' := by
  have hW' := hW
  obtain ⟨p, q, hA0, hV, rfl, hfz, hnd⟩ := hW
  have hA : DataW.TrodAll enc Tryd.prog W 0 (fun _ => true) true Tryd.f6.params.toList args.toList ds p := hA0
  have hK := hA
  rw [Tryd.params6] at hA hval
  obtain ⟨v0, vs0, d0, ds0, p0, q0, hargs, rfl, rfl, h0, r0⟩ := trodAll_cons hA
  obtain ⟨v1, vs1, d1, ds1, p1, q1, rfl, rfl, rfl, h1, r1⟩ := trodAll_cons r0
  obtain ⟨rfl, rfl, rfl⟩ := trodAll_nil r1
  obtain rfl : args = #[v0, v1] := by cases args; simp_all
  obtain ⟨rfl, rfl⟩ := trodVars_none hV
  obtain ⟨a, rfl, rfl, rfl, w0⟩ := open_int Tryd.underlying5 (hval 0 5 v0 rfl rfl) h0
  obtain ⟨b, rfl, rfl, rfl, w1⟩ := open_int Tryd.underlying5 (hval 1 5 v1 rfl rfl) h1
  obtain ⟨a, rfl, ha⟩ := byte_nat w0
  obtain ⟨b, rfl, hb⟩ := byte_nat w1
  clear hA0
  refine (walk a b ha hb W).mono fun e W' ⟨he, hk⟩ => ?_
  subst he
  exact ⟨_, rfl, _, _, _, [], _, [], hW', trodAll_mk1 (shut_bool Tryd.underlying4 _), trodAll_below laidOut hk.below _ _ _ _ hK (by kernel_rfl), rfl, hk.below.frame _, fun h => by cases h⟩

theorem laid_met (os : Os) : laidMet Tryd.prog Rows.nodesetJoinsRow.laid ((World.laidAll Tryd.prog os Rows.nodesetJoinsRow.laid).forCall (fun _ _ => 0) ⟨#[], #[.int .u8 0, .int .u8 0], []⟩).memory :=
  laidMet_laidAll _ (by kernel_rfl) (by kernel_rfl)
theorem reads (os : Os) {H : Type} (enc : TypeId × Value → H) : ∃ places, DataW.whole enc Tryd.prog ((World.laidAll Tryd.prog os Rows.nodesetJoinsRow.laid).forCall (fun _ _ => 0) ⟨#[], #[.int .u8 0, .int .u8 0], []⟩).memory Tryd.f6.params.toList Rows.nodesetJoinsSpec.vars false (#[.int .u8 0, .int .u8 0] : Array Value).toList 8 = some ([.lit (.int .u8 0), .lit (.int .u8 0)], [], places) :=
  ⟨[], by kernel_rfl⟩

set_option maxRecDepth 100000 in
theorem lifted (os : Os) (started : os.Started) (H : Type) (enc : TypeId × Value → H) (F : Stop.Interp) :
    ReturnsInHanded {} Tryd.checked os 6 .any ((OpenSpec.ofChange Rows.nodesetJoinsSpec).preRow enc Tryd.prog Tryd.f6 Rows.nodesetJoinsRow.domain false Rows.nodesetJoinsRow.laid) (((OpenSpec.ofChange Rows.nodesetJoinsSpec).at F).post enc Tryd.prog Tryd.f6 false true false false) := by
  obtain ⟨places, hx⟩ := reads os enc
  refine returnsInHanded_of_row (C := Tryd.checked) (s := OpenSpec.ofChange Rows.nodesetJoinsSpec) own started (by kernel_rfl) Tryd.func6
    (witness_row_at (enc := enc) (C := Tryd.checked) false (World.laidAll Tryd.prog os Rows.nodesetJoinsRow.laid) #[.int .u8 0, .int .u8 0] (World.laidAll_os _ _ _) (by kernel_rfl) (by kernel_rfl) (by kernel_rfl)
      (OpenSpec.preRow_of_cond 8 hx (by kernel_rfl) (fun k hk => by cases hk) (by kernel_rfl) (laid_met os))) ?_
  intro W base args ds gs before hval hW _ _ _ _ hsh _
  exact contract H enc W base args ds gs before hval hW hsh

theorem said : Rows.NodesetJoinsSaid :=
  OpenClaim.holds_of_cond 6 Tryd.f6 rfl rfl rfl rfl rfl rfl rfl ⟨rfl, rfl, rfl, rfl, rfl⟩ rfl rfl rfl rfl rfl (by kernel_rfl) Tryd.func6 (by kernel_rfl)
    (of_decide_eq_true (by kernel_rfl)) (by unfold Func.isWrapper; first | (rw [if_pos (by decide +kernel)]; kernel_rfl) | (rw [if_neg (by decide +kernel)]; exact ⟨rfl, rfl⟩))
    (fun os started H enc _ F => by rw [OpenClaim.pre_eq_preRow]; exact lifted os started H enc F)

theorem plain (f : FuncId) (fn : Func) (hf : Tryd.pinned.checked.prog.funcNamed Tryd.f6.name = some f) (hfn : Tryd.pinned.checked.prog.funcs[f]? = some fn) :
    false = Tryd.pinned.checked.prog.looks [] ∧ ∀ (j : Nat) t, fn.params[j]? = some t → Tryd.pinned.checked.prog.wantsStandIn t = false := by
  obtain rfl : f = 6 := Option.some.inj ((show Tryd.prog.funcNamed Tryd.f6.name = some 6 by kernel_rfl).symm.trans hf) |>.symm
  obtain rfl : fn = Tryd.f6 := (Option.some.inj (Tryd.func6.symm.trans hfn)).symm
  refine ⟨by kernel_rfl, fun j t ht => ?_⟩
  rw [Tryd.params6] at ht
  have hm : t = 5 := by simpa using Array.mem_of_getElem? ht
  rcases hm with rfl
  · exact (show Tryd.prog.wantsStandIn 5 = false by kernel_rfl)

theorem card : Rows.NodesetJoinsCardSaid :=
  Claim7.holds_tied_plain_at .later [] _ _ _ _ said (fun _ h => by cases h) (by kernel_rfl) (fun _ h => by cases h) nodesetJoins_row_tie rfl ⟨rfl, rfl⟩ (by kernel_rfl) rfl plain (by kernel_rfl)
end Go.Proofs.YtjcghcibligioaaDoor.joins
