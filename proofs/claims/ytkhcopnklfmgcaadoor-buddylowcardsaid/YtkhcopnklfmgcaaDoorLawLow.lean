/-
  BuddyLow, tied: for every size and order the law answers true, and its arguments read behind the call as before. The two tables of math/bits that the row lists are as their own text lays them (the card ties them to it); the card speaks of the pruned copy of the project that the seat holds.
-/
import Derived.Test.YtkhcopnklfmgcaaDoorHalves
import Derived.Test.YtkhcopnklfmgcaaDoorTabs
import Derived.Test.YtkhcopnklfmgcaaDoorCards
import Derived.Test.YtkhcopnklfmgcaaDoorTie
import Derived.Deep.DeepHandedRow
import Derived.Lay
namespace Go.Proofs.YtkhcopnklfmgcaaDoor.low
open Go.ChangeShapes Go.WideShapes Go.ChangeAt Go.RowKit By
/-- The frames below m are used. -/
def pre (K m : Nat) : Nat → Bool := fun i => decide (i < m ∨ 2 ^ K ≤ i)
theorem pre_fr {K m j q : Nat} : Fr (pre K m) q j ↔ m ≤ q * 2 ^ j ∧ (q + 1) * 2 ^ j ≤ 2 ^ K := by
  constructor
  · intro h
    have h1 := h (q * 2 ^ j) (mul_div q j)
    simp only [pre, decide_eq_false_iff_not] at h1
    exact ⟨by omega, block_in (fun i hi => by simp [pre, hi]) h⟩
  · rintro ⟨h1, h2⟩ i hi
    have := blk_iff.1 hi
    rw [Nat.add_mul, Nat.one_mul] at h2
    simp only [pre, decide_eq_false_iff_not]; omega
theorem val_max {o K m : Nat} (hoK : o ≤ K) (hd : 2 ^ o ∣ m) : ∃ k, o ≤ k ∧ k ≤ K ∧ 2 ^ k ∣ m ∧ (k = K ∨ ¬ 2 ^ (k + 1) ∣ m) := by
  have key : ∀ d, o + d ≤ K → (∃ k, o ≤ k ∧ k ≤ K ∧ 2 ^ k ∣ m ∧ (k = K ∨ ¬ 2 ^ (k + 1) ∣ m)) ∨ 2 ^ (o + d) ∣ m := by
    intro d
    induction d with
    | zero => intro _; exact .inr hd
    | succ d ih =>
      intro h
      rcases ih (by omega) with h1 | h1
      · exact .inl h1
      · by_cases h2 : 2 ^ (o + d + 1) ∣ m
        · exact .inr h2
        · exact .inl ⟨o + d, by omega, by omega, h1, .inr h2⟩
  rcases key (K - o) (by omega) with h | h
  · exact h
  · rw [show o + (K - o) = K by omega] at h
    exact ⟨K, hoK, Nat.le_refl _, h, .inl rfl⟩
theorem low_least {K o m : Nat} (hK : K ≤ 10) (hoK : o ≤ K) (hd : 2 ^ o ∣ m) (hm : m < 2 ^ K) : ∃ k a, Least (pre K m) o k a ∧ a * 2 ^ k = m := by
  obtain ⟨k, h1, h2, ⟨a, ha⟩, h4⟩ := val_max hoK hd
  have ha' : a * 2 ^ k = m := by rw [ha, Nat.mul_comm]
  have hdK : ∀ j, j ≤ K → ∃ e, 2 ^ K = e * 2 ^ j := fun j hj => ⟨2 ^ (K - j), by rw [← Nat.pow_add]; congr 1; omega⟩
  refine ⟨k, a, ⟨h1, by omega, ⟨pre_fr.2 ⟨by omega, ?_⟩, fun hf => ?_⟩, fun b hb => ?_, fun j b hj1 hj2 hb => ?_⟩, ha'⟩
  · obtain ⟨e, he⟩ := hdK k h2
    rw [he] at hm ⊢
    rw [← ha'] at hm
    exact Nat.mul_le_mul_right _ (Nat.lt_of_mul_lt_mul_right hm)
  · obtain ⟨f1, f2⟩ := pre_fr.1 hf
    rcases h4 with h4 | h4
    · subst h4
      have := order_in f2
      omega
    · have hodd : a % 2 = 1 := by
        by_cases h : a % 2 = 1
        · exact h
        · exfalso
          apply h4
          refine ⟨a / 2, ?_⟩
          rw [Nat.pow_succ, Nat.mul_assoc, show 2 * (a / 2) = a by omega, ha]
      have e : a / 2 * 2 ^ (k + 1) = (a - 1) * 2 ^ k := by
        rw [Nat.pow_succ, Nat.mul_comm (2 ^ k) 2, ← Nat.mul_assoc, show a / 2 * 2 = a - 1 by omega]
      rw [e, ← ha'] at f1
      have := Nat.le_of_mul_le_mul_right f1 (two_pos k)
      omega
  · obtain ⟨f1, -⟩ := pre_fr.1 hb.1
    rw [← ha'] at f1
    exact Nat.le_of_mul_le_mul_right f1 (two_pos k)
  · obtain ⟨f1, f2⟩ := pre_fr.1 hb.1
    apply hb.2
    obtain ⟨e, he⟩ := hdK (j + 1) (by omega)
    have hme : ∃ c, m = c * 2 ^ (j + 1) := ⟨a * 2 ^ (k - (j + 1)), by rw [← ha', Nat.mul_assoc, ← Nat.pow_add]; congr 2; omega⟩
    obtain ⟨c, hc⟩ := hme
    have e2 : ∀ x, x * 2 ^ (j + 1) = 2 * x * 2 ^ j := fun x => by rw [Nat.pow_succ, Nat.mul_comm (2 ^ j) 2, ← Nat.mul_assoc, Nat.mul_comm x 2]
    rw [hc, e2] at f1
    rw [he, e2] at f2
    have g1 := Nat.le_of_mul_le_mul_right f1 (two_pos j)
    have g2 := Nat.le_of_mul_le_mul_right f2 (two_pos j)
    refine pre_fr.2 ⟨?_, ?_⟩
    · rw [hc]; exact Nat.mul_le_mul_right _ (by omega)
    · rw [he]; exact Nat.mul_le_mul_right _ (by omega)
theorem pre_next {K o i : Nat} : upd (pre K (i * 2 ^ o)) (i * 2 ^ o / 2 ^ o) o true = pre K ((i + 1) * 2 ^ o) := by
  rw [mul_div]
  rw [Nat.add_mul, Nat.one_mul]
  funext x
  unfold upd pre
  by_cases hx : x / 2 ^ o = i
  · rw [if_pos hx]
    have := blk_iff.1 hx
    symm; rw [decide_eq_true_iff]; omega
  · rw [if_neg hx]
    have h2 : ¬ (i * 2 ^ o ≤ x ∧ x < i * 2 ^ o + 2 ^ o) := fun h => hx (blk_iff.2 h)
    have := two_pos o
    rw [decide_eq_decide]; omega
theorem pre_none {K : Nat} : Nun (pre K (2 ^ K)) 0 := fun j b _ _ ht => by
  obtain ⟨h1, h2⟩ := pre_fr.1 ht.1
  have := two_pos j
  rw [Nat.add_mul, Nat.one_mul] at h2
  omega
theorem pre_zero {K : Nat} : pre K 0 = u0 K := by
  funext i; simp [pre, u0]
theorem shl1 {k : Nat} (hk : k ≤ 10) : wrap64 ((2 : Int) ^ k) = ((2 ^ k : Nat) : Int) := by
  have e1 : (2 : Int) ^ k = ((2 ^ k : Nat) : Int) := by simp
  rw [e1]
  have hp := n1024 hk
  generalize 2 ^ k = y at hp ⊢
  rw [IntWalk.wrap64_in (y : Int) ⟨by omega, by omega⟩]
set_option maxHeartbeats 2000000 in
theorem walk (x y : Int) {w : World} (hT : Tab w) : Calls Tryd.prog 5 #[.int .i64 x, .int .i64 y] w fun e w' => e = .returned (.bool true) ∧ Kept [] w w' := by
  obtain ⟨k, hk, hx⟩ := mod_small x 9 (by decide) (by decide)
  obtain ⟨o, ho, hy⟩ := mod_small y ((k : Int) + 1) (by omega) (by omega)
  have T := hide hT
  clear hT
  go_enter Tryd.func5, Tryd.ntmps5
  go_wp2_with fail
  refine (bs_new k (2 ^ k) (by omega) rfl T.out (shl1 (by omega))).mono ?_
  rintro e w1 ⟨p, F, rfl, hB, -, hF, hk1⟩
  have B1 := hide hB
  have HF := hide hF
  have K1 := hide hk1
  have T1 := hide (T.out.kept hk1 (by simp))
  clear hB hF hk1 T
  go_wp2_with fail
  refine (halves_true T1.out).mono ?_
  rintro e w2 ⟨rfl, hk2⟩
  have B2 := hide (B1.out.kept0 hk2)
  have K2 := hide (K1.out.next hk2)
  clear hk2 B1 K1 T1 hx hy
  go_wp2_with fail
  have hdo : ∃ d : Nat, (k : Int) - (o : Int) = d ∧ d + o = k := ⟨k - o, by omega, by omega⟩
  obtain ⟨d, hd, hdk⟩ := hdo
  have HD := hide hdk
  have hd8 : d ≤ 8 := by omega
  have e0 : (0 : Int) ≤ (k : Int) - o := by omega
  clear hdk
  go_loopw [9] (fun v wr => ∃ (i f : Nat) (tk : Nat → Nat) (G : List Nat), i ≤ 2 ^ d ∧ v = .int .i64 i ∧ BS wr p k (pre k (i * 2 ^ o)) tk f G ∧ f + i * 2 ^ o = 2 ^ k ∧ (∀ x, x ∈ G → w.heap.size ≤ x) ∧ Kept [] w wr) (fun v _ => 2 ^ d - (intOf v).toNat)
  case atStart => exact ⟨0, 2 ^ k, fun _ => 0, F, Nat.zero_le _, rfl, by rw [Nat.zero_mul, pre_zero]; exact B2.out, by omega, HF.out, K2.out⟩
  case round =>
    obtain ⟨i, f, tk, G, hi, rfl, hB, hf, hG, hK⟩ := hrel
    have B := hide hB
    have HG := hide hG
    have K := hide hK
    clear hB hG hK B2 K2 HF
    have hp := n1024 (show d ≤ 10 by omega)
    have hpk := n1024 (show k ≤ 10 by omega)
    have hpo := n1024 (show o ≤ 10 by omega)
    have hpp : 2 ^ k = 2 ^ d * 2 ^ o := by rw [← HD.out, Nat.pow_add]
    by_cases hid : i < 2 ^ d
    · have hlt : (i : Int) < wrap64 ((2 : Int) ^ d) := by rw [shl1 (by omega)]; omega
      have hin : (i + 1) * 2 ^ o ≤ 2 ^ k := by rw [hpp]; exact Nat.mul_le_mul_right _ (by omega)
      have hpos := two_pos o
      have hin' : i * 2 ^ o + 2 ^ o ≤ 2 ^ k := by rw [Nat.add_mul, Nat.one_mul] at hin; exact hin
      obtain ⟨kk, a, hL, ha⟩ := low_least (K := k) (o := o) (m := i * 2 ^ o) (by omega) (by omega) (Nat.dvd_mul_left _ _) (by omega)
      have HL := hide hL
      have HA := hide ha
      clear hL ha
      go_wp2_with fail
      refine (bs_take o kk a B.out HL.out rfl).mono ?_
      rintro e w3 ⟨f', G3, rfl, hf', hB3, hk3, hG3⟩
      rw [HA.out] at hB3 ⊢
      rw [pre_next] at hB3
      have B3 := hide hB3
      have K3 := hide (K.out.trans hk3 (fun x hx hl => by have := HG.out x hx; omega))
      have HG3 := hide (show ∀ x, x ∈ G3 → w.heap.size ≤ x from fun x hx => (hG3 x hx).elim (HG.out x) (fun h => Nat.le_trans K.out.size h))
      have E1 : wrap64 ((i : Int) * 2 ^ o) = ((i * 2 ^ o : Nat) : Int) := by
        have e1 : (i : Int) * (2 : Int) ^ o = ((i * 2 ^ o : Nat) : Int) := by simp
        rw [e1]
        generalize i * 2 ^ o = y at hin' ⊢
        rw [IntWalk.wrap64_in (y : Int) ⟨by omega, by omega⟩]
      have E2 : wrap64 (wrap64 ((2 : Int) ^ k) - wrap64 (((i : Int) + 1) * 2 ^ o)) = (f' : Int) := by
        have e1 : ((i : Int) + 1) * (2 : Int) ^ o = (((i + 1) * 2 ^ o : Nat) : Int) := by simp
        rw [e1, shl1 (by omega)]
        have e2 : (i + 1) * 2 ^ o = i * 2 ^ o + 2 ^ o := by rw [Nat.add_mul, Nat.one_mul]
        generalize (i + 1) * 2 ^ o = y at hin e2 ⊢
        generalize i * 2 ^ o = z at hf e2
        generalize 2 ^ k = q at *
        rw [IntWalk.wrap64_in (y : Int) ⟨by omega, by omega⟩, IntWalk.wrap64_in _ ⟨by omega, by omega⟩]
        omega
      have E3 : wrap64 (wrap64 ((2 : Int) ^ k) - wrap64 (wrap64 ((i : Int) + 1) * 2 ^ o)) = (f' : Int) := by rw [IntWalk.wrap64_in ((i : Int) + 1) ⟨by omega, by omega⟩]; exact E2
      have hfin : f' + (i + 1) * 2 ^ o = 2 ^ k := by rw [Nat.add_mul, Nat.one_mul]; omega
      have HFN := hide hfin
      have hi24 : i ≤ 1024 := by omega
      have HI := hide hid
      clear hB3 hk3 hG3 hf' hf hin hin' hpp hid hfin HL HA B K HG hlt hi hpos
      generalize i * 2 ^ o = m at E1
      go_wp2_with fail
      go_quiet (first | (go_at_call 16; refine (bs_free (B3.out.kept0 ((Kept.refl [] w3).drewN _))).mono ?_; rintro e w4 ⟨rfl, hw4⟩; exact ⟨rfl, _, hw4⟩))
      go_wp2
      go_roundw
      case rel => exact ⟨i + 1, f', _, G3, HI.out, by go_num, B3.out.kept0 ((Kept.refl [] w3).drewN _), HFN.out, HG3.out, K3.out.drewN _⟩
      case measure => have := HI.out; simp [intOf]; omega
    · have hid' : i = 2 ^ d := by omega
      have hlt : ¬ ((i : Int) < wrap64 ((2 : Int) ^ d)) := by rw [shl1 (by omega)]; omega
      have hall : i * 2 ^ o = 2 ^ k := by rw [hid', hpp]
      rw [hall] at B
      have HN := hide (pre_none (K := k))
      have hN := hide (bs_none 0 B.out (by decide) pre_none rfl)
      have hH := hide (bs_hasno 0 B.out (by decide) pre_none rfl)
      clear hall hid' hid hpp hf hi HD
      go_wp2_with (first | (go_at_call 12; refine hN.out.mono ?_; rintro e w' ⟨rfl, hw⟩; subst w') | (go_at_call 15; refine hH.out.mono ?_; rintro e w' ⟨rfl, hw⟩; subst w'))
      go_ret
      exact ⟨rfl, K.out⟩

theorem own : ownKnob Tryd.prog.godebug = none := by kernel_rfl
theorem laidOut : laidOutB Tryd.prog = true := by kernel_rfl

set_option maxRecDepth 100000 in
theorem contract (H : Type) (enc : TypeId × Value → H) (W : World) (base : Nat) (args : Array Value) (ds gs : List (DataW H)) (before : List MemPlace)
    (hval : ∀ (j : Nat) t v, Tryd.f5.params[j]? = some t → args[j]? = some v → Value.okWide Tryd.prog W .any base t v)
    (hW : DataW.Whole enc Tryd.prog Tryd.f5.params.toList Rows.buddyLowSpec.vars false W args.toList ds gs before) (_hsh : W.ShapedOpen Tryd.prog) (hlaid : laidMetH Tryd.prog Rows.buddyLowRow.laid W) :
    Calls Tryd.prog 5 args W fun e W' => ∃ v, e = .returned v ∧ Rows.buddyLowSpec.post enc Tryd.prog Tryd.f5 false true false false W args v W' := by
  have hW' := hW
  obtain ⟨p, q, hA0, hV, rfl, hfz, hnd⟩ := hW
  have hA : DataW.TrodAll enc Tryd.prog W 0 (fun _ => true) true Tryd.f5.params.toList args.toList ds p := hA0
  have hK := hA
  rw [Tryd.params5] at hA hval
  obtain ⟨v0, vs0, d0, ds0, p0, q0, hargs, rfl, rfl, h0, r0⟩ := trodAll_cons hA
  obtain ⟨v1, vs1, d1, ds1, p1, q1, rfl, rfl, rfl, h1, r1⟩ := trodAll_cons r0
  obtain ⟨rfl, rfl, rfl⟩ := trodAll_nil r1
  obtain rfl : args = #[v0, v1] := by cases args; simp_all
  obtain ⟨rfl, rfl⟩ := trodVars_none hV
  obtain ⟨x, rfl, rfl, rfl, w0⟩ := open_int Tryd.underlying3 (hval 0 3 v0 rfl rfl) h0
  obtain ⟨y, rfl, rfl, rfl, w1⟩ := open_int Tryd.underlying3 (hval 1 3 v1 rfl rfl) h1
  have hTab : By.Tab W := By.tab_of_laid hlaid
  clear hA0
  refine (walk x y hTab).mono fun e W' ⟨he, hk⟩ => ?_
  subst he
  exact ⟨_, rfl, _, _, _, [], _, [], hW', trodAll_mk1 (shut_bool Tryd.underlying4 _), trodAll_below laidOut hk.below _ _ _ _ hK (by kernel_rfl), rfl, hk.below.frame _, fun h => by cases h⟩

set_option maxRecDepth 100000 in
theorem laid_met (os : Os) : laidMet Tryd.prog Rows.buddyLowRow.laid ((World.laidAll Tryd.prog os Rows.buddyLowRow.laid).forCall (fun _ _ => 0) ⟨#[], #[.int .i64 0, .int .i64 0], []⟩).memory :=
  laidMet_laidAll _ (by kernel_rfl) (by kernel_rfl)
set_option maxRecDepth 100000 in
theorem reads (os : Os) {H : Type} (enc : TypeId × Value → H) : ∃ places, DataW.whole enc Tryd.prog ((World.laidAll Tryd.prog os Rows.buddyLowRow.laid).forCall (fun _ _ => 0) ⟨#[], #[.int .i64 0, .int .i64 0], []⟩).memory Tryd.f5.params.toList Rows.buddyLowSpec.vars false (#[.int .i64 0, .int .i64 0] : Array Value).toList 8 = some ([.lit (.int .i64 0), .lit (.int .i64 0)], [], places) :=
  ⟨[], by kernel_rfl⟩

set_option maxRecDepth 100000 in
theorem lifted (os : Os) (started : os.Started) (H : Type) (enc : TypeId × Value → H) (F : Stop.Interp) :
    ReturnsInHanded {} Tryd.checked os 5 .any ((OpenSpec.ofChange Rows.buddyLowSpec).preRow enc Tryd.prog Tryd.f5 Rows.buddyLowRow.domain false Rows.buddyLowRow.laid) (((OpenSpec.ofChange Rows.buddyLowSpec).at F).post enc Tryd.prog Tryd.f5 false true false false) := by
  obtain ⟨places, hx⟩ := reads os enc
  refine returnsInHanded_of_row (C := Tryd.checked) (s := OpenSpec.ofChange Rows.buddyLowSpec) own started (by kernel_rfl) Tryd.func5
    (witness_row_at (enc := enc) (C := Tryd.checked) false (World.laidAll Tryd.prog os Rows.buddyLowRow.laid) #[.int .i64 0, .int .i64 0] (World.laidAll_os _ _ _) (by kernel_rfl) (by kernel_rfl) (by kernel_rfl)
      (OpenSpec.preRow_of_cond 8 hx (by kernel_rfl) (fun k hk => by cases hk) (by kernel_rfl) (laid_met os))) ?_
  intro W base args ds gs before hval hW _ _ _ hlaid hsh _
  exact contract H enc W base args ds gs before hval hW hsh hlaid

theorem said : Rows.BuddyLowSaid :=
  OpenClaim.holds_of_cond 5 Tryd.f5 rfl rfl rfl rfl rfl rfl rfl ⟨rfl, rfl, rfl, rfl, rfl⟩ rfl rfl rfl rfl rfl (by kernel_rfl) Tryd.func5 (by kernel_rfl)
    (of_decide_eq_true (by kernel_rfl)) (by unfold Func.isWrapper; first | (rw [if_pos (by decide +kernel)]; kernel_rfl) | (rw [if_neg (by decide +kernel)]; exact ⟨rfl, rfl⟩))
    (fun os started H enc _ F => by rw [OpenClaim.pre_eq_preRow]; exact lifted os started H enc F)

theorem plain (f : FuncId) (fn : Func) (hf : Tryd.pinned.checked.prog.funcNamed Tryd.f5.name = some f) (hfn : Tryd.pinned.checked.prog.funcs[f]? = some fn) :
    false = Tryd.pinned.checked.prog.looks [] ∧ ∀ (j : Nat) t, fn.params[j]? = some t → Tryd.pinned.checked.prog.wantsStandIn t = false := by
  obtain rfl : f = 5 := Option.some.inj ((show Tryd.prog.funcNamed Tryd.f5.name = some 5 by kernel_rfl).symm.trans hf) |>.symm
  obtain rfl : fn = Tryd.f5 := (Option.some.inj (Tryd.func5.symm.trans hfn)).symm
  refine ⟨by kernel_rfl, fun j t ht => ?_⟩
  rw [Tryd.params5] at ht
  have hm : t = 3 := by simpa using Array.mem_of_getElem? ht
  rcases hm with rfl
  · exact (show Tryd.prog.wantsStandIn 3 = false by kernel_rfl)

theorem card : Rows.BuddyLowCardSaid :=
  Claim7.holds_tied_plain_at .later [] _ _ _ _ said (fun _ h => by cases h) (by kernel_rfl) (fun _ h => by cases h) buddyLow_row_tie rfl ⟨rfl, rfl⟩ (by kernel_rfl) rfl plain (by kernel_rfl)
end Go.Proofs.YtkhcopnklfmgcaaDoor.low
