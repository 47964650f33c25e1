/-
  TableSwaps: for every number of pages and every list of numbers the law answers true, and its arguments read behind the call as before. No condition.
-/
import Derived.Test.YtockkmoanbddpaaTwoHolds
import Derived.Test.YtockkmoanbddpaaHeap3
import Derived.Test.YtockkmoanbddpaaLift
namespace Go.Proofs.Ytockkmoanbddpaa.swaps
open Go.ChangeShapes Go.WideShapes Go.ChangeAt Go.RowKit Tb

/-- k pages on k of k + 1 frames; one is free. -/
structure Inv (to fr : Int → Option Int) (k free : Nat) : Prop where
  at_ : ∀ j : Nat, j < k → ∃ b : Nat, b ≤ k ∧ b ≠ free ∧ to j = some (b : Int) ∧ fr b = some (j : Int)
  no : fr free = none
  le : free ≤ k
theorem Inv.step {to fr : Int → Option Int} {k free p b : Nat} (h : Inv to fr k free) (hp : p < k) (hb : b ≤ k) (hbf : b ≠ free) (h1 : to p = some (b : Int)) (h2 : fr b = some (p : Int)) :
    Inv (mput (mdel to p) p free) (mput (mdel fr b) free p) k b := by
  have hne : (b : Int) ≠ (free : Int) := by omega
  refine ⟨fun j hj => ?_, ?_, hb⟩
  · by_cases e : j = p
    · subst e
      exact ⟨free, h.le, fun e => hbf e.symm, mput_same _ _ _, mput_same _ _ _⟩
    · obtain ⟨c, hc, hcf, h3, h4⟩ := h.at_ j hj
      have hcb : c ≠ b := by
        rintro rfl
        rw [h2] at h4
        have := Option.some.inj h4
        omega
      refine ⟨c, hc, hcb, ?_, ?_⟩
      · rw [mput_other _ _ _ _ (by omega), mdel_other _ _ _ (by omega)]; exact h3
      · rw [mput_other _ _ _ _ (by omega), mdel_other _ _ _ (by omega)]; exact h4
  · rw [mput_other _ _ _ _ hne, mdel_same]
/-- The first k stand each on its own. -/
def D (k : Nat) (x : Int) : Option Int := if 0 ≤ x ∧ x < k then some x else none
theorem D_no (k : Nat) : D k k = none := by unfold D; rw [if_neg (by omega)]
theorem D_put (k : Nat) (x : Int) : mput (D k) k k x = D (k + 1) x := by
  unfold mput D
  by_cases h : x = k
  · subst h; rw [if_pos rfl, if_pos (by omega)]
  · rw [if_neg h]; by_cases h2 : (0 : Int) ≤ x ∧ x < k
    · rw [if_pos h2, if_pos (by omega)]
    · rw [if_neg h2, if_neg (by omega)]
theorem D_inv (k : Nat) : Inv (D k) (D k) k k :=
  ⟨fun j hj => ⟨j, by omega, by omega, by unfold D; rw [if_pos (by omega)], by unfold D; rw [if_pos (by omega)]⟩, D_no k, Nat.le_refl _⟩

set_option maxRecDepth 20000 in
set_option maxHeartbeats 2000000 in
theorem walk (num : Int) (ao : Option Addr) (len cap : Nat) (zs : Nat → Int) (w : World) (hlen : len ≤ maxLen) (hz : IsInts .i64 w ao len zs) :
    Calls Try.prog 7 #[.int .i64 num, .slice ao len cap] w fun e w' => e = .returned (.bool true) ∧ Kept [] w w' := by
  unfold maxLen at hlen
  obtain ⟨r, hr, er⟩ := mod_small num 10 (by decide) (by decide)
  have HZ := hide hz
  clear hz
  go_enter Try.func7, Try.ntmps7
  go_wp2_with fail
  refine (TII.new_ok _).mono ?_
  rintro e w1 ⟨g, bt, bf, rfl, t1, hg, hbt, hbf, k1⟩
  have T1 := hide t1
  have K1 := hide k1
  clear t1 k1
  go_wp2_with fail
  refine (tables_true _).mono ?_
  rintro e w2 ⟨rfl, k2⟩
  have T2 := hide (T1.out.kept0 k2)
  have K2 := hide (K1.out.next k2)
  clear T1 K1 k2
  go_wp2_with fail
  clear er
  go_loopw [7] (fun i wr => ∃ k : Nat, k ≤ 1 + r ∧ i = .int .i64 k ∧ TII.TwoAt wr g bt bf k k (D k) (D k) ∧ Kept [] w wr) (fun i _ => 1 + r - (intOf i).toNat)
  case atStart => exact ⟨0, by omega, rfl, T2.out.congr (fun x _ => by unfold D; rw [if_neg (by omega)]) (fun x _ => by unfold D; rw [if_neg (by omega)]), K2.out⟩
  case round =>
    obtain ⟨k, hk, rfl, t, kk⟩ := hrel
    have T := hide t
    have KK := hide kk
    clear t kk T2 K2
    by_cases hlt : k < 1 + r
    · go_wp2_with fail
      refine (TII.map_ok k k (okSI (by omega) (by omega)) (okSI (by omega) (by omega)) T.out (by omega) (by omega) (by omega) (by rw [D_no]; rfl) (by rw [D_no]; rfl)).mono ?_
      rintro e w3 ⟨rfl, t3, k3⟩
      have T3 := hide (t3.congr (fun x _ => D_put k x) (fun y _ => D_put k y))
      have K3 := hide (KK.out.trans k3 (by intro x hx hl; simp at hx; omega))
      clear t3 k3 T KK
      go_wp2
      go_roundw
      case rel => exact ⟨k + 1, by omega, by go_num, T3.out, K3.out⟩
      case measure => simp [intOf]; omega
    · go_wp2_with fail
      go_loopw [8, 9] (fun f i wr => ∃ (free j : Nat) (to fr : Int → Option Int), f = .int .i64 free ∧ j ≤ len ∧ j ≤ 40 ∧ i = .int .i64 j ∧ TII.TwoAt wr g bt bf (1 + r + j) (1 + r : Int) to fr ∧ Inv to fr (1 + r) free ∧ Kept [] w wr) (fun _ i _ => 40 - (intOf i).toNat)
      case atStart =>
        obtain rfl : k = 1 + r := by omega
        exact ⟨1 + r, 0, _, _, by simp, by omega, by omega, rfl, by simpa using T.out, D_inv (1 + r), KK.out⟩
      case round =>
        obtain ⟨free, j, to, fr, rfl, hj, hj40, rfl, t, hI, kk⟩ := hrel
        have TJ := hide t
        have KJ := hide kk
        have IJ := hide hI
        have hfree := hI.le
        clear t kk T KK hI hlt hk
        by_cases hjl : j < len ∧ j < 40
        · obtain ⟨hjl, hj4⟩ := hjl
          obtain ⟨b0, off, hao, hcell, _⟩ := HZ.out j hjl
          subst hao
          have hcr := KJ.out.cell hcell (by simp)
          obtain ⟨p, hp, ep⟩ := mod_small (zs j) (1 + r) (by omega) (by omega)
          obtain ⟨b, hb, hbf2, h1, h2⟩ := IJ.out.at_ p (by omega)
          have H1 := hide h1
          have I2 := hide (IJ.out.step (by omega) hb hbf2 h1 h2)
          have HN := hide IJ.out.no
          clear h1 h2 hcell IJ
          go_wp2_with fail
          refine (TII.remap_ok p b free (okSI (by omega) (by omega)) (okSI (by omega) (by omega)) (okSI (by omega) (by omega)) TJ.out (by omega) (by omega) (by omega) H1.out HN.out).mono ?_
          rintro e w3 ⟨rfl, t3, k3⟩
          have T3 := hide t3
          have K3 := hide (KJ.out.trans k3 (by intro x hx hl; simp at hx; omega))
          clear t3 k3 TJ KJ hcr
          go_wp2_with fail
          refine (TII.len_any T3.out).mono ?_
          rintro e w4 ⟨rfl, hw4⟩
          subst w4
          go_wp2_with fail
          refine (TII.remap_bad p free (okSI (by omega) (by omega)) T3.out (by rw [mput_same]; rfl)).mono ?_
          rintro e w5 ⟨rfl, k5⟩
          have T5 := hide (T3.out.kept0 k5)
          have K5 := hide (K3.out.next k5)
          clear T3 K3 k5 H1 HN ep
          obtain ⟨to2, hto2⟩ : ∃ t, t = mput (mdel to p) p free := ⟨_, rfl⟩
          obtain ⟨fr2, hfr2⟩ : ∃ t, t = mput (mdel fr b) free p := ⟨_, rfl⟩
          rw [← hto2, ← hfr2] at T5 I2
          clear hto2 hfr2
          go_wp2_with fail
          go_loopw [15] (fun i wr => ∃ q : Nat, q ≤ 1 + r ∧ i = .int .i64 q ∧ TII.TwoAt wr g bt bf (1 + r + j + 1) (1 + r : Int) to2 fr2 ∧ Kept [] w wr) (fun i _ => 1 + r - (intOf i).toNat)
          case atStart => exact ⟨0, by omega, rfl, T5.out, K5.out⟩
          case round =>
            obtain ⟨q, hq, rfl, t, kk⟩ := hrel
            have TQ := hide t
            have KQ := hide kk
            clear t kk T5 K5
            by_cases hqr : q < 1 + r
            · obtain ⟨c, hc, hcf, h3, h4⟩ := I2.out.at_ q hqr
              have H3 := hide h3
              have H4 := hide h4
              have hcb : ((c : Int) == (b : Int)) = false := by simp; omega
              clear h3 h4 hcf
              go_wp2_with fail
              refine (TII.to_any q (okSI (by omega) (by omega)) TQ.out c true (by rw [H3.out]; rfl) (by rw [H3.out]; rfl)).mono ?_
              rintro e w6 ⟨rfl, k6⟩
              have T6 := hide (TQ.out.kept0 k6)
              have K6 := hide (KQ.out.next k6)
              clear TQ KQ k6
              go_wp2_with fail
              refine (TII.from_any c (okSI (by omega) (by omega)) T6.out q true (by rw [H4.out]; rfl) (by rw [H4.out]; rfl)).mono ?_
              rintro e w7 ⟨rfl, k7⟩
              have T7 := hide (T6.out.kept0 k7)
              have K7 := hide (K6.out.next k7)
              clear T6 K6 k7 H3 H4
              go_wp2
              go_roundw
              case rel => exact ⟨q + 1, by omega, by go_num, T7.out, K7.out⟩
              case measure => simp [intOf]; omega
            · go_wp2
              go_roundw
              case rel => exact ⟨b, j + 1, to2, fr2, rfl, by omega, by omega, by go_num, by have := TQ.out; rwa [show 1 + r + j + 1 = 1 + r + (j + 1) by omega] at this, I2.out, KQ.out⟩
              case measure => simp [intOf]; omega
        · rcases (show (j < 40 ∧ len ≤ j) ∨ (40 ≤ j ∧ j < len) ∨ (40 ≤ j ∧ len ≤ j) from by omega) with ⟨h40, hle⟩ | ⟨h40, hle⟩ | ⟨h40, hle⟩
          all_goals
            go_wp2
            go_ret
            exact ⟨rfl, KJ.out⟩

theorem own : ownKnob Try.prog.godebug = none := by kernel_rfl
theorem laidOut : laidOutB Try.prog = true := by kernel_rfl

set_option maxRecDepth 100000 in
theorem lifted (os : Os) (started : os.Started) (H : Type) (enc : TypeId × Value → H) :
    ReturnsInHanded {} Try.checked os 7 .any (Rows.tableSwapsSpec.pre6 enc Try.prog Try.f7 Rows.tableSwapsRow.domain false) (Rows.tableSwapsSpec.post enc Try.prog Try.f7 false true false false) := by
  refine returnsInHanded_of_change (C := Try.checked) own started (by kernel_rfl) Try.func7
    (ChangeSpec.witness6 (enc := enc) (C := Try.checked) false ⟨#[], #[.int .i64 0, .slice none 0 0], []⟩ 8 (by kernel_rfl) (by kernel_rfl) (by kernel_rfl) (by kernel_rfl)) ?_
  intro W base args ds gs before hval0 hW hcnd _
  have hval : ∀ (j : Nat) t v, Try.f7.params[j]? = some t → args[j]? = some v → Value.okWide Try.prog W .any base t v := hval0
  have hW' := hW
  obtain ⟨p, q, hA0, hV, rfl, hfz, hnd⟩ := hW
  have hA : DataW.TrodAll enc Try.prog W 0 (fun _ => true) true Try.f7.params.toList args.toList ds p := hA0
  have hK := hA
  rw [Try.params7] at hA hval
  obtain ⟨v0, vs0, d0, ds0, p0, q0, hargs, rfl, rfl, h0, r0⟩ := trodAll_cons hA
  obtain ⟨v1, vs1, d1, ds1, p1, q1, rfl, rfl, rfl, h1, r1⟩ := trodAll_cons r0
  obtain ⟨rfl, rfl, rfl⟩ := trodAll_nil r1
  obtain rfl : args = #[v0, v1] := by cases args; simp_all
  obtain ⟨rfl, rfl⟩ := trodVars_none hV
  obtain ⟨num, rfl, rfl, rfl, w0⟩ := open_int Try.underlying3 (hval 0 3 v0 rfl rfl) h0
  obtain ⟨a1, len1, cap1, zs1, rfl, hl1, hm1, hn1, hT1⟩ := open_list Try.underlying49 Try.underlying3 (by kernel_rfl) (okWide_slice Try.underlying49 (hval 1 49 v1 rfl rfl)) h1
  clear hA0 hval0
  refine (walk num a1 len1 cap1 zs1 W (Nat.le_trans hl1 hm1) hT1).mono fun e W' ⟨he, hk⟩ => ?_
  subst he
  exact ⟨_, rfl, _, _, _, [], _, [], hW', trodAll_mk1 (shut_bool Try.underlying4 _), trodAll_below laidOut hk.below _ _ _ _ hK (by kernel_rfl), rfl, hk.below.frame _, fun h => by cases h⟩

theorem said : Rows.TableSwapsSaid :=
  OpenClaim.holds_of_wide 7 Try.f7 rfl rfl rfl rfl rfl rfl rfl ⟨rfl, rfl, rfl, rfl, rfl⟩ rfl rfl rfl rfl rfl (by kernel_rfl) Try.func7 (by kernel_rfl)
    (of_decide_eq_true (by kernel_rfl)) (by unfold Func.isWrapper; first | (rw [if_pos (by decide +kernel)]; kernel_rfl) | (rw [if_neg (by decide +kernel)]; exact ⟨rfl, rfl⟩))
    (fun os started H enc _ => lifted os started H enc)
end Go.Proofs.Ytockkmoanbddpaa.swaps
