/-
  MemoryHoles: for every page, address and number the law answers true, and its arguments read behind the call as before. No condition.
-/
import Derived.Test.YtockkmoanbddpaaMemHolds
import Derived.Test.YtockkmoanbddpaaLift
namespace Go.Proofs.Ytockkmoanbddpaa.holes
open Go.ChangeShapes Go.WideShapes Go.ChangeAt Go.RowKit Tb Me

/-- Pages 0 to k - 1 stand on their own frames, but h. -/
def T (h k : Nat) (x : Int) : Option Int := if 0 ≤ x ∧ x < k ∧ x ≠ h then some x else none
theorem T_no (h k : Nat) : T h k k = none := by unfold T; rw [if_neg (by omega)]
theorem T_put (h k : Nat) (hk : k ≠ h) (x : Int) : mput (T h k) k k x = T h (k + 1) x := by
  unfold mput T
  by_cases e : x = k
  · subst e; rw [if_pos rfl, if_pos (by omega)]
  · rw [if_neg e]; by_cases h2 : 0 ≤ x ∧ x < (k : Int) ∧ x ≠ h
    · rw [if_pos h2, if_pos (by omega)]
    · rw [if_neg h2, if_neg (by omega)]
theorem T_skip (h x) : T h h x = T h (h + 1) x := by
  unfold T
  by_cases h2 : 0 ≤ x ∧ x < (h : Int) ∧ x ≠ h
  · rw [if_pos h2, if_pos (by omega)]
  · rw [if_neg h2, if_neg (by omega)]
theorem T_at (h k q : Nat) (h1 : q < k) (h2 : q ≠ h) : T h k q = some (q : Int) := by unfold T; rw [if_pos (by omega)]
theorem T_hole (h k : Nat) : T h k h = none := by unfold T; rw [if_neg (by omega)]
/-- Does one of the first j bytes lie on page h? -/
def hitB (ad h : Nat) : Nat → Bool
  | 0 => false
  | j + 1 => hitB ad h j || decide ((ad + j) / 64 = h)
theorem hit_true (ad h : Nat) : ∀ j, hitB ad h j = true → ∃ i, i < j ∧ (ad + i) / 64 = h
  | 0, e => by cases e
  | j + 1, e => by
    simp only [hitB, Bool.or_eq_true, decide_eq_true_eq] at e
    rcases e with e | e
    · obtain ⟨i, hi, h2⟩ := hit_true ad h j e; exact ⟨i, by omega, h2⟩
    · exact ⟨j, by omega, e⟩
theorem hit_false (ad h : Nat) : ∀ j, hitB ad h j = false → ∀ i, i < j → (ad + i) / 64 ≠ h
  | 0, _, i, hi => by omega
  | j + 1, e, i, hi => by
    simp only [hitB, Bool.or_eq_false_iff, decide_eq_false_iff_not] at e
    by_cases h2 : i = j
    · subst h2; exact e.2
    · exact hit_false ad h j e.1 i (by omega)
theorem hit_t (ad h j : Nat) (e : hitB ad h j = true) : hitB ad h (j + 1) = true := by simp [hitB, e]
theorem hit_f (ad h j : Nat) (h2 : (ad + j) / 64 = h) : hitB ad h (j + 1) = true := by simp [hitB, h2]
theorem hit_n (ad h j : Nat) (e : hitB ad h j = false) (h2 : ¬ (ad + j) / 64 = h) : hitB ad h (j + 1) = false := by simp [hitB, h2, e]
def ones (j i : Nat) : UInt8 := if i < j then 1 else 0
theorem ones_set (j i : Nat) : (if i = j then bv 1 else bv (ones j i)) = bv (ones (j + 1) i) := by
  unfold ones
  by_cases e : i = j
  · subst e; rw [if_pos rfl, if_pos (by omega)]
  · rw [if_neg e]; by_cases h : i < j
    · rw [if_pos h, if_pos (by omega)]
    · rw [if_neg h, if_neg (by omega)]
theorem txt (kk ad : Nat) (hk : kk ≤ 200) : bt kk (fun i => wrt (pcs (fun q => q) ad kk) (fun _ => 0) (ones kk) (pos (fun q => q) (ad + i))) = bt kk (ones kk) :=
  bt_congr (fun i hi => by
    rw [wrt_pcs (fun q => q) (fun _ => True) (fun p q _ _ e => e) kk ad kk (fun _ => 0) (ones kk) (Nat.le_refl _) (fun _ _ _ => trivial) (ad + i) trivial, if_pos (by omega)]
    congr 1; omega)

set_option maxRecDepth 20000 in
set_option maxHeartbeats 4000000 in
theorem walk (hole at_ num : Int) (w : World) :
    Calls Try.prog 11 #[.int .i64 hole, .int .i64 at_, .int .i64 num] w fun e w' => e = .returned (.bool true) ∧ Kept [] w w' := by
  obtain ⟨h, hh, eh⟩ := mod_small hole 6 (by decide) (by decide)
  obtain ⟨kk, hkk, ekk⟩ := mod_small num 200 (by decide) (by decide)
  obtain ⟨ad, had, ead⟩ := mod_small at_ (384 - kk) (by omega) (by omega)
  have hmk := run_make_row' (P := Try.prog) 23 5 (.int .u8 0) 1 Try.underlying23 Fr.info rfl .i64 .i64 kk (by omega) (by omega)
  go_enter Try.func11, Try.ntmps11
  go_wp2_with fail
  refine (Fr.new_ok 1 8 (by decide) (by decide) (by decide) (by decide) 8 rfl).mono ?_
  rintro r w1 ⟨g, c, rfl, s1, hg, hc, k1⟩
  have S1 := hide s1
  have K1 := hide k1
  clear s1 k1
  go_wp2_with fail
  refine (new_ok S1.out).mono ?_
  rintro r w2 ⟨mm, u, bq, bf, rfl, m2, hmm, hu, hbt, hbf, k2⟩
  have M2 := hide m2
  have K2 := hide (K1.out.next k2)
  have h1s := K1.out.size
  clear m2 k2 S1 K1
  go_wp2_with fail
  refine (moves_true _).mono ?_
  rintro r w3 ⟨rfl, k3⟩
  have M3 := hide (M2.out.kept0 k3)
  have K3 := hide (K2.out.next k3)
  clear M2 K2 k3
  go_wp2_with fail
  go_loopw [12] (fun i wr => ∃ (k : Nat) (pc : Int), k ≤ 6 ∧ 0 ≤ pc ∧ pc ≤ k ∧ i = .int .i64 k ∧ MemAt wr mm g c 1 8 8 (fun _ => 0) u bq bf k pc (T h k) (T h k) ∧ Kept [] w wr) (fun i _ => 6 - (intOf i).toNat)
  case atStart => exact ⟨0, 0, by omega, by omega, by omega, rfl, M3.out.congr (fun x => by unfold T; rw [if_neg (by omega)]) (fun y => by unfold T; rw [if_neg (by omega)]), K3.out⟩
  case round =>
    obtain ⟨k, pc, hk, hpc, hpc2, rfl, hM, hK⟩ := hrel
    have MK := hide hM
    have KK := hide hK
    clear hM hK M3 K3
    by_cases hlt : k < 6
    · rcases (show (k ≤ h ∧ h ≤ k) ∨ k < h ∨ h < k by omega) with ⟨ha, hb⟩ | ha | ha
      · obtain rfl : k = h := by omega
        clear ha hb
        have M4 := hide (⟨MK.out.obj, MK.out.st, (MK.out.tw.mono (Nat.le_succ k)).congr (fun x _ => T_skip k x) (fun x _ => T_skip k x)⟩ : MemAt wr mm g c 1 8 8 (fun _ => 0) u bq bf (k + 1) pc (T k (k + 1)) (T k (k + 1)))
        clear MK
        go_wp2
        go_roundw
        case rel => exact ⟨k + 1, pc, by omega, by omega, by omega, by go_num, M4.out, KK.out⟩
        case measure => simp [intOf]; omega
      all_goals
        have hne : ((k : Int) == (h : Int)) = false := by simp; omega
        go_wp2_with fail
        refine (map_ok MK.out k k (by omega) (by omega) (by omega) (by omega) (by omega) (by omega) (by omega) (T_no h k) (T_no h k)).mono ?_
        rintro r w4 ⟨rfl, m4, k4⟩
        have M4 := hide (m4.congr (T_put h k (by omega)) (T_put h k (by omega)))
        have K4 := hide (KK.out.trans k4 (by intro x hx hl; simp at hx; omega))
        clear m4 k4 MK KK hne
        go_wp2
        go_roundw
        case rel => exact ⟨k + 1, pc + 1, by omega, by omega, by omega, by go_num, M4.out, K4.out⟩
        case measure => simp [intOf]; omega
    · obtain rfl : k = 6 := by omega
      clear hlt hk
      go_wp2_with fail
      simp only [ekk, ead]
      clear ekk ead eh hmk
      have hcw : c < wr.heap.size := MK.out.st.clt
      have KA : Hid (Kept [] wr (wr.alloc (.cells (madeCells #[.int .u8 0] kk) 5))) := hide ((Kept.refl [] wr).alloc _)
      have RA := hide (World.rowIs_made wr (.int .u8 0) kk 5)
      obtain ⟨bb, hbb⟩ : ∃ bb, bb = wr.heap.size := ⟨_, rfl⟩
      have hwb : w.heap.size ≤ bb := by rw [hbb]; exact KK.out.size
      rw [← hbb] at hcw RA ⊢
      have HBB := hide hbb
      clear hbb
      go_loopw [16] (fun i wq => ∃ j : Nat, j ≤ kk ∧ i = .int .i64 j ∧ wq.rowIs bb 5 kk (fun i => bv (ones j i)) ∧ Kept [] wr wq) (fun i _ => kk - (intOf i).toNat)
      case atStart => exact ⟨0, by omega, rfl, RA.out.congr (fun i _ => by simp [ones, bv]), KA.out⟩
      case round =>
        obtain ⟨j, hj, rfl, hR, hK⟩ := hrel
        by_cases hjk : j < kk
        · have cj := hR.cell hjk
          have fj := hR.frozen j
          have R5 := hide (And.intro ((hR.set j (bv 1)).congr (fun i _ => ones_set j i)) (hK.setCell (p := ⟨bb, j, none⟩) (by rw [HBB.out]; simp) (bv 1)))
          clear hR hK
          go_wp2
          go_roundw
          case rel => exact ⟨j + 1, by omega, by go_num, R5.out⟩
          case measure => simp [intOf]; omega
        · obtain rfl : j = kk := by omega
          have BB := hide (Bs.of_row hR (Nat.le_refl j))
          have MW := hide (MK.out.kept0 hK)
          have KW := hide (KK.out.next hK)
          clear hR hK MK KK KA RA hjk hj
          go_wp2_with fail
          go_loopw [17, 18] (fun hi i wq => ∃ q : Nat, q ≤ j ∧ i = .int .i64 q ∧ hi = .bool (hitB ad h q) ∧ Bs wq (some ⟨bb, 0, none⟩) j (ones j) ∧ MemAt wq mm g c 1 8 8 (fun _ => 0) u bq bf 6 pc (T h 6) (T h 6) ∧ Kept [] w wq) (fun _ i _ => j - (intOf i).toNat)
          case atStart => exact ⟨0, by omega, rfl, rfl, BB.out, MW.out, KW.out⟩
          case round =>
            obtain ⟨q, hq, rfl, rfl, hB, hM, hK⟩ := hrel
            have RR := hide (And.intro hB (And.intro hM hK))
            clear hB hM hK BB MW KW
            by_cases hqj : q < j
            · cases hh1 : hitB ad h q with
              | true =>
                have E := hide (hit_t ad h q hh1)
                clear hh1
                go_wp2
                go_roundw
                case rel => exact ⟨q + 1, by omega, by go_num, by rw [E.out], RR.out⟩
                case measure => simp [intOf]; omega
              | false =>
                by_cases h5 : (ad + q) / 64 = h
                · have E := hide (hit_f ad h q h5)
                  have e5 : (((ad : Int) + (q : Int)) / 64 == (h : Int)) = true := by simp; omega
                  clear hh1 h5
                  go_wp2
                  go_roundw
                  case rel => exact ⟨q + 1, by omega, by go_num, by rw [E.out], RR.out⟩
                  case measure => simp [intOf]; omega
                · have E := hide (hit_n ad h q hh1 h5)
                  have e5 : (((ad : Int) + (q : Int)) / 64 == (h : Int)) = false := by simp; omega
                  clear hh1 h5
                  go_wp2
                  go_roundw
                  case rel => exact ⟨q + 1, by omega, by go_num, by rw [E.out], RR.out⟩
                  case measure => simp [intOf]; omega
            · obtain rfl : q = j := by omega
              clear hq hqj
              cases hh1 : hitB ad h q with
              | false =>
                have HF := hide (hit_false ad h q hh1)
                have hpg : ∀ p : Nat, ad / 64 ≤ p → p * 64 < ad + q → 0 < q → T h 6 p = some (((fun p => p) p : Nat) : Int) := by
                  intro p h1 h2 h0
                  have := HF.out (max 0 (p * 64 - ad)) (by omega)
                  exact T_at h 6 p (by omega) (by omega)
                have PG := hide hpg
                have hpt : ∀ p : Nat, ad / 64 ≤ p → p * 64 < ad + q → (fun p => p) p < 8 := by intro p _ h2; show p < 8; omega
                have PT := hide hpt
                have TX := hide (txt q ad (by omega))
                clear hh1 hpg hpt HF
                go_wp2_with fail
                refine (write_ok (fun p => p) RR.out.2.1 ad q q (some ⟨bb, 0, none⟩) (by omega) (by omega) (Nat.le_refl _) RR.out.1 (by rintro a ha _; cases ha; show bb ≠ c; omega) PG.out PT.out).mono ?_
                rintro r w4 ⟨rfl, m4, k4⟩
                have M4 := hide m4
                have K4 := hide (RR.out.2.2.trans k4 (by intro x hx hl; simp at hx; omega))
                have B4 := hide (RR.out.1.kept k4 (by rintro a ha; cases ha; simp; omega))
                clear m4 k4 RR
                go_wp2_with fail
                refine (read_ok (fun p => p) M4.out ad q (by omega) (by omega) PG.out PT.out).mono ?_
                rintro r w5 ⟨ao5, cap5, rfl, b5, -, k5⟩
                have K5 := hide (K4.out.next k5)
                have t1 := run_text (cap := cap5) Try.underlying23 Try.underlying5 Try.underlying9 b5
                have t2 := run_text (cap := q) Try.underlying23 Try.underlying5 Try.underlying9 (B4.out.kept0 k5)
                rw [TX.out] at t1
                obtain ⟨X, hX⟩ : ∃ X, X = bt q (ones q) := ⟨_, rfl⟩
                rw [← hX] at t1 t2
                clear hX b5 k5 M4 K4 B4 TX PG PT
                go_wp2
                go_ret
                exact ⟨by simp, K5.out⟩
              | true =>
                obtain ⟨i0, hi0, hi1⟩ := hit_true ad h q hh1
                have hq1 : ad / 64 ≤ h := by omega
                have hq2 : h * 64 < ad + q := by omega
                have hpg : ∀ p : Nat, ad / 64 ≤ p → p < h → T h 6 p = some (((fun p => p) p : Nat) : Int) := fun p _ h2 => T_at h 6 p (by omega) (by omega)
                have PG := hide hpg
                have TH := hide (T_hole h 6)
                clear hh1 hpg hi1
                go_wp2_with fail
                refine (write_hole (fun p => p) RR.out.2.1 ad q q h (some ⟨bb, 0, none⟩) (by omega) (by omega) (by omega) hq1 hq2 TH.out PG.out).mono ?_
                rintro r w4 ⟨rfl, k4⟩
                have M4 := hide (RR.out.2.1.kept0 k4)
                have K4 := hide (RR.out.2.2.next k4)
                clear k4 RR
                go_wp2_with fail
                refine (read_hole (fun p => p) M4.out ad q h (by omega) (by omega) (by omega) hq1 hq2 TH.out PG.out).mono ?_
                rintro r w5 ⟨rfl, k5⟩
                have M5 := hide (M4.out.kept0 k5)
                have K5 := hide (K4.out.next k5)
                clear k5 M4 K4 PG TH
                go_wp2_with fail
                go_loopw [22] (fun i wq => ∃ p : Nat, p ≤ 6 ∧ i = .int .i64 p ∧ MemAt wq mm g c 1 8 8 (fun _ => 0) u bq bf 6 pc (T h 6) (T h 6) ∧ Kept [] w wq) (fun i _ => 6 - (intOf i).toNat)
                case atStart => exact ⟨0, by omega, rfl, M5.out, K5.out⟩
                case round =>
                  obtain ⟨p, hp, rfl, hM, hK⟩ := hrel
                  have MP := hide hM
                  have KP := hide hK
                  clear hM hK M5 K5
                  by_cases hp6 : p < 6
                  · go_wp2_with fail
                    refine (Fr.load_at p 0 64 rfl rfl rfl MP.out.st (by omega) (by omega)).mono ?_
                    rintro r w6 ⟨ao6, cap6, rfl, b6, -, k6⟩
                    have hmk := run_make_row' (P := Try.prog) 23 5 (.int .u8 0) 1 Try.underlying23 Fr.info rfl .i64 .i64 64 (by omega) (by omega)
                    rw [show (((64 : Nat)) : Int) = 64 from rfl] at hmk
                    have hZ := Bs.of_row (z := fun _ => 0) (World.rowIs_made w6 (.int .u8 0) 64 5) (Nat.le_refl 64)
                    have ka : Kept [] w6 (w6.alloc (.cells (madeCells #[.int .u8 0] 64) 5)) := (Kept.refl [] w6).alloc _
                    have t1 := run_text (cap := cap6) Try.underlying23 Try.underlying5 Try.underlying9 (b6.kept0 (Kept.refl [] w6).drew)
                    have t2 := run_text (cap := cap6) Try.underlying23 Try.underlying5 Try.underlying9 (b6.kept0 ka.drew)
                    have t3 := run_text (cap := 64) Try.underlying23 Try.underlying5 Try.underlying9 (hZ.kept0 ((Kept.refl [] (w6.alloc (.cells (madeCells #[.int .u8 0] 64) 5))).drew))
                    obtain ⟨X, hX⟩ : ∃ X, X = bt 64 (fun _ => 0) := ⟨_, rfl⟩
                    rw [← hX] at t1 t2 t3
                    have R6 := hide (And.intro (MP.out.kept0 (k6.next ka.drew)) (KP.out.next (k6.next ka.drew)))
                    clear hX hZ ka b6 k6 MP KP
                    go_wp2_with fail
                    go_region
                    all_goals
                      go_wp2
                      go_roundw
                      case rel => exact ⟨p + 1, by omega, by go_num, R6.out⟩
                      case measure => simp [intOf]; omega
                  · go_wp2
                    go_ret
                    exact ⟨rfl, KP.out⟩

theorem own : ownKnob Try.prog.godebug = none := by kernel_rfl
theorem laidOut : laidOutB Try.prog = true := by kernel_rfl

set_option maxRecDepth 100000 in
theorem lifted (os : Os) (started : os.Started) (H : Type) (enc : TypeId × Value → H) :
    ReturnsInHanded {} Try.checked os 11 .any (Rows.memoryHolesSpec.pre6 enc Try.prog Try.f11 Rows.memoryHolesRow.domain false) (Rows.memoryHolesSpec.post enc Try.prog Try.f11 false true false false) := by
  refine returnsInHanded_of_change (C := Try.checked) own started (by kernel_rfl) Try.func11
    (ChangeSpec.witness6 (enc := enc) (C := Try.checked) false ⟨#[], #[.int .i64 0, .int .i64 0, .int .i64 0], []⟩ 8 (by kernel_rfl) (by kernel_rfl) (by kernel_rfl) (by kernel_rfl)) ?_
  intro W base args ds gs before hval0 hW hcnd _
  have hval : ∀ (j : Nat) t v, Try.f11.params[j]? = some t → args[j]? = some v → Value.okWide Try.prog W .any base t v := hval0
  have hW' := hW
  obtain ⟨p, q, hA0, hV, rfl, hfz, hnd⟩ := hW
  have hA : DataW.TrodAll enc Try.prog W 0 (fun _ => true) true Try.f11.params.toList args.toList ds p := hA0
  have hK := hA
  rw [Try.params11] at hA hval
  obtain ⟨v0, vs0, d0, ds0, p0, q0, hargs, rfl, rfl, h0, r0⟩ := trodAll_cons hA
  obtain ⟨v1, vs1, d1, ds1, p1, q1, rfl, rfl, rfl, h1, r1⟩ := trodAll_cons r0
  obtain ⟨v2, vs2, d2, ds2, p2, q2, rfl, rfl, rfl, h2, r2⟩ := trodAll_cons r1
  obtain ⟨rfl, rfl, rfl⟩ := trodAll_nil r2
  obtain rfl : args = #[v0, v1, v2] := by cases args; simp_all
  obtain ⟨rfl, rfl⟩ := trodVars_none hV
  obtain ⟨hole, rfl, rfl, rfl, w0⟩ := open_int Try.underlying3 (hval 0 3 v0 rfl rfl) h0
  obtain ⟨at_, rfl, rfl, rfl, w1⟩ := open_int Try.underlying3 (hval 1 3 v1 rfl rfl) h1
  obtain ⟨num, rfl, rfl, rfl, w2⟩ := open_int Try.underlying3 (hval 2 3 v2 rfl rfl) h2
  clear hA0 hval0
  refine (walk hole at_ num W).mono fun e W' ⟨he, hk⟩ => ?_
  subst he
  exact ⟨_, rfl, _, _, _, [], _, [], hW', trodAll_mk1 (shut_bool Try.underlying4 _), trodAll_below laidOut hk.below _ _ _ _ hK (by kernel_rfl), rfl, hk.below.frame _, fun h => by cases h⟩

theorem said : Rows.MemoryHolesSaid :=
  OpenClaim.holds_of_wide 11 Try.f11 rfl rfl rfl rfl rfl rfl rfl ⟨rfl, rfl, rfl, rfl, rfl⟩ rfl rfl rfl rfl rfl (by kernel_rfl) Try.func11 (by kernel_rfl)
    (of_decide_eq_true (by kernel_rfl)) (by unfold Func.isWrapper; first | (rw [if_pos (by decide +kernel)]; kernel_rfl) | (rw [if_neg (by decide +kernel)]; exact ⟨rfl, rfl⟩))
    (fun os started H enc _ => lifted os started H enc)
end Go.Proofs.Ytockkmoanbddpaa.holes
