
/-
  No statement of the program: 'frags' and 'both' of the statements of layer 28: a buddy and the document's, behind a row of acts, over this seat's translation.
-/
import Derived.Test.YtpljldjdemobbaaDoorFrg2
import Derived.Test.YtpljldjdemobbaaDoorHalves
namespace Go.Proofs.YtpljldjdemobbaaDoor.By
open Go.ChangeShapes Go.WideShapes Go.ChangeAt Go.RowKit
theorem frag1 : tops (upd (u0 3) (0 * 2 ^ 3 / 2 ^ 0) 0 true) 0 = 1 ∧ tops (upd (u0 3) (0 * 2 ^ 3 / 2 ^ 0) 0 true) 1 = 1 ∧ tops (upd (u0 3) (0 * 2 ^ 3 / 2 ^ 0) 0 true) 2 = 1 :=
  ⟨(lo1 (K := 3) (o := 0) (j := 0) (by decide) (by decide) (by decide)).tops, (lo1 (K := 3) (o := 0) (j := 1) (by decide) (by decide) (by decide)).tops, (lo1 (K := 3) (o := 0) (j := 2) (by decide) (by decide) (by decide)).tops⟩
set_option maxHeartbeats 1000000 in
theorem frags_true {w : World} (hT : Tab w) : Calls Tryd.prog 9 #[] w fun e w' => e = .returned (.bool true) ∧ Kept [] w w' := by
  have T := hide hT
  clear hT
  go_enter Tryd.func9, Tryd.ntmps9
  go_wp2_with fail
  refine (bs_new 3 8 (by decide) rfl T.out rfl).mono ?_
  rintro e w1 ⟨p, F, rfl, hB, -, hF, hk⟩
  have B1 := hide hB
  have HF := hide hF
  have K1 := hide hk
  clear hB hF hk
  go_wp2_with fail
  refine (bs_take 0 3 0 B1.out (least0 (by decide) (by decide)) rfl).mono ?_
  rintro e w2 ⟨f', F2, rfl, hf, hB, hk, hF2⟩
  have hf7 : f' = 7 := by omega
  subst hf7
  have K2 := hide (K1.out.trans hk (fun x hx hl => by have := HF.out x hx; omega))
  obtain ⟨t0, t1, t2⟩ := frag1
  have hs := hB.tsum
  have h3 := tsum_fits (upd (u0 3) (0 * 2 ^ 3 / 2 ^ 0) 0 true) 3 8
  have e3 : tsum (upd (u0 3) (0 * 2 ^ 3 / 2 ^ 0) 0 true) 3 = 7 := by
    show tsum _ 2 + _ = _
    rw [t2]
    show tsum _ 1 + _ + _ = _
    rw [t1]
    show tsum _ 0 + _ + _ + _ = _
    rw [t0]; rfl
  have e2 : tsum (upd (u0 3) (0 * 2 ^ 3 / 2 ^ 0) 0 true) 2 = 3 := by
    show tsum _ 1 + _ = _
    rw [t1]
    show tsum _ 0 + _ + _ = _
    rw [t0]; rfl
  have hz : ∀ j, 3 ≤ j → j < 11 → tops (upd (u0 3) (0 * 2 ^ 3 / 2 ^ 0) 0 true) j = 0 := fun j h1 h2 => (fits_zero (d := 8)).1 (by rw [show 3 + 8 = 11 by rfl, hs, e3] at h3; omega) j h1 (by omega)
  have B2 := hide hB
  clear hB hk hF2 K1 HF B1 hf T h3 e3 hs
  generalize hu : upd (u0 3) (0 * 2 ^ 3 / 2 ^ 0) 0 true = u at *
  have eb : best (tops u) 11 = 2 := by
    simp [best, hz, t2]
  have ef : fits (tops u) 1 (11 - 1) = 3 := by
    simp [fits, hz, t1, t2]
  have L1 := hide (largest_any (orders_ok B2.out))
  go_wp2_with fail
  refine (index_ok B2.out 2 (by decide) (by decide) rfl).mono ?_
  rintro e w3 ⟨rfl, hk3⟩
  have K3 := hide (K2.out.next hk3)
  have B3 := hide (B2.out.kept0 hk3)
  rw [e2]
  clear hk3 K2 L1 B2
  go_wp2_with (first
    | (go_at_call 10; refine (largest_any (orders_ok B3.out)).mono ?_; rintro e w4 ⟨rfl, hk4⟩; rw [eb]; have B4 := hide (B3.out.kept0 hk4); have K4 := hide (K3.out.next hk4); clear hk4)
    | (go_at_call 11; refine (fits_any (fun j hj => B4.out.tops_le (by omega)) (orders_ok B4.out) 1 (by decide) rfl).mono ?_; rintro e w5 ⟨rfl, hk5⟩; rw [ef]; have K5 := hide (K4.out.next hk5); clear hk5))
  go_ret
  exact ⟨rfl, K5.out⟩
/-- A row of acts of a yes or no and two numbers each. -/
def IsFActs (w : World) (a : Option Addr) (len : Nat) : Prop :=
  ∀ i, i < len → ∃ (b off : Nat) (g : Bool) (y z : Int), a = some ⟨b, off, none⟩ ∧ w.cell? ⟨b, off + i * 3, none⟩ = some (.bool g) ∧ w.cell? ⟨b, off + i * 3 + 1, none⟩ = some (.int .i64 y) ∧ w.cell? ⟨b, off + i * 3 + 2, none⟩ = some (.int .i64 z)
theorem IsFActs.kept {w w' : World} {a : Option Addr} {len : Nat} (h : IsFActs w a len) (k : Kept [] w w') : IsFActs w' a len := fun i hi => by
  obtain ⟨b, off, x, y, z, rfl, h1, h2, h3⟩ := h i hi
  exact ⟨b, off, x, y, z, rfl, k.cell h1 (by simp), k.cell h2 (by simp), k.cell h3 (by simp)⟩
/-- A buddy and the document's, of which the same is taken. -/
def Twin (w wr : World) (p K r : Nat) : Prop := ∃ (ub base : Nat) (u : Nat → Bool) (tk : Nat → Nat) (F : List Nat) (tv : Value) (t : List (Nat × Nat)), t.length ≤ 40 ∧ BA w wr p K (2 ^ K) r ub base u tk F t u tv t
set_option maxRecDepth 20000 in
set_option maxHeartbeats 8000000 in
theorem both_ok (n K : Nat) (hK : K ≤ 10) (hn : n = 2 ^ K) {ao : Option Addr} {len cap : Nat} {w : World} (_hlen : len ≤ maxLen) (hA : IsFActs w ao len) (hT : Tab w) {ni : Int} (en : ni = n) :
    Calls Tryd.prog 13 #[.int .i64 ni, .slice ao len cap] w fun e w' => ∃ p r, e = .returned (.tuple #[.pointer (some ⟨p, 0, none⟩), .pointer (some ⟨r, 0, none⟩)]) ∧ Twin w w' p K r := by
  subst en
  unfold maxLen at _hlen
  have T := hide hT
  have HN := hide hn
  have HA := hide hA
  have h1 : 1 ≤ n := by rw [hn]; exact two_pos K
  have h2 : n ≤ 1024 := by rw [hn]; exact n1024 hK
  clear hT hn hA
  go_enter Tryd.func13, Tryd.ntmps13
  go_wp2_with fail
  refine (bs_new K n hK HN.out T.out rfl).mono ?_
  rintro e w3 ⟨p, F, rfl, hB, -, hF, hk3⟩
  have B3 := hide hB
  have F3 := hide hF
  have K3 := hide hk3
  clear hB hF hk3 T
  go_wp2_with fail
  refine (rnew_ok n h2 rfl).mono ?_
  rintro e w4 ⟨r, ub, rfl, hR, hr1, hr2, hk4⟩
  have c0 : cnt n (u0 K) = 2 ^ K := by
    have e1 : cnt n (u0 K) = cnt n (fun _ => false) := cnt_congr (fun i hi => by have := HN.out; simp [u0]; omega)
    rw [e1, ← HN.out]
    unfold cnt
    simp
  have S4 := hide (show BA w w4 p K n r ub w3.heap.size (u0 K) (fun _ => 0) F [] (u0 K) (.slice none 0 0) [] from by
    refine ⟨by rw [c0]; exact B3.out.kept0 hk4, hR.congr (fun i hi => by have := HN.out; simp [u0]; omega), fun A o _ => by simp, by simp, fun A o h => by simp at h, fun x hx => F3.out x hx, fun x hx => ?_, fun x hx hm => ?_, K3.out.next hk4, hk4.size⟩
    · rcases mem_rfoot.1 hx with e | e | e
      · have := K3.out.size; omega
      · have := K3.out.size; omega
      · cases e
    · have h3 := B3.out.lt x hx
      rcases mem_rfoot.1 hm with e | e | e
      · omega
      · omega
      · cases e)
  clear c0 hR hr1 hr2 hk4 B3 F3 K3
  go_wp2_with fail
  go_loopw [9] (fun v wr => ∃ (i : Nat) (u : Nat → Bool) (tk : Nat → Nat) (F : List Nat) (tv : Value) (t : List (Nat × Nat)), v = .int .i64 i ∧ i ≤ len ∧ i ≤ 40 ∧ t.length ≤ i ∧ BA w wr p K n r ub w3.heap.size u tk F t u tv t) (fun v _ => 40 - (intOf v).toNat)
  case atStart => exact ⟨0, _, _, _, _, [], rfl, Nat.zero_le _, Nat.zero_le _, by simp, S4.out⟩
  case round =>
    obtain ⟨i, u, tk, F', tv, t, rfl, hil, hi30, htl, hS⟩ := hrel
    have S := hide hS
    clear hS S4
    by_cases hi : i < len ∧ i < 40
    · obtain ⟨b, off, gv, od, at_, rfl, e1, e2, e3⟩ := (HA.out.kept S.out.kept) i hi.1
      have hi1 : (i : Int) < len := by omega
      have hi2 : (i : Int) < 40 := by omega
      obtain ⟨ao9, cp9, htv⟩ := own_shape S.out.rb.own
      subst htv
      have r1 := S.out.rb.c1
      cases gv with
      | false =>
        obtain ⟨o, ho, hy⟩ := mod_small od 5 (by decide) (by decide)
        have ho10 : o ≤ 10 := by omega
        rcases S.out.bs.finds o with ⟨A, hF⟩ | hF
        · have HF := hide hF
          have HOut := hide S.out.bs.out
          rw [← HN.out] at HOut
          go_wp2_with fail
          refine (S.out.take HN.out o A ho10 HF.out rfl).mono ?_
          rintro e w5 ⟨tk5, F5, rfl, hS5, hk5⟩
          have S5 := hide hS5
          clear hS5 hk5 S
          go_wp2_with fail
          refine (S5.out.take2 h2 HOut.out (by omega) o A HF.out rfl).mono ?_
          rintro e w6 ⟨tv6, rfl, hS6, hk6⟩
          have S9 := hide hS6
          clear hS6 hk6 S5 HOut HF
          go_wp2_with fail
          go_roundw
          case rel => exact ⟨i + 1, _, _, _, _, _, by go_num, by omega, by omega, by simp; omega, S9.out⟩
          case measure => simp [intOf]; omega
        · have HF := hide hF
          have HOut := hide S.out.bs.out
          rw [← HN.out] at HOut
          go_wp2_with fail
          refine (bs_none o S.out.bs ho10 HF.out rfl).mono ?_
          rintro e w' ⟨rfl, hw⟩
          subst w'
          go_wp2_with fail
          refine (rtake_no S.out.rb h2 HOut.out o ho10 HF.out rfl).mono ?_
          rintro e w6 ⟨rfl, hk6⟩
          have S9 := hide (S.out.next hk6)
          clear hk6 S HOut HF
          go_wp2_with fail
          go_roundw
          case rel => exact ⟨i + 1, _, _, _, _, _, by go_num, by omega, by omega, by omega, S9.out⟩
          case measure => simp [intOf]; omega
      | true =>
        by_cases ht0 : t.length = 0
        · have r1' := r1
          rw [ht0] at r1'
          clear r1
          obtain ⟨o, ho, hy⟩ := mod_small od 5 (by decide) (by decide)
          have ho10 : o ≤ 10 := by omega
          rcases S.out.bs.finds o with ⟨A, hF⟩ | hF
          · have HF := hide hF
            have HOut := hide S.out.bs.out
            rw [← HN.out] at HOut
            go_wp2_with fail
            refine (S.out.take HN.out o A ho10 HF.out rfl).mono ?_
            rintro e w5 ⟨tk5, F5, rfl, hS5, hk5⟩
            have S5 := hide hS5
            clear hS5 hk5 S
            go_wp2_with fail
            refine (S5.out.take2 h2 HOut.out (by omega) o A HF.out rfl).mono ?_
            rintro e w6 ⟨tv6, rfl, hS6, hk6⟩
            have S9 := hide hS6
            clear hS6 hk6 S5 HOut HF
            go_wp2_with fail
            go_roundw
            case rel => exact ⟨i + 1, _, _, _, _, _, by go_num, by omega, by omega, by simp; omega, S9.out⟩
            case measure => simp [intOf]; omega
          · have HF := hide hF
            have HOut := hide S.out.bs.out
            rw [← HN.out] at HOut
            go_wp2_with fail
            refine (bs_none o S.out.bs ho10 HF.out rfl).mono ?_
            rintro e w' ⟨rfl, hw⟩
            subst w'
            go_wp2_with fail
            refine (rtake_no S.out.rb h2 HOut.out o ho10 HF.out rfl).mono ?_
            rintro e w6 ⟨rfl, hk6⟩
            have S9 := hide (S.out.next hk6)
            clear hk6 S HOut HF
            go_wp2_with fail
            go_roundw
            case rel => exact ⟨i + 1, _, _, _, _, _, by go_num, by omega, by omega, by omega, S9.out⟩
            case measure => simp [intOf]; omega

        · have hlen0 : 0 < t.length := by omega
          obtain ⟨g, cp, htv, hg1, hg2⟩ := World.ownsRow.form S.out.rb.own hlen0
          cases htv
          have hti : ¬ ((t.length : Int) = 0) := by omega
          have htb : ((t.length : Int) == 0) = false := by simpa using hti
          obtain ⟨k, hkI, hkW⟩ := mod_raw at_ t.length (by omega)
          have hkR2 : IntKind.u64.wrap at_ % (t.length : Int) = (k : Int) := by
            rw [← hkW]; exact (Int.tmod_eq_emod_of_nonneg (by rw [IntKind.wrap_u64]; omega)).symm
          have hwk1 : IntKind.i64.wrap (k : Int) = (k : Int) := by rw [IntKind.wrap_i64]; omega
          have hwk2 : IntKind.u64.wrap (k : Int) = (k : Int) := by rw [IntKind.wrap_u64]; omega
          have hk : k < t.length := by omega
          obtain ⟨A, o, hkD⟩ : ∃ A o, t.getD k (0, 0) = (A, o) := ⟨_, _, rfl⟩
          obtain ⟨f1, f2⟩ := flat_get t k hk
          rw [hkD] at f1 f2
          have g1 := World.ownsRow.cells S.out.rb.own (g := g) rfl _ _ f1
          have g2 := World.ownsRow.cells S.out.rb.own (g := g) rfl _ _ f2
          rw [add_plain, Nat.zero_add] at g1 g2
          have g1' : wr.cell? ⟨g, k * 2, none⟩ = some (.int .i64 (A : Int)) := g1
          have g2' : wr.cell? ⟨g, k * 2 + 1, none⟩ = some (.int .i64 (o : Int)) := g2
          obtain ⟨d1, d2, d3, d4, d5⟩ := drop_two S.out.nd hk
          rw [hkD] at d2 d3
          have hmt := d3
          have hkE : t[k] = (A, o) := by rw [← hkD]; simp [hk]
          have hkm : ∀ j, j < k → t.getD j (0, 0) ≠ (A, o) := fun j hj e => by
              have h5 : t[j] = t[k] := by
                have : t.getD j (0, 0) = t[j] := by simp [show j < t.length by omega]
                rw [← this, e, hkE]
              exact List.pairwise_iff_getElem.1 S.out.nd j k (by omega) hk hj h5
          obtain ⟨k1, k2, k3, k4⟩ := S.out.bs.tok.ok A o (S.out.lt A o hmt).1 ((S.out.tkt A o (S.out.lt A o hmt).1).2 hmt)
          have ho10 := k1
          have D1 := hide d1
          have D2 := hide d2
          have D5 := hide d5
          have HM := hide hmt
          have HKD := hide hkD
          have HKM := hide hkm
          have E2 := hide k2
          have E4 := hide (show (A / 2 ^ o + 1) * 2 ^ o ≤ n by rw [HN.out]; exact k4)
          have hk0 : (0 : Int) ≤ (k : Int) := by omega
          clear d1 d2 d3 d4 d5 hmt hkD hkm k1 k2 k3 k4 hkE f1 f2 g1 g2
          go_wp2_with fail
          have hwl : IntKind.u64.wrap (t.length : Int) = (t.length : Int) := by rw [IntKind.wrap_u64]; omega
          go_region_held3 (fun w' => w'.cell? ⟨r, 1, none⟩ = some (.slice (some ⟨g, 0, none⟩) t.length cp9) ∧ w'.cell? ⟨b, off + i * 3 + 2, none⟩ = some (.int .i64 at_) ∧ w'.cell? ⟨g, k * 2, none⟩ = some (.int .i64 (A : Int)) ∧ w'.cell? ⟨g, k * 2 + 1, none⟩ = some (.int .i64 (o : Int))) (go_keep) (fail)
          have S2 := hide (S.out.next (((Kept.refl [] wr).alloc (.cells #[.int .i64 (A : Int), .int .i64 (o : Int)] 49)).drew))
          have m0 : (wr.alloc (.cells #[.int .i64 (A : Int), .int .i64 (o : Int)] 49)).drew.cell? ⟨wr.heap.size, 0, none⟩ = some (.int .i64 (A : Int)) := by
            simp
          have m1 : (wr.alloc (.cells #[.int .i64 (A : Int), .int .i64 (o : Int)] 49)).drew.cell? ⟨wr.heap.size, 1, none⟩ = some (.int .i64 (o : Int)) := by
            simp
          have lF := hide (show wr.heap.size ∉ F' from fun hm => Nat.lt_irrefl _ (S.out.bs.lt _ hm))
          have lR := hide (show wr.heap.size ∉ rfoot r ub (.slice (some ⟨g, 0, none⟩) t.length cp9) from fun hm => Nat.lt_irrefl _ (S.out.rb.lt _ hm))
          clear S e1 e2 e3 g1' g2' r1
          generalize (wr.alloc (.cells #[.int .i64 (A : Int), .int .i64 (o : Int)] 49)).drew = w8 at S2 m0 m1 ⊢
          go_wp2_with (first
              | (go_at_call 20; refine (S2.out.give HN.out A o HM.out D1.out D2.out rfl rfl).mono ?_; rintro e w5 ⟨tk5, F5, rfl, hS5, hk5⟩; have l15 := hk5.cell m0 lF.out; have l25 := hk5.cell m1 lF.out; have S6 := hide hS5; clear hS5 hk5 m0 m1)
              | (go_at_call 26; refine (S6.out.give2 h2 (by omega) A o k hk HKD.out HKM.out ho10 E2.out E4.out rfl rfl).mono ?_; rintro e w6 ⟨tv6, rfl, hS6, hk6⟩; have l16 := hk6.cell l15 lR.out; have l26 := hk6.cell l25 lR.out; have S7 := hide hS6; clear hS6 hk6))
          have HD := D5.out
          go_roundw
          case rel => exact ⟨i + 1, _, _, _, _, _, by go_num, by omega, by omega, by omega, S7.out⟩
          case measure => simp [intOf]; omega
    · have hie : i = len ∨ i = 40 := by omega
      by_cases hi1 : i < len
      · have hi1' : (i : Int) < len := by omega
        have hi2 : ¬ (i : Int) < 40 := by omega
        go_wp2_with fail
        go_ret2
        exact ⟨p, r, rfl, ub, w3.heap.size, u, tk, F', tv, t, by omega, by rw [← HN.out]; exact S.out⟩
      · have hi1' : ¬ (i : Int) < len := by omega
        go_wp2_with fail
        go_ret2
        exact ⟨p, r, rfl, ub, w3.heap.size, u, tk, F', tv, t, by omega, by rw [← HN.out]; exact S.out⟩
end Go.Proofs.YtpljldjdemobbaaDoor.By
