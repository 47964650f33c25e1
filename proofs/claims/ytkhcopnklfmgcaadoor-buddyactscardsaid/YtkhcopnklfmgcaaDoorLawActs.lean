/-
  BuddyActs, tied: for every count and row of acts the law answers true, and its arguments read behind the call as before. The two tables of math/bits that the row lists are as their own text lays them (the card ties them to it); the card speaks of the pruned copy of the project that the seat holds.
-/
import Derived.Test.YtkhcopnklfmgcaaDoorActs4
import Derived.Test.YtkhcopnklfmgcaaDoorBoth
import Derived.Test.YtkhcopnklfmgcaaDoorNils
import Derived.Test.YtkhcopnklfmgcaaDoorHalves
import Derived.Test.YtkhcopnklfmgcaaDoorActs3
import Derived.Test.YtkhcopnklfmgcaaDoorLift
import Derived.Test.YtkhcopnklfmgcaaDoorTabs
import Derived.Test.YtkhcopnklfmgcaaDoorCards
import Derived.Test.YtkhcopnklfmgcaaDoorTie
import Derived.Deep.DeepHandedRow
import Derived.Lay
import Derived.Deep.AppendLies
namespace Go.Proofs.YtkhcopnklfmgcaaDoor.acts
open Go.ChangeShapes Go.WideShapes Go.ChangeAt Go.RowKit By
set_option maxRecDepth 20000 in
set_option maxHeartbeats 2000000 in
theorem walkA (x : Int) (hx : x < 1 ∨ 1024 < x ∨ ∃ n : Nat, x = n ∧ 1 ≤ n ∧ n ≤ 1024 ∧ twoB n = false) {ao : Option Addr} {len cap : Nat} {w : World} (hT : Tab w) : Calls Tryd.prog 3 #[.int .i64 x, .slice ao len cap] w fun e w' => e = .returned (.bool true) ∧ Kept [] w w' := by
  have T := hide hT
  have HX := hide hx
  clear hT hx
  go_enter Tryd.func3, Tryd.ntmps3
  go_wp2_with (first | (go_at_call 11; refine (none_ok _).mono ?_; rintro e w' ⟨rfl, hw⟩; subst w') | (go_at_call 12; refine (take_nil _ _).mono ?_; rintro e w' ⟨rfl, hw⟩; subst w'))
  refine (halves_true T.out).mono ?_
  rintro e w2 ⟨rfl, hk2⟩
  have K2 := hide hk2
  clear hk2 T
  go_wp2_with (first | (go_at_call 11; refine (none_ok _).mono ?_; rintro e w' ⟨rfl, hw⟩; subst w') | (go_at_call 14; refine (give_nil _ _ _).mono ?_; rintro e w' ⟨rfl, hw⟩; subst w') | (go_at_call 15; refine (has_nil _ _).mono ?_; rintro e w' ⟨rfl, hw⟩; subst w') | (go_at_call 16; refine (free_nil _).mono ?_; rintro e w' ⟨rfl, hw⟩; subst w') | (go_at_call 17; refine (runs_nil _ _).mono ?_; rintro e w' ⟨rfl, hw⟩; subst w') | (go_at_call 18; refine (len_nil _).mono ?_; rintro e w' ⟨rfl, hw⟩; subst w'))
  rcases HX.out with hx | hx | ⟨n, rfl, h1, h2, h3⟩
  · refine (new_bad (.inl hx) w2).mono ?_
    rintro e w' ⟨rfl, hw⟩
    subst w'
    clear HX
    go_wp2
    go_ret
    exact ⟨rfl, K2.out⟩
  · refine (new_bad (.inr hx) w2).mono ?_
    rintro e w' ⟨rfl, hw⟩
    subst w'
    have hx2 : ¬ x < 1 := by omega
    clear HX
    go_wp2
    go_ret
    exact ⟨rfl, K2.out⟩
  · refine (new_odd n h1 h2 h3 w2).mono ?_
    rintro e w' ⟨rfl, hw⟩
    subst w'
    have ha := and_all n (by omega) h1
    rw [h3] at ha
    have hb : (bits .and .i64 (n : Int) ((n : Int) - 1) != 0) = true := by simp at ha; simpa using ha
    have hn1 : ¬ (n : Int) < 1 := by omega
    have hn2 : ¬ 1024 < (n : Int) := by omega
    clear HX ha
    go_wp2
    go_ret
    exact ⟨rfl, K2.out⟩
set_option maxRecDepth 20000 in
set_option maxHeartbeats 8000000 in
theorem walkB (n K : Nat) (hK : K ≤ 10) (hn : n = 2 ^ K) {ao : Option Addr} {len cap : Nat} {w : World} (_hlen : len ≤ maxLen) (hA : IsActs w ao len) (hT : Tab w) : Calls Tryd.prog 3 #[.int .i64 n, .slice ao len cap] w fun e w' => e = .returned (.bool true) ∧ Kept [] w w' := by
  unfold maxLen at _hlen
  have T := hide hT
  have HN := hide hn
  have HA := hide hA
  have h1 : 1 ≤ n := by rw [hn]; exact two_pos K
  have h2 : n ≤ 1024 := by rw [hn]; exact n1024 hK
  have ha := and_all n (by omega) h1
  rw [twoB_iff.2 ⟨K, hK, hn⟩] at ha
  have hb : (bits .and .i64 (n : Int) ((n : Int) - 1) != 0) = false := by simp at ha; simp [ha]
  have hn1 : ¬ (n : Int) < 1 := by omega
  have hn2 : ¬ 1024 < (n : Int) := by omega
  clear hT hn ha hA
  go_enter Tryd.func3, Tryd.ntmps3
  go_wp2_with (first | (go_at_call 11; refine (none_ok _).mono ?_; rintro e w' ⟨rfl, hw⟩; subst w') | (go_at_call 12; refine (take_nil _ _).mono ?_; rintro e w' ⟨rfl, hw⟩; subst w'))
  refine (halves_true T.out).mono ?_
  rintro e w2 ⟨rfl, hk2⟩
  have K2 := hide hk2
  have T2 := hide (T.out.kept hk2 (by simp))
  clear hk2 T
  go_wp2_with (first | (go_at_call 11; refine (none_ok _).mono ?_; rintro e w' ⟨rfl, hw⟩; subst w') | (go_at_call 14; refine (give_nil _ _ _).mono ?_; rintro e w' ⟨rfl, hw⟩; subst w') | (go_at_call 15; refine (has_nil _ _).mono ?_; rintro e w' ⟨rfl, hw⟩; subst w') | (go_at_call 16; refine (free_nil _).mono ?_; rintro e w' ⟨rfl, hw⟩; subst w') | (go_at_call 17; refine (runs_nil _ _).mono ?_; rintro e w' ⟨rfl, hw⟩; subst w') | (go_at_call 18; refine (len_nil _).mono ?_; rintro e w' ⟨rfl, hw⟩; subst w'))
  refine (bs_new K n hK HN.out T2.out rfl).mono ?_
  rintro e w3 ⟨p, F, rfl, hB, -, hF, hk3⟩
  have B3 := hide hB
  have F3 := hide hF
  have K3 := hide (K2.out.next hk3)
  have hw3 := hide (show w.heap.size ≤ w2.heap.size from K2.out.size)
  clear hB hF hk3 T2 K2
  go_wp2_with fail
  refine (rnew_ok n h2 rfl).mono ?_
  rintro e w4 ⟨r, ub, rfl, hR, hr1, hr2, hk4⟩
  have c0 : cnt n (u0 K) = 2 ^ K := by
    have e1 : cnt n (u0 K) = cnt n (fun _ => false) := cnt_congr (fun i hi => by have := HN.out; simp [u0]; omega)
    rw [e1, ← HN.out]
    unfold cnt
    simp
  have S4 := hide (show BA w w4 p K n r ub w3.heap.size (u0 K) (fun _ => 0) F [] (u0 K) (.slice none 0 0) [] from by
    refine ⟨by rw [c0]; exact B3.out.kept0 hk4, hR.congr (fun i hi => by have := HN.out; simp [u0]; omega), fun A o _ => by simp, by simp, fun A o h => by simp at h, fun x hx => by have := F3.out x hx; have := hw3.out; omega, fun x hx => ?_, fun x hx hm => ?_, K3.out.next hk4, hk4.size⟩
    · rcases mem_rfoot.1 hx with e | e | e
      · have := K3.out.size; omega
      · have := K3.out.size; omega
      · cases e
    · have h3 := B3.out.lt x hx
      rcases mem_rfoot.1 hm with e | e | e
      · omega
      · omega
      · cases e)
  clear c0 hR hr1 hr2 hk4 B3 F3 K3 hw3 hb
  go_wp2_with fail
  go_loopw [10] (fun v wr => ∃ (i : Nat) (u : Nat → Bool) (tk : Nat → Nat) (F : List Nat) (tv : Value) (t : List (Nat × Nat)), v = .int .i64 i ∧ i ≤ len ∧ i ≤ 30 ∧ t.length ≤ i ∧ BA w wr p K n r ub w3.heap.size u tk F t u tv t) (fun v _ => 30 - (intOf v).toNat)
  case atStart => exact ⟨0, _, _, _, _, [], rfl, Nat.zero_le _, Nat.zero_le _, by simp, S4.out⟩
  case round =>
    obtain ⟨i, u, tk, F', tv, t, rfl, hil, hi30, htl, hS⟩ := hrel
    have S := hide hS
    clear hS S4
    by_cases hi : i < len ∧ i < 30
    · obtain ⟨b, off, wh, od, at_, rfl, e1, e2, e3⟩ := (HA.out.kept S.out.kept) i hi.1
      have hi1 : (i : Int) < len := by omega
      have hi2 : (i : Int) < 30 := by omega
      obtain ⟨q, hq, hy⟩ := mod_small wh 4 (by decide) (by decide)
      have S1 := hide (S.out.next ((Kept.refl [] wr).alloc (.cells #[.int .i64 wh, .int .i64 od, .int .i64 at_] 39)))
      have l0 : (wr.alloc (.cells #[.int .i64 wh, .int .i64 od, .int .i64 at_] 39)).cell? ⟨wr.heap.size, 0, none⟩ = some (.int .i64 wh) := by rw [World.cell?_alloc_mark]; rfl
      have l1 : (wr.alloc (.cells #[.int .i64 wh, .int .i64 od, .int .i64 at_] 39)).cell? ⟨wr.heap.size, 1, none⟩ = some (.int .i64 od) := by rw [World.cell?_alloc_mark]; rfl
      have l2 : (wr.alloc (.cells #[.int .i64 wh, .int .i64 od, .int .i64 at_] 39)).cell? ⟨wr.heap.size, 2, none⟩ = some (.int .i64 at_) := by rw [World.cell?_alloc_mark]; rfl
      have lF := hide (show wr.heap.size ∉ F' from fun hm => Nat.lt_irrefl _ (S.out.bs.lt _ hm))
      have lR := hide (show wr.heap.size ∉ rfoot r ub tv from fun hm => Nat.lt_irrefl _ (S.out.rb.lt _ hm))
      clear S
      rcases (show q = 0 ∨ q = 1 ∨ q = 2 ∨ q = 3 by omega) with hq4 | hq4 | hq4 | hq4
      · have b0 : ((q : Int) == 0) = true := by simp [hq4]
        clear hq4
        by_cases hod : 0 ≤ od ∧ od ≤ 10
        · obtain ⟨o, rfl⟩ := Int.eq_ofNat_of_zero_le hod.1
          have ho10 : o ≤ 10 := by omega
          rcases S1.out.bs.finds o with ⟨A, hF⟩ | hF
          · have HF := hide hF
            have HOut := hide S1.out.bs.out
            rw [← HN.out] at HOut
            clear hod
            go_wp2_with fail
            refine (S1.out.take HN.out o A ho10 HF.out rfl).mono ?_
            rintro e w5 ⟨tk5, F5, rfl, hS5, hk5⟩
            have l5 := hk5.cell l1 (by simpa using lF.out)
            have S5 := hide hS5
            clear hS5 hk5 S1
            go_wp2_with fail
            refine (S5.out.take2 h2 HOut.out (by omega) o A HF.out rfl).mono ?_
            rintro e w6 ⟨tv6, rfl, hS6, hk6⟩
            have S7 := hide hS6
            clear hS6 hk6 S5 l5 HOut HF
            have S5 := S7
            clear S7
            go_wp2_with (first | (go_at_call 16; refine (bs_free S5.out.bs).mono ?_; rintro e w' ⟨rfl, hw⟩; subst w') | (go_at_call 23; refine (rcount_ok S5.out.rb h2).mono ?_; rintro e w9 ⟨rfl, hk9⟩))
            have S9 := hide (S5.out.next hk9)
            clear hk9 S5
            go_roundw
            case rel => exact ⟨i + 1, _, _, _, _, _, by go_num, by omega, by omega, by simp; omega, S9.out⟩
            case measure => simp [intOf]; omega
          · have HF := hide hF
            have HOut := hide S1.out.bs.out
            rw [← HN.out] at HOut
            clear hod
            go_wp2_with fail
            refine (bs_none o S1.out.bs ho10 HF.out rfl).mono ?_
            rintro e w' ⟨rfl, hw⟩
            subst w'
            go_wp2_with fail
            refine (rtake_no S1.out.rb h2 HOut.out o ho10 HF.out rfl).mono ?_
            rintro e w6 ⟨rfl, hk6⟩
            have S5 := hide (S1.out.next hk6)
            clear hk6 S1 HOut HF
            go_wp2_with (first | (go_at_call 16; refine (bs_free S5.out.bs).mono ?_; rintro e w' ⟨rfl, hw⟩; subst w') | (go_at_call 23; refine (rcount_ok S5.out.rb h2).mono ?_; rintro e w9 ⟨rfl, hk9⟩))
            have S9 := hide (S5.out.next hk9)
            clear hk9 S5
            go_roundw
            case rel => exact ⟨i + 1, _, _, _, _, _, by go_num, by omega, by omega, by omega, S9.out⟩
            case measure => simp [intOf]; omega
        · go_wp2_with fail
          refine (take_bad hod _).mono ?_
          rintro e w' ⟨rfl, hw⟩
          subst w'
          go_wp2_with fail
          refine (rtake_bad hod).mono ?_
          rintro e w' ⟨rfl, hw⟩
          subst w'
          have S5 := hide S1.out
          clear S1 hod
          go_wp2_with (first | (go_at_call 16; refine (bs_free S5.out.bs).mono ?_; rintro e w' ⟨rfl, hw⟩; subst w') | (go_at_call 23; refine (rcount_ok S5.out.rb h2).mono ?_; rintro e w9 ⟨rfl, hk9⟩))
          have S9 := hide (S5.out.next hk9)
          clear hk9 S5
          go_roundw
          case rel => exact ⟨i + 1, _, _, _, _, _, by go_num, by omega, by omega, by omega, S9.out⟩
          case measure => simp [intOf]; omega
      · have b0 : ((q : Int) == 0) = false := by simp [hq4]
        have b1 : ((q : Int) == 1) = true := by simp [hq4]
        clear hq4
        by_cases hod : 0 ≤ od ∧ od ≤ 10
        · obtain ⟨o, rfl⟩ := Int.eq_ofNat_of_zero_le hod.1
          have ho10 : o ≤ 10 := by omega
          rcases S1.out.bs.finds o with ⟨A, hF⟩ | hF
          · have HF := hide hF
            have HOut := hide S1.out.bs.out
            rw [← HN.out] at HOut
            clear hod
            go_wp2_with fail
            refine (S1.out.take HN.out o A ho10 HF.out rfl).mono ?_
            rintro e w5 ⟨tk5, F5, rfl, hS5, hk5⟩
            have l5 := hk5.cell l1 (by simpa using lF.out)
            have S5 := hide hS5
            clear hS5 hk5 S1
            go_wp2_with fail
            refine (S5.out.take2 h2 HOut.out (by omega) o A HF.out rfl).mono ?_
            rintro e w6 ⟨tv6, rfl, hS6, hk6⟩
            have S7 := hide hS6
            clear hS6 hk6 S5 l5 HOut HF
            have S5 := S7
            clear S7
            go_wp2_with (first | (go_at_call 16; refine (bs_free S5.out.bs).mono ?_; rintro e w' ⟨rfl, hw⟩; subst w') | (go_at_call 23; refine (rcount_ok S5.out.rb h2).mono ?_; rintro e w9 ⟨rfl, hk9⟩))
            have S9 := hide (S5.out.next hk9)
            clear hk9 S5
            go_roundw
            case rel => exact ⟨i + 1, _, _, _, _, _, by go_num, by omega, by omega, by simp; omega, S9.out⟩
            case measure => simp [intOf]; omega
          · have HF := hide hF
            have HOut := hide S1.out.bs.out
            rw [← HN.out] at HOut
            clear hod
            go_wp2_with fail
            refine (bs_none o S1.out.bs ho10 HF.out rfl).mono ?_
            rintro e w' ⟨rfl, hw⟩
            subst w'
            go_wp2_with fail
            refine (rtake_no S1.out.rb h2 HOut.out o ho10 HF.out rfl).mono ?_
            rintro e w6 ⟨rfl, hk6⟩
            have S5 := hide (S1.out.next hk6)
            clear hk6 S1 HOut HF
            go_wp2_with (first | (go_at_call 16; refine (bs_free S5.out.bs).mono ?_; rintro e w' ⟨rfl, hw⟩; subst w') | (go_at_call 23; refine (rcount_ok S5.out.rb h2).mono ?_; rintro e w9 ⟨rfl, hk9⟩))
            have S9 := hide (S5.out.next hk9)
            clear hk9 S5
            go_roundw
            case rel => exact ⟨i + 1, _, _, _, _, _, by go_num, by omega, by omega, by omega, S9.out⟩
            case measure => simp [intOf]; omega
        · go_wp2_with fail
          refine (take_bad hod _).mono ?_
          rintro e w' ⟨rfl, hw⟩
          subst w'
          go_wp2_with fail
          refine (rtake_bad hod).mono ?_
          rintro e w' ⟨rfl, hw⟩
          subst w'
          have S5 := hide S1.out
          clear S1 hod
          go_wp2_with (first | (go_at_call 16; refine (bs_free S5.out.bs).mono ?_; rintro e w' ⟨rfl, hw⟩; subst w') | (go_at_call 23; refine (rcount_ok S5.out.rb h2).mono ?_; rintro e w9 ⟨rfl, hk9⟩))
          have S9 := hide (S5.out.next hk9)
          clear hk9 S5
          go_roundw
          case rel => exact ⟨i + 1, _, _, _, _, _, by go_num, by omega, by omega, by omega, S9.out⟩
          case measure => simp [intOf]; omega
      · have b0 : ((q : Int) == 0) = false := by simp [hq4]
        have b1 : ((q : Int) == 1) = false := by simp [hq4]
        have b2 : ((q : Int) == 2) = true := by simp [hq4]
        clear hq4
        obtain ⟨ao9, cp9, htv⟩ := own_shape S1.out.rb.own
        subst htv
        have r1 := S1.out.rb.c1
        by_cases ht0 : t.length = 0
        · rw [ht0] at r1
          go_wp2
          go_roundw
          case rel => exact ⟨i + 1, _, _, _, _, _, by go_num, by omega, by omega, by omega, S1.out⟩
          case measure => simp [intOf]; omega
        · have hlen0 : 0 < t.length := by omega
          obtain ⟨g, cp, htv, hg1, hg2⟩ := World.ownsRow.form S1.out.rb.own hlen0
          cases htv
          have hti : ¬ ((t.length : Int) = 0) := by omega
          have htb : ((t.length : Int) == 0) = false := by simpa using hti
          obtain ⟨k, hkI, hkW⟩ := mod_raw at_ t.length (by omega)
          have hkR2 : IntKind.u64.wrap at_ % (t.length : Int) = (k : Int) := by
            rw [← hkW]; exact (Int.tmod_eq_emod_of_nonneg (by rw [IntKind.wrap_u64]; omega)).symm
          have hwk1 : IntKind.i64.wrap (k : Int) = (k : Int) := by rw [IntKind.wrap_i64]; omega
          have hwk2 : IntKind.u64.wrap (k : Int) = (k : Int) := by rw [IntKind.wrap_u64]; omega
          have hk : k < t.length := by omega
          obtain ⟨A, o, hkD⟩ : ∃ A o, t.getD k (0, 0) = (A, o) := ⟨_, _, rfl⟩
          obtain ⟨f1, f2⟩ := flat_get t k hk
          rw [hkD] at f1 f2
          have g1 := World.ownsRow.cells S1.out.rb.own (g := g) rfl _ _ f1
          have g2 := World.ownsRow.cells S1.out.rb.own (g := g) rfl _ _ f2
          rw [add_plain, Nat.zero_add] at g1 g2
          have g1' : (wr.alloc (.cells #[.int .i64 wh, .int .i64 od, .int .i64 at_] 39)).cell? ⟨g, k * 2, none⟩ = some (.int .i64 (A : Int)) := g1
          have g2' : (wr.alloc (.cells #[.int .i64 wh, .int .i64 od, .int .i64 at_] 39)).cell? ⟨g, k * 2 + 1, none⟩ = some (.int .i64 (o : Int)) := g2
          obtain ⟨d1, d2, d3, d4, d5⟩ := drop_two S1.out.nd hk
          rw [hkD] at d2 d3
          have hmt := d3
          have hkE : t[k] = (A, o) := by rw [← hkD]; simp [hk]
          have hkm : ∀ j, j < k → t.getD j (0, 0) ≠ (A, o) := fun j hj e => by
              have h5 : t[j] = t[k] := by
                have : t.getD j (0, 0) = t[j] := by simp [show j < t.length by omega]
                rw [← this, e, hkE]
              exact List.pairwise_iff_getElem.1 S1.out.nd j k (by omega) hk hj h5
          obtain ⟨k1, k2, k3, k4⟩ := S1.out.bs.tok.ok A o (S1.out.lt A o hmt).1 ((S1.out.tkt A o (S1.out.lt A o hmt).1).2 hmt)
          have ho10 := k1
          have D1 := hide d1
          have D2 := hide d2
          have D5 := hide d5
          have HM := hide hmt
          have HKD := hide hkD
          have HKM := hide hkm
          have E2 := hide k2
          have E4 := hide (show (A / 2 ^ o + 1) * 2 ^ o ≤ n by rw [HN.out]; exact k4)
          have hk0 : (0 : Int) ≤ (k : Int) := by omega
          clear d1 d2 d3 d4 d5 hmt hkD hkm k1 k2 k3 k4 hkE f1 f2 g1 g2
          go_wp2_with fail
          have hW : ∀ x, IntKind.u64.wrap (t.length : Int) = x → x = (t.length : Int) := fun x hx => by rw [← hx, IntKind.wrap_u64]; omega
          have hwl : IntKind.u64.wrap (t.length : Int) = (t.length : Int) := by rw [IntKind.wrap_u64]; omega
          clear hW
          go_region_held3 (fun w' => w'.cell? ⟨r, 1, none⟩ = some (.slice (some ⟨g, 0, none⟩) t.length cp9) ∧ w'.cell? ⟨wr.heap.size, 2, none⟩ = some (.int .i64 at_) ∧ w'.cell? ⟨g, k * 2, none⟩ = some (.int .i64 (A : Int)) ∧ w'.cell? ⟨g, k * 2 + 1, none⟩ = some (.int .i64 (o : Int))) (go_keep) (fail)
          have S2 := hide (S1.out.next (((Kept.refl [] (wr.alloc (.cells #[.int .i64 wh, .int .i64 od, .int .i64 at_] 39))).alloc (.cells #[.int .i64 (A : Int), .int .i64 (o : Int)] 45)).drew))
          have m0 : ((wr.alloc (.cells #[.int .i64 wh, .int .i64 od, .int .i64 at_] 39)).alloc (.cells #[.int .i64 (A : Int), .int .i64 (o : Int)] 45)).drew.cell? ⟨wr.heap.size + 1, 0, none⟩ = some (.int .i64 (A : Int)) := by
            simp
          have m1 : ((wr.alloc (.cells #[.int .i64 wh, .int .i64 od, .int .i64 at_] 39)).alloc (.cells #[.int .i64 (A : Int), .int .i64 (o : Int)] 45)).drew.cell? ⟨wr.heap.size + 1, 1, none⟩ = some (.int .i64 (o : Int)) := by
            simp
          have lF2 := hide (show wr.heap.size + 1 ∉ F' from fun hm => by have := S1.out.bs.lt _ hm; simp at this)
          have lR2 := hide (show wr.heap.size + 1 ∉ rfoot r ub (.slice (some ⟨g, 0, none⟩) t.length cp9) from fun hm => by have := S1.out.rb.lt _ hm; simp at this)
          clear S1 l0 l1 l2 g1' g2' r1 lF lR
          generalize ((wr.alloc (.cells #[.int .i64 wh, .int .i64 od, .int .i64 at_] 39)).alloc (.cells #[.int .i64 (A : Int), .int .i64 (o : Int)] 45)).drew = w8 at S2 m0 m1 ⊢
          go_wp2_with fail
          go_region_held3 (fun w' => w'.cell? ⟨wr.heap.size + 1, 0, none⟩ = some (.int .i64 (A : Int)) ∧ w'.cell? ⟨wr.heap.size + 1, 1, none⟩ = some (.int .i64 (o : Int))) (go_keep) (first
              | (go_at_call 14; refine ((S2.out.next (by first | exact Kept.refl [] _ | exact (Kept.refl [] _).drew | exact (Kept.refl [] _).drewN _)).give HN.out A o HM.out D1.out D2.out rfl rfl).mono ?_; rintro e w5 ⟨tk5, F5, rfl, hS5, hk5⟩; have l15 := hk5.cell m0 lF2.out; have l25 := hk5.cell m1 lF2.out; have S6 := hide hS5; clear hS5 hk5)
              | (go_at_call 22; refine (S6.out.give2 h2 (by omega) A o k hk HKD.out HKM.out ho10 E2.out E4.out rfl rfl).mono ?_; rintro e w6 ⟨tv6, rfl, hS6, hk6⟩; have l16 := hk6.cell l15 lR2.out; have l26 := hk6.cell l25 lR2.out; have S7 := hide hS6; clear hS6 hk6))
          have S5 := S7
          have HD := D5.out
          clear S7 S6 S2 D1 D2 D5 HM HKD HKM E2 E4 l15 l25 l16 l26 m0 m1
          go_wp2_with (first | (go_at_call 16; refine (bs_free S5.out.bs).mono ?_; rintro e w' ⟨rfl, hw⟩; subst w') | (go_at_call 23; refine (rcount_ok S5.out.rb h2).mono ?_; rintro e w9 ⟨rfl, hk9⟩))
          have S9 := hide (S5.out.next hk9)
          clear hk9 S5
          go_roundw
          case rel => exact ⟨i + 1, _, _, _, _, _, by go_num, by omega, by omega, by omega, S9.out⟩
          case measure => simp [intOf]; omega
      · have b0 : ((q : Int) == 0) = false := by simp [hq4]
        have b1 : ((q : Int) == 1) = false := by simp [hq4]
        have b2 : ((q : Int) == 2) = false := by simp [hq4]
        have b3 : ((q : Int) == 3) = true := by simp [hq4]
        clear hq4
        by_cases hod : 0 ≤ od ∧ od ≤ 10
        · obtain ⟨o, rfl⟩ := Int.eq_ofNat_of_zero_le hod.1
          have ho10 : o ≤ 10 := by omega
          clear hod
          by_cases hmem : ∃ A : Nat, at_ = A ∧ (A, o) ∈ t
          · obtain ⟨A, rfl, hmt⟩ := hmem
            obtain ⟨k, hk, hkE⟩ := List.getElem_of_mem hmt
            have hkD : t.getD k (0, 0) = (A, o) := by simp [hk, hkE]
            obtain ⟨d1, d2, d3, d4, d5⟩ := drop_two S1.out.nd hk
            rw [hkD] at d2
            have hkm : ∀ j, j < k → t.getD j (0, 0) ≠ (A, o) := fun j hj e => by
              have h5 : t[j] = t[k] := by
                have : t.getD j (0, 0) = t[j] := by simp [show j < t.length by omega]
                rw [← this, e, hkE]
              exact List.pairwise_iff_getElem.1 S1.out.nd j k (by omega) hk hj h5
            obtain ⟨k1, k2, k3, k4⟩ := S1.out.bs.tok.ok A o (S1.out.lt A o hmt).1 ((S1.out.tkt A o (S1.out.lt A o hmt).1).2 hmt)
            have D1 := hide d1
            have D2 := hide d2
            have D5 := hide d5
            have HM := hide hmt
            have HKD := hide hkD
            have HKM := hide hkm
            have E2 := hide k2
            have E4 := hide (show (A / 2 ^ o + 1) * 2 ^ o ≤ n by rw [HN.out]; exact k4)
            clear d1 d2 d3 d4 d5 hmt hkD hkm k1 k2 k3 k4 hkE
            go_wp2_with fail
            go_region_held3 (fun w' => w'.cell? ⟨wr.heap.size, 1, none⟩ = some (.int .i64 (o : Int)) ∧ w'.cell? ⟨wr.heap.size, 2, none⟩ = some (.int .i64 (A : Int))) (go_keep) (first
              | (go_at_call 14; refine ((S1.out.next (by first | exact Kept.refl [] _ | exact (Kept.refl [] _).drew | exact (Kept.refl [] _).drewN _)).give HN.out A o HM.out D1.out D2.out rfl rfl).mono ?_; rintro e w5 ⟨tk5, F5, rfl, hS5, hk5⟩; have l15 := hk5.cell l1 lF.out; have l25 := hk5.cell l2 lF.out; have S6 := hide hS5; clear hS5 hk5)
              | (go_at_call 22; refine (S6.out.give2 h2 (by omega) A o k hk HKD.out HKM.out ho10 E2.out E4.out rfl rfl).mono ?_; rintro e w6 ⟨tv6, rfl, hS6, hk6⟩; have l16 := hk6.cell l15 lR.out; have l26 := hk6.cell l25 lR.out; have S7 := hide hS6; clear hS6 hk6))
            have S5 := S7
            have HD := D5.out
            clear S7 S6 S1 D1 D2 D5 HM HKD HKM E2 E4 l15 l25 l16 l26 l0 l1 l2
            go_wp2_with (first | (go_at_call 16; refine (bs_free S5.out.bs).mono ?_; rintro e w' ⟨rfl, hw⟩; subst w') | (go_at_call 23; refine (rcount_ok S5.out.rb h2).mono ?_; rintro e w9 ⟨rfl, hk9⟩))
            have S9 := hide (S5.out.next hk9)
            clear hk9 S5
            go_roundw
            case rel => exact ⟨i + 1, _, _, _, _, _, by go_num, by omega, by omega, by omega, S9.out⟩
            case measure => simp [intOf]; omega
          · have HB1 := hide (show ∀ a : Nat, at_ = a → a < 2 ^ K → tk a ≠ o + 1 from fun a ea ha e => hmem ⟨a, ea, (S1.out.tkt a o ha).1 e⟩)
            have HB2 := hide (show ∀ pp, pp ∈ t → ¬ ((pp.1 : Int) = at_ ∧ (pp.2 : Int) = (o : Int)) from fun pp hp e => hmem ⟨pp.1, e.1.symm, by
              have : pp.2 = o := by have := e.2; omega
              rw [← this]; exact hp⟩)
            clear hmem
            go_wp2_with fail
            go_region_held3 (fun w' => w'.cell? ⟨wr.heap.size, 1, none⟩ = some (.int .i64 (o : Int)) ∧ w'.cell? ⟨wr.heap.size, 2, none⟩ = some (.int .i64 at_)) (go_keep) (first
              | (go_at_call 14; refine (bs_bad o (S1.out.next (by first | exact Kept.refl [] _ | exact (Kept.refl [] _).drew | exact (Kept.refl [] _).drewN _)).bs ho10 rfl HB1.out).mono ?_; rintro e w5 ⟨rfl, hk5⟩; have l15 := hk5.cell l1 (by simp); have l25 := hk5.cell l2 (by simp); have S6 := hide (S1.out.next (show Kept [] _ w5 from ⟨hk5.os, hk5.tape, hk5.output, hk5.size, hk5.block⟩)); clear hk5)
              | (go_at_call 22; refine (rgive_no S6.out.rb (by omega) (by omega) HB2.out).mono ?_; rintro e w6 ⟨rfl, hk6⟩; have l16 := hk6.cell l15 (by simp); have l26 := hk6.cell l25 (by simp); have S7 := hide (S6.out.next hk6); clear hk6))
            have S5 := S7
            clear S7 S6 S1 HB1 HB2 l15 l25 l16 l26 l0 l1 l2
            go_wp2_with (first | (go_at_call 16; refine (bs_free S5.out.bs).mono ?_; rintro e w' ⟨rfl, hw⟩; subst w') | (go_at_call 23; refine (rcount_ok S5.out.rb h2).mono ?_; rintro e w9 ⟨rfl, hk9⟩))
            have S9 := hide (S5.out.next hk9)
            clear hk9 S5
            go_roundw
            case rel => exact ⟨i + 1, _, _, _, _, _, by go_num, by omega, by omega, by omega, S9.out⟩
            case measure => simp [intOf]; omega
        · go_wp2_with fail
          go_region_held3 (fun w' => w'.cell? ⟨wr.heap.size, 1, none⟩ = some (.int .i64 od) ∧ w'.cell? ⟨wr.heap.size, 2, none⟩ = some (.int .i64 at_)) (go_keep) (first
              | (go_at_call 14; refine (give_ord hod _).mono ?_; rintro e w5 ⟨rfl, hw5⟩; subst w5)
              | (go_at_call 22; refine (rgive_bad hod).mono ?_; rintro e w6 ⟨rfl, hw6⟩; subst w6))
          have S5 := hide (S1.out.next ((Kept.refl [] _).drew))
          clear S1 hod l0 l1 l2
          go_wp2_with (first | (go_at_call 16; refine (bs_free S5.out.bs).mono ?_; rintro e w' ⟨rfl, hw⟩; subst w') | (go_at_call 23; refine (rcount_ok S5.out.rb h2).mono ?_; rintro e w9 ⟨rfl, hk9⟩))
          have S9 := hide (S5.out.next hk9)
          clear hk9 S5
          go_roundw
          case rel => exact ⟨i + 1, _, _, _, _, _, by go_num, by omega, by omega, by omega, S9.out⟩
          case measure => simp [intOf]; omega
    · have hn3 : ¬ ((i : Int) < len ∧ (i : Int) < 30) := by omega
      have S0 := hide S.out
      clear S HA
      by_cases hil2 : (i : Int) < len
      all_goals
        first | (have hi30n : ¬ ((i : Int) < 30) := by omega) | skip
        clear hn3
        go_wp2_with fail
        go_loopw [17, 18] (fun ab v wr => ∃ (j : Nat) (z : Int), z = (j : Int) - 1 ∧ v = .int .i64 z ∧ j ≤ 11 ∧ ((ab = .bool true ∧ ¬ Nun u j) ∨ (ab = .bool false ∧ Nun u j)) ∧ BA w wr p K n r ub w3.heap.size u tk F' t u tv t) (fun _ v _ => (intOf v + 1).toNat)
        case atStart => exact ⟨11, 10, rfl, rfl, Nat.le_refl _, .inr ⟨rfl, fun j b h1 h2 => by omega⟩, S0.out⟩
        case round =>
          clear S0 hil hi30 hi htl
          obtain ⟨j, z, hz, rfl, hj, hab, hS⟩ := hrel
          have S := hide hS
          clear hS
          by_cases hj0 : 1 ≤ j
          · obtain ⟨o, rfl⟩ : ∃ o : Nat, z = (o : Int) := ⟨j - 1, by omega⟩
            have hjo : j = o + 1 := by omega
            subst hjo
            have ho10 : o ≤ 10 := by omega
            have hz0 : (0 : Int) ≤ (o : Int) := by omega
            have HOut := hide S.out.bs.out
            rw [← HN.out] at HOut
            have HAB := hide hab
            clear hz hj0 hab
            go_wp2_with fail
            refine (rruns_ok S.out.rb h2 HOut.out o ho10 rfl).mono ?_
            rintro e w5 ⟨v5, m, rfl, hv5, hm5, hk5⟩
            obtain ⟨ao5, cp5, hv5e⟩ := own_shape hv5
            subst hv5e
            have S5 := hide (S.out.next hk5)
            have N5 := hide (show IsN w5 ao5 m from fun i hi => by
              obtain ⟨g, cp, he, -, -⟩ := World.ownsRow.form hv5 (by omega)
              cases he
              refine ⟨g, rfl, ?_⟩
              have := World.ownsRow.cells hv5 (g := g) rfl i (iv (m.getD i 0)) (by simp [hi])
              rw [add_plain, Nat.zero_add] at this
              exact this)
            have M5 := hide hm5
            have hml : m.length ≤ 1024 := by have := hm5.len HOut.out; omega
            clear hv5 hm5 hk5 S
            have hcase : (u17 = .bool true ∧ ¬ Nun u (o + 1) ∧ ¬ Nun u o) ∨ (u17 = .bool false ∧ m.length = 0 ∧ Nun u o) ∨ (u17 = .bool false ∧ 0 < m.length ∧ ¬ Nun u o) := by
              rcases HAB.out with ⟨h1, h2⟩ | ⟨h1, h2⟩
              · exact .inl ⟨h1, h2, fun h => h2 (fun j b h3 h4 => h j b (by omega) h4)⟩
              · cases hm : m with
                | nil =>
                  refine .inr (.inl ⟨h1, rfl, fun j b h3 h4 ht => ?_⟩)
                  by_cases e : j = o
                  · subst e
                    have := (M5.out.mem _).2 ⟨b, rfl, ht⟩
                    rw [hm] at this; simp at this
                  · exact h2 j b (by omega) h4 ht
                | cons x rr =>
                  refine .inr (.inr ⟨h1, by simp, fun h => ?_⟩)
                  obtain ⟨b, -, ht⟩ := (M5.out.mem x).1 (by rw [hm]; simp)
                  exact h o b (Nat.le_refl _) ho10 ht
            rcases hcase with ⟨h17, hn1', hn0⟩ | ⟨h17, hm0, hn0⟩ | ⟨h17, hm0, hn0⟩
            all_goals
              subst h17
              first | (have hml0 : decide (0 < m.length) = false := by simp only [decide_eq_false_iff_not]; omega) | (have hml0 : decide (0 < m.length) = true := by simp only [decide_eq_true_eq]; omega) | skip
              have HN0 := hide hn0
              clear hn0
              first | clear hn1' | skip
              first | clear hm0 | skip
              go_wp2_with fail
              refine (bs_runs o S5.out.bs ho10 rfl).mono ?_
              rintro e w6 ⟨v6, l6, rfl, hv6, hl6, -, -, hk6⟩
              have hl6e := hl6.unique M5.out
              subst hl6e
              obtain ⟨ao6, cp6, hv6e, hc6⟩ := hv6.slice
              subst hv6e
              have S6 := hide (S5.out.next hk6)
              have N6 := hide (N5.out.kept hk6)
              have N7 := hide (show IsN w6 ao6 l6 from fun i hi => hc6 i hi)
              clear hv6 hl6 hk6 hc6 S5 N5
              go_wp2_with fail
              refine (same_ok N7.out N6.out (by omega)).mono ?_
              rintro e w7 ⟨rfl, hk7⟩
              have S7 := hide (S6.out.next hk7)
              clear hk7 S6 N6 N7
              go_wp2_with fail
              first
                | refine (bs_hasno o S7.out.bs ho10 HN0.out rfl).mono ?_
                | (obtain ⟨kk, aa, hL⟩ := (S7.out.bs.or o).resolve_right HN0.out
                   refine (bs_has o kk aa S7.out.bs hL rfl).mono ?_
                   clear hL)
              rintro e w' ⟨rfl, hw⟩
              subst w'
              go_wp2
              go_roundw
              case rel => exact ⟨o, _, rfl, rfl, by omega, by first | exact .inr ⟨rfl, HN0.out⟩ | exact .inl ⟨rfl, HN0.out⟩, S7.out⟩
              case measure => simp [intOf] <;> omega
          · have hzn : ¬ (0 : Int) ≤ z := by omega
            have HL := hide (bs_len S.out.bs)
            rw [← HN.out] at HL
            have KK := hide S.out.kept
            clear hab S hz
            go_wp2_with (first | (go_at_call 18; refine HL.out.mono ?_; rintro e w' ⟨rfl, hw⟩; subst w') | (go_at_call 15; refine (has_bad (by omega)).mono ?_; rintro e w' ⟨rfl, hw⟩; subst w') | (go_at_call 17; refine (runs_bad (by omega)).mono ?_; rintro e w' ⟨rfl, hw⟩; subst w'))
            go_ret
            exact ⟨rfl, KK.out⟩
theorem walk (x : Int) {ao : Option Addr} {len cap : Nat} {w : World} (hlen : len ≤ maxLen) (hA : IsActs w ao len) (hT : Tab w) : Calls Tryd.prog 3 #[.int .i64 x, .slice ao len cap] w fun e w' => e = .returned (.bool true) ∧ Kept [] w w' := by
  by_cases h1 : x < 1
  · exact walkA x (.inl h1) hT
  · by_cases h2 : 1024 < x
    · exact walkA x (.inr (.inl h2)) hT
    · obtain ⟨n, rfl⟩ := Int.eq_ofNat_of_zero_le (show 0 ≤ x by omega)
      cases h3 : twoB n with
      | false => exact walkA n (.inr (.inr ⟨n, rfl, by omega, by omega, h3⟩)) hT
      | true =>
        obtain ⟨K, hK, hn⟩ := twoB_iff.1 h3
        exact walkB n K hK hn hlen hA hT

theorem own : ownKnob Tryd.prog.godebug = none := by kernel_rfl
theorem laidOut : laidOutB Tryd.prog = true := by kernel_rfl

set_option maxRecDepth 100000 in
theorem contract (H : Type) (enc : TypeId × Value → H) (W : World) (base : Nat) (args : Array Value) (ds gs : List (DataW H)) (before : List MemPlace)
    (hval : ∀ (j : Nat) t v, Tryd.f3.params[j]? = some t → args[j]? = some v → Value.okWide Tryd.prog W .any base t v)
    (hW : DataW.Whole enc Tryd.prog Tryd.f3.params.toList Rows.buddyActsSpec.vars false W args.toList ds gs before) (_hsh : W.ShapedOpen Tryd.prog) (hlaid : laidMetH Tryd.prog Rows.buddyActsRow.laid W) :
    Calls Tryd.prog 3 args W fun e W' => ∃ v, e = .returned v ∧ Rows.buddyActsSpec.post enc Tryd.prog Tryd.f3 false true false false W args v W' := by
  have hW' := hW
  obtain ⟨p, q, hA0, hV, rfl, hfz, hnd⟩ := hW
  have hA : DataW.TrodAll enc Tryd.prog W 0 (fun _ => true) true Tryd.f3.params.toList args.toList ds p := hA0
  have hK := hA
  rw [Tryd.params3] at hA hval
  obtain ⟨v0, vs0, d0, ds0, p0, q0, hargs, rfl, rfl, h0, r0⟩ := trodAll_cons hA
  obtain ⟨v1, vs1, d1, ds1, p1, q1, rfl, rfl, rfl, h1, r1⟩ := trodAll_cons r0
  obtain ⟨rfl, rfl, rfl⟩ := trodAll_nil r1
  obtain rfl : args = #[v0, v1] := by cases args; simp_all
  obtain ⟨rfl, rfl⟩ := trodVars_none hV
  obtain ⟨x, rfl, rfl, rfl, w0⟩ := open_int Tryd.underlying3 (hval 0 3 v0 rfl rfl) h0
  obtain ⟨a1, len1, cap1, rfl, hl1, hT1⟩ := open_acts (okWide_slice Tryd.underlying22 (hval 1 22 v1 rfl rfl)) h1
  have hTab : By.Tab W := By.tab_of_laid hlaid
  clear hA0
  refine (walk x hl1 hT1 hTab).mono fun e W' ⟨he, hk⟩ => ?_
  subst he
  exact ⟨_, rfl, _, _, _, [], _, [], hW', trodAll_mk1 (shut_bool Tryd.underlying4 _), trodAll_below laidOut hk.below _ _ _ _ hK (by kernel_rfl), rfl, hk.below.frame _, fun h => by cases h⟩

set_option maxRecDepth 100000 in
theorem laid_met (os : Os) : laidMet Tryd.prog Rows.buddyActsRow.laid ((World.laidAll Tryd.prog os Rows.buddyActsRow.laid).forCall (fun _ _ => 0) ⟨#[], #[.int .i64 0, .slice none 0 0], []⟩).memory :=
  laidMet_laidAll _ (by kernel_rfl) (by kernel_rfl)
set_option maxRecDepth 100000 in
theorem reads (os : Os) {H : Type} (enc : TypeId × Value → H) : ∃ places, DataW.whole enc Tryd.prog ((World.laidAll Tryd.prog os Rows.buddyActsRow.laid).forCall (fun _ _ => 0) ⟨#[], #[.int .i64 0, .slice none 0 0], []⟩).memory Tryd.f3.params.toList Rows.buddyActsSpec.vars false (#[.int .i64 0, .slice none 0 0] : Array Value).toList 8 = some ([.lit (.int .i64 0), .nil], [], places) :=
  ⟨[], by kernel_rfl⟩

set_option maxRecDepth 100000 in
theorem lifted (os : Os) (started : os.Started) (H : Type) (enc : TypeId × Value → H) (F : Stop.Interp) :
    ReturnsInHanded {} Tryd.checked os 3 .any ((OpenSpec.ofChange Rows.buddyActsSpec).preRow enc Tryd.prog Tryd.f3 Rows.buddyActsRow.domain false Rows.buddyActsRow.laid) (((OpenSpec.ofChange Rows.buddyActsSpec).at F).post enc Tryd.prog Tryd.f3 false true false false) := by
  obtain ⟨places, hx⟩ := reads os enc
  refine returnsInHanded_of_row (C := Tryd.checked) (s := OpenSpec.ofChange Rows.buddyActsSpec) own started (by kernel_rfl) Tryd.func3
    (witness_row_at (enc := enc) (C := Tryd.checked) false (World.laidAll Tryd.prog os Rows.buddyActsRow.laid) #[.int .i64 0, .slice none 0 0] (World.laidAll_os _ _ _) (by kernel_rfl) (by kernel_rfl) (by kernel_rfl)
      (OpenSpec.preRow_of_cond 8 hx (by kernel_rfl) (fun k hk => by cases hk) (by kernel_rfl) (laid_met os))) ?_
  intro W base args ds gs before hval hW _ _ _ hlaid hsh _
  exact contract H enc W base args ds gs before hval hW hsh hlaid

theorem said : Rows.BuddyActsSaid :=
  OpenClaim.holds_of_cond 3 Tryd.f3 rfl rfl rfl rfl rfl rfl rfl ⟨rfl, rfl, rfl, rfl, rfl⟩ rfl rfl rfl rfl rfl (by kernel_rfl) Tryd.func3 (by kernel_rfl)
    (of_decide_eq_true (by kernel_rfl)) (by unfold Func.isWrapper; first | (rw [if_pos (by decide +kernel)]; kernel_rfl) | (rw [if_neg (by decide +kernel)]; exact ⟨rfl, rfl⟩))
    (fun os started H enc _ F => by rw [OpenClaim.pre_eq_preRow]; exact lifted os started H enc F)

theorem plain (f : FuncId) (fn : Func) (hf : Tryd.pinned.checked.prog.funcNamed Tryd.f3.name = some f) (hfn : Tryd.pinned.checked.prog.funcs[f]? = some fn) :
    false = Tryd.pinned.checked.prog.looks [] ∧ ∀ (j : Nat) t, fn.params[j]? = some t → Tryd.pinned.checked.prog.wantsStandIn t = false := by
  obtain rfl : f = 3 := Option.some.inj ((show Tryd.prog.funcNamed Tryd.f3.name = some 3 by kernel_rfl).symm.trans hf) |>.symm
  obtain rfl : fn = Tryd.f3 := (Option.some.inj (Tryd.func3.symm.trans hfn)).symm
  refine ⟨by kernel_rfl, fun j t ht => ?_⟩
  rw [Tryd.params3] at ht
  have hm : t = 3 ∨ t = 22 := by have h9 := Array.mem_of_getElem? ht; simp at h9; first | exact h9 | (rcases h9 with h | h | h <;> simp [h])
  rcases hm with rfl | rfl
  · exact (show Tryd.prog.wantsStandIn 3 = false by kernel_rfl)
  · exact (show Tryd.prog.wantsStandIn 22 = false by kernel_rfl)

theorem card : Rows.BuddyActsCardSaid :=
  Claim7.holds_tied_plain_at .later [] _ _ _ _ said (fun _ h => by cases h) (by kernel_rfl) (fun _ h => by cases h) buddyActs_row_tie rfl ⟨rfl, rfl⟩ (by kernel_rfl) rfl plain (by kernel_rfl)
end Go.Proofs.YtkhcopnklfmgcaaDoor.acts
