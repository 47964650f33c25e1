/-
  BuddyWhole, tied: for every size, row of orders and row of places the law answers true, and its arguments read behind the call as before. The two tables of math/bits that the row lists are as their own text lays them (the card ties them to it); the card speaks of the pruned copy of the project that the seat holds.
-/
import Derived.Test.YtkhcopnklfmgcaaDoorPairs
import Derived.Test.YtkhcopnklfmgcaaDoorHalves
import Derived.Test.YtkhcopnklfmgcaaDoorLift
import Derived.Test.YtkhcopnklfmgcaaDoorTabs
import Derived.Test.YtkhcopnklfmgcaaDoorCards
import Derived.Test.YtkhcopnklfmgcaaDoorTie
import Derived.Deep.DeepHandedRow
import Derived.Lay
import Derived.Deep.AppendLies
namespace Go.Proofs.YtkhcopnklfmgcaaDoor.whole
open Go.ChangeShapes Go.WideShapes Go.ChangeAt Go.RowKit By
theorem info4 : (Tryd.prog.info? 4).map (fun i => (i.zero, i.size, i.bytes)) = some (some (.bool false), 1, 1) := by kernel_rfl
set_option maxRecDepth 20000 in
set_option maxHeartbeats 4000000 in
theorem walk (x : Int) {a1 a2 : Option Addr} {len1 cap1 len2 cap2 : Nat} {z1 z2 : Nat → Int} {w : World} (_hl1 : len1 ≤ maxLen) (hl2 : len2 ≤ maxLen) (h1 : IsInts .i64 w a1 len1 z1) (h2 : IsInts .i64 w a2 len2 z2) (hT : Tab w) :
    Calls Tryd.prog 4 #[.int .i64 x, .slice a1 len1 cap1, .slice a2 len2 cap2] w fun e w' => e = .returned (.bool true) ∧ Kept [] w w' := by
  unfold maxLen at _hl1 hl2
  obtain ⟨K, hK, hx⟩ := mod_small x 9 (by decide) (by decide)
  have T := hide hT
  have N1 := hide h1
  have N2 := hide h2
  obtain ⟨i45, hi, hz, hs, hb⟩ := hi45e
  have I45 := hide hi
  have Z45 := hide hz
  have S45 := hide hs
  have B45 := hide hb
  clear hT h1 h2 hi hz hs hb
  have hK8 : K ≤ 8 := by omega
  obtain ⟨n, hn⟩ : ∃ n : Nat, n = 2 ^ K := ⟨_, rfl⟩
  have hn1 : 1 ≤ n := by rw [hn]; exact two_pos K
  have hn8 : n ≤ 256 := by rw [hn]; exact pow_le hK8
  have hKV : Value.int .i64 (wrap64 ((2 : Int) ^ K)) = Value.int .i64 (n : Int) := by rw [hn, shl1 (by omega)]
  have HN := hide hn
  clear hn
  have hmk := run_make_row' (P := Tryd.prog) 41 4 (.bool false) 1 Tryd.underlying41 info4 rfl .i64 .i64 n (by omega) (by omega)
  go_enter Tryd.func4, Tryd.ntmps4
  go_wp2_with fail
  refine (bs_new K n (by omega) HN.out T.out rfl).mono ?_
  rintro e w1 ⟨p, F, rfl, hB, -, hF, hk1⟩
  have B1 := hide hB
  have HF := hide hF
  have K1 := hide hk1
  have T1 := hide (T.out.kept hk1 (by simp))
  clear hB hF hk1 T
  go_wp2_with fail
  refine (halves_true T1.out).mono ?_
  rintro e w2 ⟨rfl, hk2⟩
  have W2 := hide (show BW w w2 p K (u0 K) (fun _ => 0) (2 ^ K) F [] [] (.slice none 0 0) from ⟨B1.out.kept0 hk2, fun A o _ => by simp, by simp, fun A o h => by simp at h, HF.out, K1.out.next hk2, World.ownsRow_nil _ _ _ _, fun g hg => by cases hg⟩)
  clear hk2 B1 K1 T1 hx HF
  go_wp2_with fail
  have S3 := hide (show Sta w (w2.alloc (Obj.cells (madeCells #[Value.bool false] n) 4)) p K n w2.heap.size [] (.slice none 0 0) from
    ⟨_, _, _, _, W2.out.next ((Kept.refl [] w2).alloc _), (World.rowIs_made w2 (.bool false) n 4).congr (fun i hi => by have := HN.out; simp [u0]; omega), fun hm => Nat.lt_irrefl _ (W2.out.bs.lt _ hm), (fun e => by cases e), W2.out.kept.size⟩)
  clear W2 hmk
  generalize w2.alloc (Obj.cells (madeCells #[Value.bool false] n) 4) = w3 at S3 ⊢
  generalize w2.heap.size = ub at S3 ⊢
  rw [hKV]
  go_loopw [11, 12] (fun c v wr => ∃ (i : Nat) (l : List (Nat × Nat)), v = .int .i64 i ∧ i ≤ len1 ∧ i ≤ 40 ∧ l.length ≤ i ∧ Sta w wr p K n ub l c) (fun _ v _ => 40 - (intOf v).toNat)
  case atStart => exact ⟨0, [], rfl, Nat.zero_le _, Nat.zero_le _, by simp, S3.out⟩
  case round =>
    obtain ⟨i, l, rfl, hil, hi40, hll, hS⟩ := hrel
    have S := hide hS
    clear hS S3
    by_cases hi : i < len1 ∧ i < 40
    · obtain ⟨b, off, rfl, hc, -⟩ := (N1.out.kept S.out.kept) i hi.1
      obtain ⟨o, ho, hy⟩ := mod_small (z1 i) 5 (by decide) (by decide)
      have hi1 : (i : Int) < len1 := by omega
      have hi2 : (i : Int) < 40 := by omega
      have ho4 : o ≤ 4 := by omega
      rcases S.out.call HN.out o ho4 with ⟨A, hm2, hin, hcall⟩ | hcall
      · obtain ⟨y, hyE⟩ : ∃ y : Nat, y = 2 ^ o := ⟨_, rfl⟩
        have hy1 : 1 ≤ y := by rw [hyE]; exact two_pos o
        have hy8 : y ≤ 16 := by rw [hyE]; exact pow_le ho4
        have hYV : Value.int .i64 (wrap64 ((2 : Int) ^ o)) = Value.int .i64 (y : Int) := by rw [hyE, shl1 (by omega)]
        rw [← hyE] at hm2 hin
        have HC := hide (hcall (oi := o) rfl)
        rw [← hyE] at HC
        have e2 : (A : Int) % (y : Int) = 0 := by
          have := congrArg (Nat.cast (R := Int)) hm2
          simpa using this
        have e2t : (A : Int).tmod (y : Int) = 0 := by rw [Int.tmod_eq_emod_of_nonneg (by omega)]; exact e2
        have hny : ¬ (y : Int) = 0 := by omega
        have hle : ¬ ((n : Int) < (A : Int) + (y : Int)) := by omega
        have hA0 : decide ((A : Int) < 0) = false := by simp
        have hdl : decide ((n : Int) < (A : Int) + (y : Int)) = false := by simpa using hle
        have hwA : IntKind.i64.wrap ((A : Int) + (y : Int)) = (A : Int) + (y : Int) := by rw [IntKind.wrap_i64]; omega
        have hA1 : A ≤ 256 := by omega
        clear hcall hyE hm2
        go_wp2_with fail
        refine HC.out.mono ?_
        rintro e w4 ⟨rfl, hS4⟩
        have S4 := hide hS4
        clear hS4 S HC hc
        go_wp2_with fail
        go_quiet (fail)
        go_wp2_with fail
        go_loopw [16] (fun v wr => ∃ j : Nat, v = .int .i64 j ∧ A ≤ j ∧ j ≤ A + y ∧ Stb w wr p K n ub A y j (l ++ [(A, o)]) l u11) (fun v _ => A + y - (intOf v).toNat)
        case atStart => exact ⟨A, rfl, Nat.le_refl _, by omega, by first | exact S4.out | (obtain ⟨u, tk, f, F, hB, hr, h1, h2, h3, h4⟩ := S4.out; exact ⟨u, tk, f, F, hB.next ((Kept.refl [] w4).drewN _), hr, h1, h2, h3, h4⟩)⟩
        case round =>
          obtain ⟨j, rfl, hj1, hj2, hS⟩ := hrel
          have S5 := hide hS
          clear hS S4
          by_cases hj : j < A + y
          · obtain ⟨c1, c2, c3⟩ := S5.out.cell hj1 hj hin
            have S6 := hide c3
            have hji : (j : Int) < (A : Int) + (y : Int) := by omega
            have hj0 : (0 : Int) ≤ (j : Int) := by omega
            have hjn : (j : Int) < (n : Int) := by omega
            clear c3 S5
            go_wp2
            go_roundw
            case rel => exact ⟨j + 1, by go_num, by omega, by omega, S6.out⟩
            case measure => simp [intOf]; omega
          · have hje : j = A + y := by omega
            have hji : ¬ (j : Int) < (A : Int) + (y : Int) := by omega
            have S6 := hide (show Stb w wr p K n ub A y (A + y) (l ++ [(A, o)]) l u11 from by rw [← hje]; exact S5.out)
            clear hje S5
            obtain ⟨own6, k6⟩ := S6.out.own
            have OW := hide own6
            have K6 := hide k6
            clear own6 k6
            go_wp2_with (at_builtin; refine wpList_append_own_at _ rfl _ _ _ rfl w.heap.size 45 i45 (.agg #[.int .i64 0, .int .i64 0]) 2 16 Tryd.underlying42 I45.out Z45.out S45.out B45.out rfl (by decide) u11 l.length (flat l) rfl (OW.out.alloc _) ⟨_, 0, none⟩ 1 1 [iv A, iv o] rfl rfl news_two (one_flat [(A, o)]) (by unfold maxLen; omega) (by omega) (by have := K6.out.size; simp; omega) ?_)
            intro v' w7 o7 g7 _ b7
            have S7 := hide (S6.out.done ((Kept.refl [] wr).alloc _) g7 (by simpa using b7) (by rw [flat_append, List.length_append]; exact o7))
            clear o7 g7 b7 OW S6
            go_wp2
            go_roundw
            case rel => exact ⟨i + 1, l ++ [(A, o)], by go_num, by omega, by omega, by simp; omega, S7.out⟩
            case measure => simp [intOf]; omega
      · have HC := hide (hcall (oi := o) rfl)
        clear hcall
        go_wp2_with fail
        refine HC.out.mono ?_
        rintro e w' ⟨rfl, hw⟩
        subst w'
        clear HC hc
        go_wp2
        go_roundw
        case rel => exact ⟨i + 1, l, by go_num, by omega, by omega, by omega, S.out⟩
        case measure => simp [intOf]; omega
    · have hnn : ¬ ((i : Int) < len1 ∧ (i : Int) < 40) := by omega
      have hl40 : l.length ≤ 40 := by omega
      have W0 := hide (show ∃ u tk f F, BW w wr p K u tk f F l l u11 from by
        obtain ⟨u, tk, f, F, h, -⟩ := S.out
        exact ⟨u, tk, f, F, h⟩)
      clear S N1 hll
      by_cases hil2 : (i : Int) < len1
      all_goals
        first | (have hi40n : ¬ ((i : Int) < 40) := by omega) | skip
        clear hnn
        go_wp2_with fail
        go_loopw [11, 17] (fun c v wr => ∃ (i : Nat) (l : List (Nat × Nat)), v = .int .i64 i ∧ i + l.length ≤ 40 ∧ ∃ u tk f F, BW w wr p K u tk f F l l c) (fun _ v _ => 40 - (intOf v).toNat)
        case atStart => exact ⟨0, l, rfl, by omega, W0.out⟩
        case round =>
          clear W0 hil hi40 hi hl40
          obtain ⟨i, l, rfl, hil, u, tk, f, F', hR⟩ := hrel
          have R := hide hR
          clear hR
          cases hl0 : l with
          | nil =>
            subst hl0
            obtain ⟨ao, cap, hu⟩ : ∃ ao cap, u11 = .slice ao 0 cap := by
              rcases R.out.own.2 with ⟨h, -⟩ | ⟨g, cap, cur, h, -⟩
              · exact ⟨none, 0, h⟩
              · exact ⟨_, _, h⟩
            subst hu
            have RK := hide R.out.kept
            have RB := hide R.out.fin
            clear R N2
            go_wp2_with fail
            refine (bs_runs K RB.out (by omega) rfl).mono ?_
            rintro e w9 ⟨v9, l9, rfl, hv9, hl9, -, -, hk9⟩
            have hl1 := hl9.unique ((ls0 (K := K) (by omega)).lo K (by omega))
            rw [if_pos rfl] at hl1
            subst hl1
            obtain ⟨ao9, cap9, rfl, hc9⟩ := hv9.slice
            obtain ⟨b9, rfl, hc0⟩ := hc9 0 (by simp)
            have c9 : w9.cell? ⟨b9, 0, none⟩ = some (.int .i64 0) := hc0
            have RB9 := hide (RB.out.kept0 hk9)
            rw [← HN.out] at RB9
            have RK9 := hide (RK.out.next hk9)
            clear hk9 hv9 hl9 hc9 hc0 RB RK
            go_wp2_with fail
            go_quiet (first | (go_at_call 16; refine (bs_free (RB9.out.kept0 ((Kept.refl [] w9).drewN _))).mono ?_; rintro e w10 ⟨rfl, hw10⟩; exact ⟨rfl, _, hw10⟩))
            go_wp2
            go_ret
            exact ⟨rfl, RK9.out.drewN _⟩
          | cons y r =>
            have hlen : 0 < l.length := by rw [hl0]; simp
            clear hl0
            obtain ⟨g, cap, hu, hgb, hgl⟩ := World.ownsRow.form R.out.own hlen
            subst hu
            have hcap : l.length ≤ cap ∧ cap ≤ maxLen := by
              rcases R.out.own.2 with ⟨h, -⟩ | ⟨g', cap', cur, h, -, -, h1, h2, -⟩
              · cases h
              · cases h; exact ⟨h1, h2⟩
            obtain ⟨hc1, hc2⟩ := hcap
            unfold maxLen at hc2
            have hli : (0 : Int) < (l.length : Int) := by omega
            have hk2 : ∃ k : Nat, k < l.length ∧ ((i : Int) < len2 → wrap64 ((IntKind.u64.wrap (z2 i)).tmod l.length) = k) ∧ (¬ (i : Int) < len2 → k = 0) := by
              by_cases h : (i : Int) < len2
              · obtain ⟨k, h1, h2⟩ := mod_small (z2 i) l.length (by omega) (by omega)
                exact ⟨k, by omega, fun _ => h2, fun h3 => absurd h h3⟩
              · exact ⟨0, hlen, fun h3 => absurd h3 h, fun _ => rfl⟩
            obtain ⟨k, hk, hkE, hk0⟩ := hk2
            obtain ⟨A, o, hAo⟩ : ∃ A o, l.getD k (0, 0) = (A, o) := ⟨_, _, rfl⟩
            have hcell : ∀ wr' u tk f F t, BW w wr' p K u tk f F t l (.slice (some ⟨g, 0, none⟩) l.length cap) → wr'.cell? ⟨g, k * 2, none⟩ = some (.int .i64 (A : Int)) ∧ wr'.cell? ⟨g, k * 2 + 1, none⟩ = some (.int .i64 (o : Int)) := by
              intro wr' u tk f F t h
              obtain ⟨f1, f2⟩ := flat_get l k hk
              rw [hAo] at f1 f2
              have h2 := World.ownsRow.cells h.own (g := g) rfl _ _ f1
              have h3 := World.ownsRow.cells h.own (g := g) rfl _ _ f2
              rw [add_plain, Nat.zero_add] at h2 h3
              exact ⟨h2, h3⟩
            obtain ⟨d1, d2, d3, d4, d5⟩ := drop_two R.out.nd hk
            rw [hAo] at d2 d3 d4
            have ho10 := (R.out.lt A o d3).2
            have D1 := hide d1
            have D2 := hide d2
            have D3 := hide d3
            have D4 := hide d4
            have D5 := hide d5
            have HC := hide hcell
            obtain ⟨c1, c2⟩ := hcell _ _ _ _ _ _ R.out
            have hk1 : (0 : Int) ≤ (k : Int) := by omega
            have hk3 : (k : Int) < (l.length : Int) := by omega
            have hl40 : l.length ≤ 40 := by omega
            clear d1 d2 d3 d4 d5 hcell hAo
            have hwk : IntKind.i64.wrap ((k : Int) + 1) = (k : Int) + 1 := by rw [IntKind.wrap_i64]; omega
            have hs1 : ∀ wq, (Instr.slice 42 (.slice (some ⟨g, 0, none⟩) l.length cap) none (some (.int .i64 (k : Int))) none).run Tryd.prog wq = .ok (.slice (some ⟨g, 0, none⟩) k cap) wq := fun wq => run_cutS0 Tryd.underlying42 info45 _ _ _ _ k rfl (by omega) wq
            obtain ⟨ad, had, hadE⟩ := cut_at g cap (k + 1) 2
            have hs2 : ∀ wq, (Instr.slice 42 (.slice (some ⟨g, 0, none⟩) l.length cap) (some (.int .i64 ((k : Int) + 1))) none none).run Tryd.prog wq = .ok (.slice (some ad) (l.length - (k + 1)) (cap - (k + 1))) wq := fun wq => by
              rw [← had]; exact run_cutS Tryd.underlying42 info45 _ _ _ _ (k + 1) (by omega) (by omega) wq
            have HA := hide hadE
            clear had hadE
            by_cases hi2 : (i : Int) < len2
            · obtain ⟨b, off, rfl, hc, -⟩ := (N2.out.kept R.out.kept) i (by omega)
              have hkk := hkE hi2
              clear hkE hk0
              go_wp2_with fail
              clear hc
              go_region_held3 (fun w' => w'.cell? ⟨g, k * 2, none⟩ = some (.int .i64 (A : Int)) ∧ w'.cell? ⟨g, k * 2 + 1, none⟩ = some (.int .i64 (o : Int))) (go_keep) (first
                | (go_at_call 14; refine ((R.out.next (by first | exact Kept.refl [] _ | exact (Kept.refl [] wr).drew | exact (Kept.refl [] wr).drewN _)).give A o D3.out D1.out D2.out rfl rfl).mono ?_; rintro e w5 ⟨u5, tk5, f5, F5, rfl, hB5⟩; have B5 := hide hB5; obtain ⟨c3, c4⟩ := HC.out _ _ _ _ _ _ hB5; clear hB5)
                | (go_at_call 14; refine (B5.out.give_no A o ho10 D4.out rfl rfl).mono ?_; rintro e w6 ⟨rfl, hB6⟩; have B6 := hide hB6; obtain ⟨c5, c6⟩ := HC.out _ _ _ _ _ _ hB6; clear hB6))
              have N4 := hide (show ∀ W, Kept [] w6 W → ∀ j u, (flat (l.take k))[j]? = some u → W.cell? ((⟨g, 0, none⟩ : Addr).add j) = some u from fun W hW j u hu => by
                have hj : j < k * 2 := by have := getElem?_lt hu; rw [flat_length] at this; simp at this; omega
                refine hW.cell (World.ownsRow.cells B6.out.own rfl j u ?_) (by simp)
                rw [← hu, flat_take, List.getElem?_take, if_pos hj])
              have N5 := hide (show ∀ W, Kept [] w6 W → ∀ j u, (flat (l.drop (k + 1)))[j]? = some u → W.cell? (ad.add j) = some u from fun W hW j u hu => by
                have hj : j < (l.length - (k + 1)) * 2 := by have := getElem?_lt hu; rw [flat_length] at this; simpa using this
                rw [HA.out j (by omega)]
                refine hW.cell ?_ (by simp)
                have h2 := World.ownsRow.cells B6.out.own (g := g) rfl ((k + 1) * 2 + j) u (by rw [← hu, flat_drop, List.getElem?_drop])
                rw [add_plain, Nat.zero_add] at h2
                exact h2)
              have L4 := hide (show (flat (l.take k)).length = k * 2 by rw [flat_length, List.length_take]; omega)
              have L5 := hide (show (flat (l.drop (k + 1))).length = (l.length - (k + 1)) * 2 by rw [flat_length, List.length_drop])
              clear HA c1 c2 c3 c4 c5 c6 B5 HC R D1 D2 D3 D4
              go_wp2_with fail
              go_region_law (first
                | (refine step_append_own (by rfl) _ _ _ (by rfl) w6.heap.size 45 i45 (.agg #[.int .i64 0, .int .i64 0]) 2 16 Tryd.underlying42 I45.out Z45.out S45.out B45.out rfl (by decide) (.slice (some ⟨w6.heap.size, 0, none⟩) 0 0) 0 [] (by rfl) (World.ownsRow_lit _ #[] 0 (Nat.le_refl _) (by decide) rfl) ⟨g, 0, none⟩ k cap (flat (l.take k)) (by rfl) L4.out (N4.out _ (by exact ((Kept.refl [] w6).drew.alloc _))) (one_flat _) (by unfold maxLen; omega) (by omega) (by simp) ?_; intro v1 w7 o7 g7 b7 n7; have K7 := own_grown (World.ownsRow_lit (e := 45) (size := 2) w6.drew #[] 0 (Nat.le_refl _) (by decide) rfl) g7 w6 ((Kept.refl [] w6).drew.alloc _) (Nat.le_refl _))
                | (refine step_append_own (by rfl) _ _ _ (by rfl) w6.heap.size 45 i45 (.agg #[.int .i64 0, .int .i64 0]) 2 16 Tryd.underlying42 I45.out Z45.out S45.out B45.out rfl (by decide) v1 (0 + k) ([] ++ flat (l.take k)) (by rfl) o7 ad (l.length - (k + 1)) (cap - (k + 1)) (flat (l.drop (k + 1))) (by rfl) L5.out (N5.out _ K7) (one_flat _) (by unfold maxLen; omega) (by omega) K7.size ?_; intro v2 w8 o8 g8 b8 n8))
              have K8 := own_grown o7 g8 w6 K7 (Nat.le_refl _)
              have R8 := hide (B6.out.swap (l' := l.take k ++ l.drop (k + 1)) K8 (by
                have e1 : (l.take k ++ l.drop (k + 1)).length = 0 + k + (l.length - (k + 1)) := by simp; omega
                rw [e1, flat_append]; exact o8))
              have D5' := D5.out
              clear o7 g7 b7 n7 o8 g8 b8 n8 K7 K8 B6 N4 N5 L4 L5 hs1 hs2
              go_wp2
              go_roundw
              case rel => exact ⟨i + 1, l.take k ++ l.drop (k + 1), by go_num, by omega, _, _, _, _, R8.out⟩
              case measure => simp [intOf]; omega
            · have hkk := hk0 hi2
              subst hkk
              have hs1' : ∀ wq, (Instr.slice 42 (.slice (some ⟨g, 0, none⟩) l.length cap) none (some (.int .i64 0)) none).run Tryd.prog wq = .ok (.slice (some ⟨g, 0, none⟩) 0 cap) wq := hs1
              have hs2' : ∀ wq, (Instr.slice 42 (.slice (some ⟨g, 0, none⟩) l.length cap) (some (.int .i64 1)) none none).run Tryd.prog wq = .ok (.slice (some ad) (l.length - (0 + 1)) (cap - (0 + 1))) wq := hs2
              have hw1 : IntKind.i64.wrap 1 = 1 := by decide
              rw [Nat.zero_mul] at c1 c2
              rw [Nat.zero_add] at c2
              have HC' := hide HC.out
              rw [Nat.zero_mul, Nat.zero_add] at HC'
              clear hkE hk0 hs1 hs2 hk1 hk3 hwk HC
              have HC := HC'
              clear HC'
              go_wp2_with fail
              go_region_held3 (fun w' => w'.cell? ⟨g, 0, none⟩ = some (.int .i64 (A : Int)) ∧ w'.cell? ⟨g, 1, none⟩ = some (.int .i64 (o : Int))) (go_keep) (first
                | (go_at_call 14; refine ((R.out.next (by first | exact Kept.refl [] _ | exact (Kept.refl [] wr).drew | exact (Kept.refl [] wr).drewN _)).give A o D3.out D1.out D2.out rfl rfl).mono ?_; rintro e w5 ⟨u5, tk5, f5, F5, rfl, hB5⟩; have B5 := hide hB5; obtain ⟨c3, c4⟩ := HC.out _ _ _ _ _ _ hB5; clear hB5)
                | (go_at_call 14; refine (B5.out.give_no A o ho10 D4.out rfl rfl).mono ?_; rintro e w6 ⟨rfl, hB6⟩; have B6 := hide hB6; obtain ⟨c5, c6⟩ := HC.out _ _ _ _ _ _ hB6; clear hB6))
              have N4 := hide (show ∀ W, Kept [] w6 W → ∀ j u, (flat (l.take 0))[j]? = some u → W.cell? ((⟨g, 0, none⟩ : Addr).add j) = some u from fun W hW j u hu => by
                simp [flat] at hu)
              have N5 := hide (show ∀ W, Kept [] w6 W → ∀ j u, (flat (l.drop (0 + 1)))[j]? = some u → W.cell? (ad.add j) = some u from fun W hW j u hu => by
                have hj : j < (l.length - (0 + 1)) * 2 := by have := getElem?_lt hu; rw [flat_length] at this; simpa using this
                rw [HA.out j (by omega)]
                refine hW.cell ?_ (by simp)
                have h2 := World.ownsRow.cells B6.out.own (g := g) rfl ((0 + 1) * 2 + j) u (by rw [← hu, flat_drop, List.getElem?_drop])
                rw [add_plain, Nat.zero_add] at h2
                exact h2)
              have L4 := hide (show (flat (l.take 0)).length = 0 * 2 by simp [flat])
              have L5 := hide (show (flat (l.drop (0 + 1))).length = (l.length - (0 + 1)) * 2 by rw [flat_length, List.length_drop])
              clear HA c1 c2 c3 c4 c5 c6 B5 HC R D1 D2 D3 D4
              go_wp2_with fail
              go_region_law (first
                | (refine step_append_own (by rfl) _ _ _ (by rfl) w6.heap.size 45 i45 (.agg #[.int .i64 0, .int .i64 0]) 2 16 Tryd.underlying42 I45.out Z45.out S45.out B45.out rfl (by decide) (.slice (some ⟨w6.heap.size, 0, none⟩) 0 0) 0 [] (by rfl) (World.ownsRow_lit _ #[] 0 (Nat.le_refl _) (by decide) rfl) ⟨g, 0, none⟩ 0 cap (flat (l.take 0)) (by rfl) L4.out (N4.out _ (by exact ((Kept.refl [] w6).drew.alloc _))) (one_flat _) (by unfold maxLen; omega) (by omega) (by simp) ?_; intro v1 w7 o7 g7 b7 n7; have K7 := own_grown (World.ownsRow_lit (e := 45) (size := 2) w6.drew #[] 0 (Nat.le_refl _) (by decide) rfl) g7 w6 ((Kept.refl [] w6).drew.alloc _) (Nat.le_refl _))
                | (refine step_append_own (by rfl) _ _ _ (by rfl) w6.heap.size 45 i45 (.agg #[.int .i64 0, .int .i64 0]) 2 16 Tryd.underlying42 I45.out Z45.out S45.out B45.out rfl (by decide) v1 (0 + 0) ([] ++ flat (l.take 0)) (by rfl) o7 ad (l.length - (0 + 1)) (cap - (0 + 1)) (flat (l.drop (0 + 1))) (by rfl) L5.out (N5.out _ K7) (one_flat _) (by unfold maxLen; omega) (by omega) K7.size ?_; intro v2 w8 o8 g8 b8 n8))
              have K8 := own_grown o7 g8 w6 K7 (Nat.le_refl _)
              have R8 := hide (B6.out.swap (l' := l.take 0 ++ l.drop (0 + 1)) K8 (by
                have e1 : (l.take 0 ++ l.drop (0 + 1)).length = 0 + 0 + (l.length - (0 + 1)) := by simp
                rw [e1, flat_append]; exact o8))
              have D5' := D5.out
              clear o7 g7 b7 n7 o8 g8 b8 n8 K7 K8 B6 N4 N5 L4 L5 hs1' hs2'
              go_wp2
              go_roundw
              case rel => exact ⟨i + 1, l.take 0 ++ l.drop (0 + 1), by go_num, by omega, _, _, _, _, R8.out⟩
              case measure => simp [intOf]; omega

theorem own : ownKnob Tryd.prog.godebug = none := by kernel_rfl
theorem laidOut : laidOutB Tryd.prog = true := by kernel_rfl

set_option maxRecDepth 100000 in
theorem contract (H : Type) (enc : TypeId × Value → H) (W : World) (base : Nat) (args : Array Value) (ds gs : List (DataW H)) (before : List MemPlace)
    (hval : ∀ (j : Nat) t v, Tryd.f4.params[j]? = some t → args[j]? = some v → Value.okWide Tryd.prog W .any base t v)
    (hW : DataW.Whole enc Tryd.prog Tryd.f4.params.toList Rows.buddyWholeSpec.vars false W args.toList ds gs before) (_hsh : W.ShapedOpen Tryd.prog) (hlaid : laidMetH Tryd.prog Rows.buddyWholeRow.laid W) :
    Calls Tryd.prog 4 args W fun e W' => ∃ v, e = .returned v ∧ Rows.buddyWholeSpec.post enc Tryd.prog Tryd.f4 false true false false W args v W' := by
  have hW' := hW
  obtain ⟨p, q, hA0, hV, rfl, hfz, hnd⟩ := hW
  have hA : DataW.TrodAll enc Tryd.prog W 0 (fun _ => true) true Tryd.f4.params.toList args.toList ds p := hA0
  have hK := hA
  rw [Tryd.params4] at hA hval
  obtain ⟨v0, vs0, d0, ds0, p0, q0, hargs, rfl, rfl, h0, r0⟩ := trodAll_cons hA
  obtain ⟨v1, vs1, d1, ds1, p1, q1, rfl, rfl, rfl, h1, r1⟩ := trodAll_cons r0
  obtain ⟨v2, vs2, d2, ds2, p2, q2, rfl, rfl, rfl, h2, r2⟩ := trodAll_cons r1
  obtain ⟨rfl, rfl, rfl⟩ := trodAll_nil r2
  obtain rfl : args = #[v0, v1, v2] := by cases args; simp_all
  obtain ⟨rfl, rfl⟩ := trodVars_none hV
  obtain ⟨x, rfl, rfl, rfl, w0⟩ := open_int Tryd.underlying3 (hval 0 3 v0 rfl rfl) h0
  obtain ⟨a1, len1, cap1, zs1, rfl, hl1, hm1, hn1, hT1⟩ := open_list Tryd.underlying32 Tryd.underlying3 (by kernel_rfl) (okWide_slice Tryd.underlying32 (hval 1 32 v1 rfl rfl)) h1
  obtain ⟨a2, len2, cap2, zs2, rfl, hl2, hm2, hn2, hT2⟩ := open_list Tryd.underlying32 Tryd.underlying3 (by kernel_rfl) (okWide_slice Tryd.underlying32 (hval 2 32 v2 rfl rfl)) h2
  have hTab : By.Tab W := By.tab_of_laid hlaid
  clear hA0
  refine (walk x (Nat.le_trans hl1 hm1) (Nat.le_trans hl2 hm2) hT1 hT2 hTab).mono fun e W' ⟨he, hk⟩ => ?_
  subst he
  exact ⟨_, rfl, _, _, _, [], _, [], hW', trodAll_mk1 (shut_bool Tryd.underlying4 _), trodAll_below laidOut hk.below _ _ _ _ hK (by kernel_rfl), rfl, hk.below.frame _, fun h => by cases h⟩

set_option maxRecDepth 100000 in
theorem laid_met (os : Os) : laidMet Tryd.prog Rows.buddyWholeRow.laid ((World.laidAll Tryd.prog os Rows.buddyWholeRow.laid).forCall (fun _ _ => 0) ⟨#[], #[.int .i64 0, .slice none 0 0, .slice none 0 0], []⟩).memory :=
  laidMet_laidAll _ (by kernel_rfl) (by kernel_rfl)
set_option maxRecDepth 100000 in
theorem reads (os : Os) {H : Type} (enc : TypeId × Value → H) : ∃ places, DataW.whole enc Tryd.prog ((World.laidAll Tryd.prog os Rows.buddyWholeRow.laid).forCall (fun _ _ => 0) ⟨#[], #[.int .i64 0, .slice none 0 0, .slice none 0 0], []⟩).memory Tryd.f4.params.toList Rows.buddyWholeSpec.vars false (#[.int .i64 0, .slice none 0 0, .slice none 0 0] : Array Value).toList 8 = some ([.lit (.int .i64 0), .nil, .nil], [], places) :=
  ⟨[], by kernel_rfl⟩

set_option maxRecDepth 100000 in
theorem lifted (os : Os) (started : os.Started) (H : Type) (enc : TypeId × Value → H) (F : Stop.Interp) :
    ReturnsInHanded {} Tryd.checked os 4 .any ((OpenSpec.ofChange Rows.buddyWholeSpec).preRow enc Tryd.prog Tryd.f4 Rows.buddyWholeRow.domain false Rows.buddyWholeRow.laid) (((OpenSpec.ofChange Rows.buddyWholeSpec).at F).post enc Tryd.prog Tryd.f4 false true false false) := by
  obtain ⟨places, hx⟩ := reads os enc
  refine returnsInHanded_of_row (C := Tryd.checked) (s := OpenSpec.ofChange Rows.buddyWholeSpec) own started (by kernel_rfl) Tryd.func4
    (witness_row_at (enc := enc) (C := Tryd.checked) false (World.laidAll Tryd.prog os Rows.buddyWholeRow.laid) #[.int .i64 0, .slice none 0 0, .slice none 0 0] (World.laidAll_os _ _ _) (by kernel_rfl) (by kernel_rfl) (by kernel_rfl)
      (OpenSpec.preRow_of_cond 8 hx (by kernel_rfl) (fun k hk => by cases hk) (by kernel_rfl) (laid_met os))) ?_
  intro W base args ds gs before hval hW _ _ _ hlaid hsh _
  exact contract H enc W base args ds gs before hval hW hsh hlaid

theorem said : Rows.BuddyWholeSaid :=
  OpenClaim.holds_of_cond 4 Tryd.f4 rfl rfl rfl rfl rfl rfl rfl ⟨rfl, rfl, rfl, rfl, rfl⟩ rfl rfl rfl rfl rfl (by kernel_rfl) Tryd.func4 (by kernel_rfl)
    (of_decide_eq_true (by kernel_rfl)) (by unfold Func.isWrapper; first | (rw [if_pos (by decide +kernel)]; kernel_rfl) | (rw [if_neg (by decide +kernel)]; exact ⟨rfl, rfl⟩))
    (fun os started H enc _ F => by rw [OpenClaim.pre_eq_preRow]; exact lifted os started H enc F)

theorem plain (f : FuncId) (fn : Func) (hf : Tryd.pinned.checked.prog.funcNamed Tryd.f4.name = some f) (hfn : Tryd.pinned.checked.prog.funcs[f]? = some fn) :
    false = Tryd.pinned.checked.prog.looks [] ∧ ∀ (j : Nat) t, fn.params[j]? = some t → Tryd.pinned.checked.prog.wantsStandIn t = false := by
  obtain rfl : f = 4 := Option.some.inj ((show Tryd.prog.funcNamed Tryd.f4.name = some 4 by kernel_rfl).symm.trans hf) |>.symm
  obtain rfl : fn = Tryd.f4 := (Option.some.inj (Tryd.func4.symm.trans hfn)).symm
  refine ⟨by kernel_rfl, fun j t ht => ?_⟩
  rw [Tryd.params4] at ht
  have hm : t = 3 ∨ t = 32 := by have h9 := Array.mem_of_getElem? ht; simp at h9; first | exact h9 | (rcases h9 with h | h | h <;> simp [h])
  rcases hm with rfl | rfl
  · exact (show Tryd.prog.wantsStandIn 3 = false by kernel_rfl)
  · exact (show Tryd.prog.wantsStandIn 32 = false by kernel_rfl)

theorem card : Rows.BuddyWholeCardSaid :=
  Claim7.holds_tied_plain_at .later [] _ _ _ _ said (fun _ h => by cases h) (by kernel_rfl) (fun _ h => by cases h) buddyWhole_row_tie rfl ⟨rfl, rfl⟩ (by kernel_rfl) rfl plain (by kernel_rfl)
end Go.Proofs.YtkhcopnklfmgcaaDoor.whole
