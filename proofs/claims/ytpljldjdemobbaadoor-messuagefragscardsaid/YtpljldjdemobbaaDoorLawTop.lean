/-
  MessuageFrags, tied: for every two rows of numbers the law answers true, and its arguments read behind the call as before. The two tables of math/bits that the row lists are as their own text lays them (the card ties them to it); the card speaks of the pruned copy of the project that the seat holds.
-/
import Derived.Test.YtpljldjdemobbaaDoorFrg5
import Derived.Test.YtpljldjdemobbaaDoorTopH
import Derived.Test.YtpljldjdemobbaaDoorStands
import Derived.Test.YtpljldjdemobbaaDoorBTabs
import Derived.Test.YtpljldjdemobbaaDoorCards
import Derived.Test.YtpljldjdemobbaaDoorTie
import Derived.Deep.DeepHandedRow
import Derived.Lay
import Derived.Lib.MinMax
namespace Go.Proofs.YtpljldjdemobbaaDoor.top
open Go.ChangeShapes Go.WideShapes Go.ChangeAt Go.RowKit By
set_option maxRecDepth 20000 in
set_option maxHeartbeats 8000000 in
theorem walk {w : World} (hT : Tab w) {a0 a1 : Option Addr} {len0 cap0 len1 cap1 : Nat} {z0 z1 : Nat → Int} (_hl0 : len0 ≤ maxLen) (h0 : IsInts .i64 w a0 len0 z0) (_hl1 : len1 ≤ maxLen) (h1 : IsInts .i64 w a1 len1 z1) (hS : ∀ w', Kept [] w w' → Calls Tryd.prog 21 #[] w' fun e w2 => e = .returned (.bool true) ∧ Kept [] w' w2) : Calls Tryd.prog 7 #[.slice a0 len0 cap0, .slice a1 len1 cap1] w fun e w' => e = .returned (.bool true) ∧ Kept [] w w' := by
  unfold maxLen at _hl0 _hl1
  have T := hide hT
  have HS := hide hS
  have N1 := hide h0
  have N2 := hide h1
  obtain ⟨i45, hi, hz, hs, hb⟩ := hi45e
  have I45 := hide hi
  have Z45 := hide hz
  have S45 := hide hs
  have B45 := hide hb
  clear hT h0 h1 hi hz hs hb hS
  go_enter Tryd.func7, Tryd.ntmps7
  go_wp2_with fail
  refine (bs_new 6 64 (by decide) rfl T.out rfl).mono ?_
  rintro e w1 ⟨p, F, rfl, hB, -, hF, hk1⟩
  have B1 := hide hB
  have HF := hide hF
  have K1 := hide hk1
  have T1 := hide (T.out.kept hk1 (by simp))
  clear hB hF hk1 T
  go_wp2_with fail
  refine (HS.out _ K1.out).mono ?_
  rintro e w2 ⟨rfl, hk2⟩
  have B2 := hide (B1.out.kept0 hk2)
  have K2 := hide (K1.out.next hk2)
  have T2 := hide (T1.out.kept hk2 (by simp))
  clear hk2 B1 K1 T1 HS
  go_wp2_with fail
  refine (toph_true T2.out).mono ?_
  rintro e w3 ⟨rfl, hk3⟩
  have W3 := hide (show BW w w3 p 6 (u0 6) (fun _ => 0) (2 ^ 6) F [] [] (.slice none 0 0) from ⟨B2.out.kept0 hk3, fun A o _ => by simp, by simp, fun A o h => by simp at h, HF.out, K2.out.next hk3, World.ownsRow_nil _ _ _ _, fun g hg => by cases hg⟩)
  clear hk3 B2 K2 T2 HF
  go_wp2_with fail
  go_loopw [7, 8] (fun c v wr => ∃ (i : Nat) (l : List (Nat × Nat)), v = .int .i64 i ∧ i ≤ len0 ∧ i ≤ 40 ∧ l.length ≤ i ∧ ∃ u tk f F, BW w wr p 6 u tk f F l l c) (fun _ v _ => 40 - (intOf v).toNat)
  case atStart => exact ⟨0, [], rfl, Nat.zero_le _, Nat.zero_le _, by simp, _, _, _, _, W3.out⟩
  case round =>
    obtain ⟨i, l, rfl, hil, hi40, hll, u, tk, f, F', hS⟩ := hrel
    have S := hide hS
    clear hS W3
    by_cases hi : i < len0 ∧ i < 40
    · obtain ⟨b, off, rfl, hc, -⟩ := (N1.out.kept S.out.kept) i hi.1
      obtain ⟨o, ho, hy⟩ := mod_small (z0 i) 3 (by decide) (by decide)
      have hi1 : (i : Int) < len0 := by omega
      have hi2 : (i : Int) < 40 := by omega
      have ho10 : o ≤ 10 := by omega
      rcases S.out.bs.finds o with ⟨A, hA⟩ | hN
      · have HA := hide hA
        clear hA
        go_wp2_with fail
        refine (S.out.take o A ho10 HA.out rfl).mono ?_
        rintro e w4 ⟨f4, F4, rfl, hB4, hk4, hF4⟩
        have S4 := hide hB4
        clear hB4 hk4 hF4 S HA
        have OW := hide S4.out.own
        have hsz := hide S4.out.kept.size
        go_wp2_with (at_builtin; refine wpList_append_own_at _ rfl _ _ _ rfl w.heap.size 49 i45 (.agg #[.int .i64 0, .int .i64 0]) 2 16 Tryd.underlying48 I45.out Z45.out S45.out B45.out rfl (by decide) u7 l.length (flat l) rfl (OW.out.alloc _) ⟨_, 0, none⟩ 1 1 [iv A, iv o] rfl rfl news_two (one_flat [(A, o)]) (by unfold maxLen; omega) (by omega) (by have := hsz.out; simp; omega) ?_)
        intro v' w7 o7 g7 _ b7
        have R := hide (S4.out.put (l' := l ++ [(A, o)]) ((Kept.refl [] w4).alloc _) g7 (by simpa using b7) (by rw [flat_append, List.length_append]; exact o7))
        clear o7 g7 b7 OW S4 hsz hc
        obtain ⟨l9, hl9⟩ : ∃ l9, l9 = l ++ [(A, o)] := ⟨_, rfl⟩
        have hlen9 : l9.length ≤ i + 1 := by rw [hl9]; simp; omega
        rw [← hl9] at R
        clear hl9 hll
        clear l
        have ⟨l, hl9⟩ : ∃ l, l = l9 := ⟨_, rfl⟩
        rw [← hl9] at R hlen9
        clear hl9 l9
        by_cases hg : (i : Int) < len1
        · obtain ⟨b1, off1, rfl, hcg, -⟩ := (N2.out.kept R.out.kept) i (by omega)
          by_cases hev : ((z1 i).tmod 2 == 0) = true
          · by_cases hl0 : l.length = 0
            · obtain ⟨ao9, cp9, hv9⟩ := own_shape R.out.own
              rw [hl0] at hv9
              subst hv9
              go_wp2_with fail
              go_roundw
              case rel => exact ⟨i + 1, l, by go_num, by omega, by omega, by omega, _, _, _, _, R.out⟩
              case measure => simp [intOf]; omega
            · skip
              have hlen : 0 < l.length := by omega
              obtain ⟨g, cap, hu, hgb, hgl⟩ := World.ownsRow.form R.out.own hlen
              subst hu
              have hcap : l.length ≤ cap ∧ cap ≤ maxLen := by
                rcases R.out.own.2 with ⟨h, -⟩ | ⟨g', cap', cur, h, -, -, h1, h2, -⟩
                · cases h
                · cases h; exact ⟨h1, h2⟩
              obtain ⟨hc1, hc2⟩ := hcap
              unfold maxLen at hc2
              have hli : (0 : Int) < (l.length : Int) := by omega
              obtain ⟨k, hk9, hkE⟩ := mod_small (z1 i) l.length (by omega) (by omega)
              have hk : k < l.length := by omega
              obtain ⟨A, o, hAo⟩ : ∃ A o, l.getD k (0, 0) = (A, o) := ⟨_, _, rfl⟩
              have hcell : ∀ wr' u tk f F t, BW w wr' p 6 u tk f F t l (.slice (some ⟨g, 0, none⟩) l.length cap) → wr'.cell? ⟨g, k * 2, none⟩ = some (.int .i64 (A : Int)) ∧ wr'.cell? ⟨g, k * 2 + 1, none⟩ = some (.int .i64 (o : Int)) := by
                intro wr' u tk f F t h
                obtain ⟨f1, f2⟩ := flat_get l k hk
                rw [hAo] at f1 f2
                have h2 := World.ownsRow.cells h.own (g := g) rfl _ _ f1
                have h3 := World.ownsRow.cells h.own (g := g) rfl _ _ f2
                rw [add_plain, Nat.zero_add] at h2 h3
                exact ⟨h2, h3⟩
              obtain ⟨d1, d2, d3, d4, d5⟩ := drop_two R.out.nd hk
              rw [hAo] at d2 d3 d4
              have D1 := hide d1
              have D2 := hide d2
              have D3 := hide d3
              have D5 := hide d5
              have HC := hide hcell
              obtain ⟨c1, c2⟩ := hcell _ _ _ _ _ _ R.out
              have hk1 : (0 : Int) ≤ (k : Int) := by omega
              have hk3 : (k : Int) < (l.length : Int) := by omega
              clear d1 d2 d3 d4 d5 hcell hAo hk9
              have hwk : IntKind.i64.wrap ((k : Int) + 1) = (k : Int) + 1 := by rw [IntKind.wrap_i64]; omega
              have hs1 : ∀ wq, (Instr.slice 48 (.slice (some ⟨g, 0, none⟩) l.length cap) none (some (.int .i64 (k : Int))) none).run Tryd.prog wq = .ok (.slice (some ⟨g, 0, none⟩) k cap) wq := fun wq => run_cutS0 Tryd.underlying48 info45 _ _ _ _ k rfl (by omega) wq
              obtain ⟨ad, had, hadE⟩ := cut_at g cap (k + 1) 2
              have hs2 : ∀ wq, (Instr.slice 48 (.slice (some ⟨g, 0, none⟩) l.length cap) (some (.int .i64 ((k : Int) + 1))) none none).run Tryd.prog wq = .ok (.slice (some ad) (l.length - (k + 1)) (cap - (k + 1))) wq := fun wq => by
                rw [← had]; exact run_cutS Tryd.underlying48 info45 _ _ _ _ (k + 1) (by omega) (by omega) wq
              have HAd := hide hadE
              clear had hadE
              go_wp2_with fail
              go_region_held3 (fun w' => w'.cell? ⟨g, k * 2, none⟩ = some (.int .i64 (A : Int)) ∧ w'.cell? ⟨g, k * 2 + 1, none⟩ = some (.int .i64 (o : Int))) (go_keep) (first
                | (go_at_call 20; refine ((R.out.next (by first | exact Kept.refl [] _ | exact (Kept.refl [] _).drew | exact (Kept.refl [] _).drewN _)).give A o D3.out D1.out D2.out rfl rfl).mono ?_; rintro e w6 ⟨u6, tk6, f6, F6, rfl, hB6⟩; have B6 := hide hB6; obtain ⟨c3, c4⟩ := HC.out _ _ _ _ _ _ hB6; clear hB6))
              have N4 := hide (show ∀ W, Kept [] w6 W → ∀ j u, (flat (l.take k))[j]? = some u → W.cell? ((⟨g, 0, none⟩ : Addr).add j) = some u from fun W hW j u hu => by
                have hj : j < k * 2 := by have := getElem?_lt hu; rw [flat_length] at this; simp at this; omega
                refine hW.cell (World.ownsRow.cells B6.out.own rfl j u ?_) (by simp)
                rw [← hu, flat_take, List.getElem?_take, if_pos hj])
              have N5 := hide (show ∀ W, Kept [] w6 W → ∀ j u, (flat (l.drop (k + 1)))[j]? = some u → W.cell? (ad.add j) = some u from fun W hW j u hu => by
                have hj : j < (l.length - (k + 1)) * 2 := by have := getElem?_lt hu; rw [flat_length] at this; simpa using this
                rw [HAd.out j (by omega)]
                refine hW.cell ?_ (by simp)
                have h2 := World.ownsRow.cells B6.out.own (g := g) rfl ((k + 1) * 2 + j) u (by rw [← hu, flat_drop, List.getElem?_drop])
                rw [add_plain, Nat.zero_add] at h2
                exact h2)
              have L4 := hide (show (flat (l.take k)).length = k * 2 by rw [flat_length, List.length_take]; omega)
              have L5 := hide (show (flat (l.drop (k + 1))).length = (l.length - (k + 1)) * 2 by rw [flat_length, List.length_drop])
              clear HAd c1 c2 HC R D1 D2 D3
              go_wp2_with fail
              go_region_law (first
                | (refine step_append_own (by rfl) _ _ _ (by rfl) w6.heap.size 49 i45 (.agg #[.int .i64 0, .int .i64 0]) 2 16 Tryd.underlying48 I45.out Z45.out S45.out B45.out rfl (by decide) (.slice (some ⟨w6.heap.size, 0, none⟩) 0 0) 0 [] (by rfl) (World.ownsRow_lit _ #[] 0 (Nat.le_refl _) (by decide) rfl) ⟨g, 0, none⟩ k cap (flat (l.take k)) (by rfl) L4.out (N4.out _ (by exact ((Kept.refl [] w6).drew.alloc _))) (one_flat _) (by unfold maxLen; omega) (by omega) (by simp) ?_; intro v1 w7 o7 g7 b7 n7; have K7 := own_grown (World.ownsRow_lit (e := 49) (size := 2) w6.drew #[] 0 (Nat.le_refl _) (by decide) rfl) g7 w6 ((Kept.refl [] w6).drew.alloc _) (Nat.le_refl _))
                | (refine step_append_own (by rfl) _ _ _ (by rfl) w6.heap.size 49 i45 (.agg #[.int .i64 0, .int .i64 0]) 2 16 Tryd.underlying48 I45.out Z45.out S45.out B45.out rfl (by decide) v1 (0 + k) ([] ++ flat (l.take k)) (by rfl) o7 ad (l.length - (k + 1)) (cap - (k + 1)) (flat (l.drop (k + 1))) (by rfl) L5.out (N5.out _ K7) (one_flat _) (by unfold maxLen; omega) (by omega) K7.size ?_; intro v2 w8 o8 g8 b8 n8))
              have K8 := own_grown o7 g8 w6 K7 (Nat.le_refl _)
              have R8 := hide (B6.out.swap (l' := l.take k ++ l.drop (k + 1)) K8 (by
                have e1 : (l.take k ++ l.drop (k + 1)).length = 0 + k + (l.length - (k + 1)) := by simp; omega
                rw [e1, flat_append]; exact o8))
              have D5' := D5.out
              clear o7 g7 b7 n7 o8 g8 b8 n8 K7 K8 B6 N4 N5 L4 L5 hs1 hs2
              go_wp2
              go_roundw
              case rel => exact ⟨i + 1, l.take k ++ l.drop (k + 1), by go_num, by omega, by omega, by omega, _, _, _, _, R8.out⟩
              case measure => simp [intOf]; omega
          · have hevf : ((z1 i).tmod 2 == 0) = false := by simpa using hev
            go_wp2_with fail
            go_roundw
            case rel => exact ⟨i + 1, l, by go_num, by omega, by omega, by omega, _, _, _, _, R.out⟩
            case measure => simp [intOf]; omega
        · go_wp2_with fail
          go_roundw
          case rel => exact ⟨i + 1, l, by go_num, by omega, by omega, by omega, _, _, _, _, R.out⟩
          case measure => simp [intOf]; omega
      · have HN := hide hN
        clear hN
        go_wp2_with fail
        refine (S.out.nun o ho10 HN.out rfl).mono ?_
        rintro e w4 ⟨rfl, hw4⟩
        subst w4
        have R := hide S.out
        clear S HN hc
        by_cases hg : (i : Int) < len1
        · obtain ⟨b1, off1, rfl, hcg, -⟩ := (N2.out.kept R.out.kept) i (by omega)
          by_cases hev : ((z1 i).tmod 2 == 0) = true
          · by_cases hl0 : l.length = 0
            · obtain ⟨ao9, cp9, hv9⟩ := own_shape R.out.own
              rw [hl0] at hv9
              subst hv9
              go_wp2_with fail
              go_roundw
              case rel => exact ⟨i + 1, l, by go_num, by omega, by omega, by omega, _, _, _, _, R.out⟩
              case measure => simp [intOf]; omega
            · skip
              have hlen : 0 < l.length := by omega
              obtain ⟨g, cap, hu, hgb, hgl⟩ := World.ownsRow.form R.out.own hlen
              subst hu
              have hcap : l.length ≤ cap ∧ cap ≤ maxLen := by
                rcases R.out.own.2 with ⟨h, -⟩ | ⟨g', cap', cur, h, -, -, h1, h2, -⟩
                · cases h
                · cases h; exact ⟨h1, h2⟩
              obtain ⟨hc1, hc2⟩ := hcap
              unfold maxLen at hc2
              have hli : (0 : Int) < (l.length : Int) := by omega
              obtain ⟨k, hk9, hkE⟩ := mod_small (z1 i) l.length (by omega) (by omega)
              have hk : k < l.length := by omega
              obtain ⟨A, o, hAo⟩ : ∃ A o, l.getD k (0, 0) = (A, o) := ⟨_, _, rfl⟩
              have hcell : ∀ wr' u tk f F t, BW w wr' p 6 u tk f F t l (.slice (some ⟨g, 0, none⟩) l.length cap) → wr'.cell? ⟨g, k * 2, none⟩ = some (.int .i64 (A : Int)) ∧ wr'.cell? ⟨g, k * 2 + 1, none⟩ = some (.int .i64 (o : Int)) := by
                intro wr' u tk f F t h
                obtain ⟨f1, f2⟩ := flat_get l k hk
                rw [hAo] at f1 f2
                have h2 := World.ownsRow.cells h.own (g := g) rfl _ _ f1
                have h3 := World.ownsRow.cells h.own (g := g) rfl _ _ f2
                rw [add_plain, Nat.zero_add] at h2 h3
                exact ⟨h2, h3⟩
              obtain ⟨d1, d2, d3, d4, d5⟩ := drop_two R.out.nd hk
              rw [hAo] at d2 d3 d4
              have D1 := hide d1
              have D2 := hide d2
              have D3 := hide d3
              have D5 := hide d5
              have HC := hide hcell
              obtain ⟨c1, c2⟩ := hcell _ _ _ _ _ _ R.out
              have hk1 : (0 : Int) ≤ (k : Int) := by omega
              have hk3 : (k : Int) < (l.length : Int) := by omega
              clear d1 d2 d3 d4 d5 hcell hAo hk9
              have hwk : IntKind.i64.wrap ((k : Int) + 1) = (k : Int) + 1 := by rw [IntKind.wrap_i64]; omega
              have hs1 : ∀ wq, (Instr.slice 48 (.slice (some ⟨g, 0, none⟩) l.length cap) none (some (.int .i64 (k : Int))) none).run Tryd.prog wq = .ok (.slice (some ⟨g, 0, none⟩) k cap) wq := fun wq => run_cutS0 Tryd.underlying48 info45 _ _ _ _ k rfl (by omega) wq
              obtain ⟨ad, had, hadE⟩ := cut_at g cap (k + 1) 2
              have hs2 : ∀ wq, (Instr.slice 48 (.slice (some ⟨g, 0, none⟩) l.length cap) (some (.int .i64 ((k : Int) + 1))) none none).run Tryd.prog wq = .ok (.slice (some ad) (l.length - (k + 1)) (cap - (k + 1))) wq := fun wq => by
                rw [← had]; exact run_cutS Tryd.underlying48 info45 _ _ _ _ (k + 1) (by omega) (by omega) wq
              have HAd := hide hadE
              clear had hadE
              go_wp2_with fail
              go_region_held3 (fun w' => w'.cell? ⟨g, k * 2, none⟩ = some (.int .i64 (A : Int)) ∧ w'.cell? ⟨g, k * 2 + 1, none⟩ = some (.int .i64 (o : Int))) (go_keep) (first
                | (go_at_call 20; refine ((R.out.next (by first | exact Kept.refl [] _ | exact (Kept.refl [] _).drew | exact (Kept.refl [] _).drewN _)).give A o D3.out D1.out D2.out rfl rfl).mono ?_; rintro e w6 ⟨u6, tk6, f6, F6, rfl, hB6⟩; have B6 := hide hB6; obtain ⟨c3, c4⟩ := HC.out _ _ _ _ _ _ hB6; clear hB6))
              have N4 := hide (show ∀ W, Kept [] w6 W → ∀ j u, (flat (l.take k))[j]? = some u → W.cell? ((⟨g, 0, none⟩ : Addr).add j) = some u from fun W hW j u hu => by
                have hj : j < k * 2 := by have := getElem?_lt hu; rw [flat_length] at this; simp at this; omega
                refine hW.cell (World.ownsRow.cells B6.out.own rfl j u ?_) (by simp)
                rw [← hu, flat_take, List.getElem?_take, if_pos hj])
              have N5 := hide (show ∀ W, Kept [] w6 W → ∀ j u, (flat (l.drop (k + 1)))[j]? = some u → W.cell? (ad.add j) = some u from fun W hW j u hu => by
                have hj : j < (l.length - (k + 1)) * 2 := by have := getElem?_lt hu; rw [flat_length] at this; simpa using this
                rw [HAd.out j (by omega)]
                refine hW.cell ?_ (by simp)
                have h2 := World.ownsRow.cells B6.out.own (g := g) rfl ((k + 1) * 2 + j) u (by rw [← hu, flat_drop, List.getElem?_drop])
                rw [add_plain, Nat.zero_add] at h2
                exact h2)
              have L4 := hide (show (flat (l.take k)).length = k * 2 by rw [flat_length, List.length_take]; omega)
              have L5 := hide (show (flat (l.drop (k + 1))).length = (l.length - (k + 1)) * 2 by rw [flat_length, List.length_drop])
              clear HAd c1 c2 HC R D1 D2 D3
              go_wp2_with fail
              go_region_law (first
                | (refine step_append_own (by rfl) _ _ _ (by rfl) w6.heap.size 49 i45 (.agg #[.int .i64 0, .int .i64 0]) 2 16 Tryd.underlying48 I45.out Z45.out S45.out B45.out rfl (by decide) (.slice (some ⟨w6.heap.size, 0, none⟩) 0 0) 0 [] (by rfl) (World.ownsRow_lit _ #[] 0 (Nat.le_refl _) (by decide) rfl) ⟨g, 0, none⟩ k cap (flat (l.take k)) (by rfl) L4.out (N4.out _ (by exact ((Kept.refl [] w6).drew.alloc _))) (one_flat _) (by unfold maxLen; omega) (by omega) (by simp) ?_; intro v1 w7 o7 g7 b7 n7; have K7 := own_grown (World.ownsRow_lit (e := 49) (size := 2) w6.drew #[] 0 (Nat.le_refl _) (by decide) rfl) g7 w6 ((Kept.refl [] w6).drew.alloc _) (Nat.le_refl _))
                | (refine step_append_own (by rfl) _ _ _ (by rfl) w6.heap.size 49 i45 (.agg #[.int .i64 0, .int .i64 0]) 2 16 Tryd.underlying48 I45.out Z45.out S45.out B45.out rfl (by decide) v1 (0 + k) ([] ++ flat (l.take k)) (by rfl) o7 ad (l.length - (k + 1)) (cap - (k + 1)) (flat (l.drop (k + 1))) (by rfl) L5.out (N5.out _ K7) (one_flat _) (by unfold maxLen; omega) (by omega) K7.size ?_; intro v2 w8 o8 g8 b8 n8))
              have K8 := own_grown o7 g8 w6 K7 (Nat.le_refl _)
              have R8 := hide (B6.out.swap (l' := l.take k ++ l.drop (k + 1)) K8 (by
                have e1 : (l.take k ++ l.drop (k + 1)).length = 0 + k + (l.length - (k + 1)) := by simp; omega
                rw [e1, flat_append]; exact o8))
              have D5' := D5.out
              clear o7 g7 b7 n7 o8 g8 b8 n8 K7 K8 B6 N4 N5 L4 L5 hs1 hs2
              go_wp2
              go_roundw
              case rel => exact ⟨i + 1, l.take k ++ l.drop (k + 1), by go_num, by omega, by omega, by omega, _, _, _, _, R8.out⟩
              case measure => simp [intOf]; omega
          · have hevf : ((z1 i).tmod 2 == 0) = false := by simpa using hev
            go_wp2_with fail
            go_roundw
            case rel => exact ⟨i + 1, l, by go_num, by omega, by omega, by omega, _, _, _, _, R.out⟩
            case measure => simp [intOf]; omega
        · go_wp2_with fail
          go_roundw
          case rel => exact ⟨i + 1, l, by go_num, by omega, by omega, by omega, _, _, _, _, R.out⟩
          case measure => simp [intOf]; omega
    · have B0 := hide S.out.bs
      have KK := hide S.out.kept
      clear S N1 N2
      have hft := hide (show ∀ o, o ≤ 10 → fits (tops u) o (11 - o) = fit u o from fun o _ => rfl)
      have hfl := hide (fun o (ho : o ≤ 11) => B0.out.fit_le ho)
      obtain ⟨ix, hixE⟩ : ∃ ix : Nat → Nat, ix = fun o => tsum u o * 1000 / f := ⟨_, rfl⟩
      obtain ⟨nf, hnfE⟩ : ∃ nf : Bool, nf = decide (f ≠ 0) := ⟨_, rfl⟩
      have IX := hide (show ∀ w', Kept [] wr w' → ∀ o : Nat, o ≤ 10 → Calls Tryd.prog 8 #[.pointer (some ⟨p, 0, none⟩), .int .i64 (o : Int)] w' fun e w2 => e = .returned (.tuple #[.int .i64 (ix o : Nat), .bool nf]) ∧ Kept [] w' w2 from fun w' hk o ho => by
        rw [hixE, hnfE]
        by_cases hf : f = 0
        · subst hf
          refine (index_no (bs_free (B0.out.kept0 hk)) (.inr rfl)).mono ?_
          rintro e w2 ⟨rfl, rfl⟩
          exact ⟨by simp, Kept.refl _ _⟩
        · rw [decide_eq_true hf]
          exact index_ok (B0.out.kept0 hk) o ho hf rfl)
      have FX := hide (show ∀ w', Kept [] wr w' → ∀ o : Nat, o ≤ 10 → ∀ oi : Int, oi = o → Calls Tryd.prog 11 #[.pointer (some ⟨p, 0, none⟩), .int .i64 oi] w' fun e w2 => e = .returned (.int .i64 (fit u o : Nat)) ∧ Kept [] w' w2 from fun w' hk o ho oi eo => by
        exact fits_any (fun j hj => (B0.out).tops_le (Nat.le_of_lt_succ hj)) (orders_ok (B0.out.kept0 hk)) o ho eo)
      have HT := hide (show ∀ o, o ≤ 10 → ix o ≤ ix (o + 1) ∧ ix o ≤ 1000 from fun o ho => by
        rw [hixE]
        have h1 := tsum_mono u (a := o) 1
        refine ⟨Nat.div_le_div_right (Nat.mul_le_mul_right _ h1), ?_⟩
        have h2 : tsum u o ≤ f := by
          have h3 := tsum_mono u (a := o) (11 - o)
          rw [show o + (11 - o) = 11 by omega, B0.out.tsum] at h3
          exact h3
        by_cases hf : f = 0
        · subst hf; simp
        · exact Nat.div_le_of_le_mul (by rw [Nat.mul_comm f]; rw [Nat.mul_comm (tsum u o)]; exact Nat.mul_le_mul_left _ h2))
      have h0f : fit u 0 = f := by
        have h1 := tsum_fit (u := u) (o := 0) (by omega)
        rw [B0.out.tsum] at h1
        simp [tsum] at h1
        exact h1.symm
      have H0F := hide h0f
      have hpos : decide (0 < f) = nf := by
        rw [hnfE]
        by_cases h0 : f = 0
        · subst h0; simp
        · rw [decide_eq_true h0, decide_eq_true (by omega)]
      have HPos := hide hpos
      clear hpos hixE hnfE
      have hfle := B0.out.fle
      clear h0f
      have hx : ¬ ((i : Int) < len0 ∧ (i : Int) < 40) := by omega
      by_cases hil2 : (i : Int) < len0
      all_goals
        first | (have hi40n : ¬ ((i : Int) < 40) := by omega) | skip
        clear hx hi
        go_wp2_with fail
        go_loopw [13] (fun v wr' => ∃ j : Nat, v = .int .i64 j ∧ j ≤ 6 ∧ Kept [] wr wr') (fun v _ => 6 - (intOf v).toNat)
        case atStart => exact ⟨0, rfl, by omega, Kept.refl _ _⟩
        case round =>
          obtain ⟨j, rfl, hj6, hkj⟩ := hrel
          have KJ := hide hkj
          clear hkj
          by_cases hj : j < 6
          · have hji : (j : Int) < 6 := by omega
            have hw1 : IntKind.i64.wrap ((j : Int) + 1) = (j : Int) + 1 := by rw [IntKind.wrap_i64]; omega
            have hhf := fit_half (u := u) (o := j) (by omega)
            have hl1 := hfl.out (j + 1) (by omega)
            have hw2 : IntKind.i64.wrap (2 * (fit u (j + 1) : Nat) : Int) = 2 * (fit u (j + 1) : Nat) := by rw [IntKind.wrap_i64]; omega
            have hle : ¬ (fit u j : Int) < 2 * (fit u (j + 1) : Nat) := by omega
            obtain ⟨ht1, ht2⟩ := HT.out j (by omega)
            obtain ⟨-, ht3⟩ := HT.out (j + 1) (by omega)
            go_wp2_with fail
            refine (FX.out _ KJ.out (j + 1) (by omega) _ (by omega)).mono ?_
            rintro e w4 ⟨rfl, hk4⟩
            have K4 := hide (KJ.out.next hk4)
            clear hk4 KJ
            go_wp2_with fail
            refine (FX.out _ K4.out j (by omega) _ rfl).mono ?_
            rintro e w5 ⟨rfl, hk5⟩
            have K5 := hide (K4.out.next hk5)
            clear hk5 K4
            go_wp2_with fail
            refine (IX.out _ K5.out j (by omega)).mono ?_
            rintro e w6 ⟨rfl, hk6⟩
            have K6 := hide (K5.out.next hk6)
            clear hk6 K5
            go_wp2_with fail
            have IXj := hide (IX.out _ K6.out (j + 1) (by omega))
            have ej : (((j + 1 : Nat) : Nat) : Int) = (j : Int) + 1 := by omega
            rw [ej] at IXj
            clear ej ht2 hhf hl1 hw2 hle
            refine IXj.out.mono ?_
            rintro e w7 ⟨rfl, hk7⟩
            have K7 := hide (K6.out.next hk7)
            clear hk7 K6 IXj
            have hxy : ¬ (ix (j + 1) : Int) < (ix j : Int) := by omega
            have hy1 : ¬ (1000 : Int) < (ix (j + 1) : Int) := by omega
            have hpos := HPos.out
            have hb16 := hide (bs_free (B0.out.kept0 K7.out))
            go_wp2_with fail
            refine hb16.out.mono ?_
            rintro e w8 ⟨rfl, hw8⟩
            subst w8
            clear hb16
            go_wp2_with fail
            go_roundw
            case rel => exact ⟨j + 1, by go_num, by omega, K7.out⟩
            case measure => simp [intOf]; omega
          · have hji : ¬ (j : Int) < 6 := by omega
            go_wp2_with fail
            refine (FX.out _ KJ.out 0 (by omega) _ rfl).mono ?_
            rintro e w4 ⟨rfl, hk4⟩
            have K4 := hide (KJ.out.next hk4)
            rw [H0F.out]
            clear hk4 KJ
            go_wp2_with fail
            refine (bs_free (B0.out.kept0 K4.out)).mono ?_
            rintro e w5 ⟨rfl, hw5⟩
            subst w5
            go_wp2_with fail
            go_ret
            exact ⟨rfl, KK.out.next K4.out⟩

theorem own : ownKnob Tryd.prog.godebug = none := by kernel_rfl
theorem laidOut : laidOutB Tryd.prog = true := by kernel_rfl

set_option maxRecDepth 100000 in
theorem contract (H : Type) (enc : TypeId × Value → H) (W : World) (base : Nat) (args : Array Value) (ds gs : List (DataW H)) (before : List MemPlace)
    (hval : ∀ (j : Nat) t v, Tryd.f7.params[j]? = some t → args[j]? = some v → Value.okWide Tryd.prog W .any base t v)
    (hW : DataW.Whole enc Tryd.prog Tryd.f7.params.toList Rows.messuageFragsSpec.vars false W args.toList ds gs before) (_hsh : W.ShapedOpen Tryd.prog) (hlaid : laidMetH Tryd.prog Rows.messuageFragsRow.laid W) :
    Calls Tryd.prog 7 args W fun e W' => ∃ v, e = .returned v ∧ Rows.messuageFragsSpec.post enc Tryd.prog Tryd.f7 false true false false W args v W' := by
  have hW' := hW
  obtain ⟨p, q, hA0, hV, rfl, hfz, hnd⟩ := hW
  have hA : DataW.TrodAll enc Tryd.prog W 0 (fun _ => true) true Tryd.f7.params.toList args.toList ds p := hA0
  have hK := hA
  rw [Tryd.params7] at hA hval
  obtain ⟨v0, vs0, d0, ds0, p0, q0, hargs, rfl, rfl, h0, r0⟩ := trodAll_cons hA
  obtain ⟨v1, vs1, d1, ds1, p1, q1, rfl, rfl, rfl, h1, r1⟩ := trodAll_cons r0
  obtain ⟨rfl, rfl, rfl⟩ := trodAll_nil r1
  obtain rfl : args = #[v0, v1] := by cases args; simp_all
  obtain ⟨rfl, rfl⟩ := trodVars_none hV
  obtain ⟨a0, len0, cap0, zs0, rfl, hl0, hm0, hn0, hT0⟩ := open_list Tryd.underlying47 Tryd.underlying3 (by kernel_rfl) (okWide_slice Tryd.underlying47 (hval 0 47 v0 rfl rfl)) h0
  obtain ⟨a1, len1, cap1, zs1, rfl, hl1, hm1, hn1, hT1⟩ := open_list Tryd.underlying47 Tryd.underlying3 (by kernel_rfl) (okWide_slice Tryd.underlying47 (hval 1 47 v1 rfl rfl)) h1
  have hTab : By.Tab W := By.tab_of_laid hlaid
  clear hA0
  refine (walk hTab (Nat.le_trans hl0 hm0) hT0 (Nat.le_trans hl1 hm1) hT1 (fun w2 _ => St.stands_true w2)).mono fun e W' ⟨he, hk⟩ => ?_
  subst he
  exact ⟨_, rfl, _, _, _, [], _, [], hW', trodAll_mk1 (shut_bool Tryd.underlying4 _), trodAll_below laidOut hk.below _ _ _ _ hK (by kernel_rfl), rfl, hk.below.frame _, fun h => by cases h⟩

set_option maxRecDepth 100000 in
theorem laid_met (os : Os) : laidMet Tryd.prog Rows.messuageFragsRow.laid ((World.laidAll Tryd.prog os Rows.messuageFragsRow.laid).forCall (fun _ _ => 0) ⟨#[], #[.slice none 0 0, .slice none 0 0], []⟩).memory :=
  laidMet_laidAll _ (by kernel_rfl) (by kernel_rfl)
set_option maxRecDepth 100000 in
theorem reads (os : Os) {H : Type} (enc : TypeId × Value → H) : ∃ places, DataW.whole enc Tryd.prog ((World.laidAll Tryd.prog os Rows.messuageFragsRow.laid).forCall (fun _ _ => 0) ⟨#[], #[.slice none 0 0, .slice none 0 0], []⟩).memory Tryd.f7.params.toList Rows.messuageFragsSpec.vars false (#[.slice none 0 0, .slice none 0 0] : Array Value).toList 8 = some ([.nil, .nil], [], places) :=
  ⟨[], by kernel_rfl⟩

set_option maxRecDepth 100000 in
theorem lifted (os : Os) (started : os.Started) (H : Type) (enc : TypeId × Value → H) (F : Stop.Interp) :
    ReturnsInHanded {} Tryd.checked os 7 .any ((OpenSpec.ofChange Rows.messuageFragsSpec).preRow enc Tryd.prog Tryd.f7 Rows.messuageFragsRow.domain false Rows.messuageFragsRow.laid) (((OpenSpec.ofChange Rows.messuageFragsSpec).at F).post enc Tryd.prog Tryd.f7 false true false false) := by
  obtain ⟨places, hx⟩ := reads os enc
  refine returnsInHanded_of_row (C := Tryd.checked) (s := OpenSpec.ofChange Rows.messuageFragsSpec) own started (by kernel_rfl) Tryd.func7
    (witness_row_at (enc := enc) (C := Tryd.checked) false (World.laidAll Tryd.prog os Rows.messuageFragsRow.laid) #[.slice none 0 0, .slice none 0 0] (World.laidAll_os _ _ _) (by kernel_rfl) (by kernel_rfl) (by kernel_rfl)
      (OpenSpec.preRow_of_cond 8 hx (by kernel_rfl) (fun k hk => by cases hk) (by kernel_rfl) (laid_met os))) ?_
  intro W base args ds gs before hval hW _ _ _ hlaid hsh _
  exact contract H enc W base args ds gs before hval hW hsh hlaid

theorem said : Rows.MessuageFragsSaid :=
  OpenClaim.holds_of_cond 7 Tryd.f7 rfl rfl rfl rfl rfl rfl rfl ⟨rfl, rfl, rfl, rfl, rfl⟩ rfl rfl rfl rfl rfl (by kernel_rfl) Tryd.func7 (by kernel_rfl)
    (of_decide_eq_true (by kernel_rfl)) (by unfold Func.isWrapper; first | (rw [if_pos (by decide +kernel)]; kernel_rfl) | (rw [if_neg (by decide +kernel)]; exact ⟨rfl, rfl⟩))
    (fun os started H enc _ F => by rw [OpenClaim.pre_eq_preRow]; exact lifted os started H enc F)

theorem plain (f : FuncId) (fn : Func) (hf : Tryd.pinned.checked.prog.funcNamed Tryd.f7.name = some f) (hfn : Tryd.pinned.checked.prog.funcs[f]? = some fn) :
    false = Tryd.pinned.checked.prog.looks [] ∧ ∀ (j : Nat) t, fn.params[j]? = some t → Tryd.pinned.checked.prog.wantsStandIn t = false := by
  obtain rfl : f = 7 := Option.some.inj ((show Tryd.prog.funcNamed Tryd.f7.name = some 7 by kernel_rfl).symm.trans hf) |>.symm
  obtain rfl : fn = Tryd.f7 := (Option.some.inj (Tryd.func7.symm.trans hfn)).symm
  refine ⟨by kernel_rfl, fun j t ht => ?_⟩
  rw [Tryd.params7] at ht
  have hm : t = 47 := by have h9 := Array.mem_of_getElem? ht; simp at h9; first | exact h9 | (rcases h9 with h | h | h <;> simp [h])
  rcases hm with rfl
  · exact (show Tryd.prog.wantsStandIn 47 = false by kernel_rfl)

theorem card : Rows.MessuageFragsCardSaid :=
  Claim7.holds_tied_plain_at .later [] _ _ _ _ said (fun _ h => by cases h) (by kernel_rfl) (fun _ h => by cases h) messuageFrags_row_tie rfl ⟨rfl, rfl⟩ (by kernel_rfl) rfl plain (by kernel_rfl)
end Go.Proofs.YtpljldjdemobbaaDoor.top
