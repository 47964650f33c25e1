/-
  GridPuts: for all numbers of rows and columns and every list of places and numbers the law answers true, and its arguments read behind the call as before. No condition.
-/
import Derived.Test.YtjcghcibligioabGrids
import Derived.Test.YtjcghcibligioabNilI
import Derived.Test.YtjcghcibligioabRowI
import Derived.Test.YtjcghcibligioabRef
import Derived.Test.YtjcghcibligioabOpen3
import Derived.Deep.RegionHeld3
namespace Go.Proofs.Ytjcghcibligioab.puts
open Go.ChangeShapes Go.WideShapes Go.ChangeAt Go.RowKit GI RF

theorem turn_turn (m n : Nat) (f : Nat → Int) (i : Nat) (hi : i < m * n) : turn n m (turn m n f) i = f i := by
  unfold turn
  have hn : 0 < n := Nat.pos_of_ne_zero (by rintro rfl; simp at hi)
  have h1 : i / n < m := Nat.div_lt_of_lt_mul (by rw [Nat.mul_comm]; exact hi)
  have h2 : (i % n * m + i / n) % m = i / n := by rw [Nat.add_comm, Nat.add_mul_mod_self_right]; exact Nat.mod_eq_of_lt h1
  have h3 : (i % n * m + i / n) / m = i % n := by rw [Nat.add_comm, Nat.add_mul_div_right _ _ (by omega), Nat.div_eq_of_lt h1]; omega
  rw [h2, h3, Nat.mul_comm, Nat.div_add_mod]
theorem turn_at (m n : Nat) (f : Nat → Int) (r c : Nat) (hr : r < m) : turn m n f (c * m + r) = f (r * n + c) := by
  unfold turn
  have h2 : (c * m + r) % m = r := by rw [Nat.add_comm, Nat.add_mul_mod_self_right]; exact Nat.mod_eq_of_lt hr
  have h3 : (c * m + r) / m = c := by rw [Nat.add_comm, Nat.add_mul_div_right _ _ (by omega), Nat.div_eq_of_lt hr]; omega
  rw [h2, h3]
theorem same_sym {b b' : Bool} {m n : Nat} {f : Nat → Int} (h : SameIs b n m (turn m n f) m n f) (h' : SymIs b' m n f) : b = b' := by
  have e : b = true ↔ b' = true := by
    unfold SameIs at h
    unfold SymIs at h'
    rw [h, h']
    constructor
    · rintro ⟨rfl, -, hf⟩
      refine ⟨rfl, fun r c hr hc => ?_⟩
      rw [← turn_at n n f c r hc, hf _ (pos_lt hr hc)]
    · rintro ⟨rfl, hf⟩
      refine ⟨rfl, rfl, fun i hi => ?_⟩
      have hm : 0 < m := Nat.pos_of_ne_zero (by rintro rfl; simp at hi)
      have h1 : i / m < m := Nat.div_lt_of_lt_mul hi
      have h2 : i % m < m := Nat.mod_lt _ hm
      have h3 : i = i / m * m + i % m := by rw [Nat.mul_comm, Nat.div_add_mod]
      have h4 := hf (i / m) (i % m) h1 h2
      unfold turn
      rw [← h4, ← h3]
  cases b <;> cases b' <;> simp_all

set_option maxHeartbeats 400000 in
theorem none_any (w : World) : Calls Try.prog 7 #[] w fun e w' => e = .returned (.pointer none) ∧ w' = w := by
  go_enter Try.func7, Try.ntmps7
  go_wp2
  go_ret
  exact ⟨rfl, rfl⟩

set_option maxRecDepth 100000 in
set_option maxHeartbeats 1000000 in
theorem walk_bad (rows cols : Int) (ao : Option Addr) (len cap : Nat) (w : World) (hB : ¬ (0 ≤ rows ∧ rows ≤ 64 ∧ 0 ≤ cols ∧ cols ≤ 64)) :
    Calls Try.prog 3 #[.int .i64 rows, .int .i64 cols, .slice ao len cap] w fun e w' => e = .returned (.bool true) ∧ Kept [] w w' := by
  rcases (show rows < 0 ∨ 64 < rows ∨ (0 ≤ rows ∧ rows ≤ 64 ∧ cols < 0) ∨ (0 ≤ rows ∧ rows ≤ 64 ∧ 64 < cols) from by omega) with h | h | ⟨h, h2, h3⟩ | ⟨h, h2, h3⟩
  all_goals
    have hsd : sideB rows = false ∨ sideB rows = true ∧ sideB cols = false := by
      by_cases hx : 0 ≤ rows ∧ rows ≤ 64
      · exact .inr ⟨sideB_true hx, sideB_false (by omega)⟩
      · exact .inl (sideB_false hx)
    have HS := hide hsd
    clear hsd hB
    go_enter Try.func3, Try.ntmps3
    go_wp2_with (first
      | (go_at_call 7; refine (none_any _).mono ?_; rintro e w' ⟨rfl, rfl⟩)
      | (go_at_call 8; refine (at_nil 0 0).mono ?_; rintro e w' ⟨rfl, rfl⟩)
      | (go_at_call 9; refine (grids_true _).mono ?_; rintro e w1 ⟨rfl, k1⟩)
      | (go_at_call 10; refine (put_nil 0 0 1).mono ?_; rintro e w' ⟨rfl, rfl⟩)
      | (go_at_call 11; refine (rows_nil _).mono ?_; rintro e w' ⟨rfl, rfl⟩)
      | (go_at_call 12; refine (cols_nil _).mono ?_; rintro e w' ⟨rfl, rfl⟩)
      | (go_at_call 13; refine (row_nil 0).mono ?_; rintro e w' ⟨rfl, rfl⟩)
      | (go_at_call 14; refine (turned_nil).mono ?_; rintro e w' ⟨rfl, rfl⟩)
      | (go_at_call 15; refine (same_nil_nil).mono ?_; rintro e w2 ⟨rfl, k2⟩)
      | (go_at_call 16; refine (GI.new_bad rows cols HS.out).mono ?_; rintro e w3 ⟨rfl, rfl⟩))
    go_ret
    exact ⟨rfl, k1.next k2⟩

set_option maxRecDepth 100000 in
set_option maxHeartbeats 2000000 in
theorem walk_ok (m n : Nat) (hm : m ≤ 64) (hn : n ≤ 64) (ao : Option Addr) (len cap : Nat) (R C X : Nat → Int) (w : World) (hlen : len ≤ maxLen) (hT : IsTriples w ao len R C X) :
    Calls Try.prog 3 #[.int .i64 m, .int .i64 n, .slice ao len cap] w fun e w' => e = .returned (.bool true) ∧ Kept [] w w' := by
  unfold maxLen at hlen
  have HT := hide hT
  clear hT
  go_enter Try.func3, Try.ntmps3
  go_wp2_with (first
    | (go_at_call 7; refine (none_any _).mono ?_; rintro e w' ⟨rfl, hw⟩; subst w')
    | (go_at_call 8; refine (at_nil 0 0).mono ?_; rintro e w' ⟨rfl, hw⟩; subst w')
    | (go_at_call 9; refine (grids_true _).mono ?_; rintro e w1 ⟨rfl, k1⟩)
    | (go_at_call 10; refine (put_nil 0 0 1).mono ?_; rintro e w' ⟨rfl, hw⟩; subst w')
    | (go_at_call 11; refine (rows_nil _).mono ?_; rintro e w' ⟨rfl, hw⟩; subst w')
    | (go_at_call 12; refine (cols_nil _).mono ?_; rintro e w' ⟨rfl, hw⟩; subst w')
    | (go_at_call 13; refine (row_nil 0).mono ?_; rintro e w' ⟨rfl, hw⟩; subst w')
    | (go_at_call 14; refine (turned_nil).mono ?_; rintro e w' ⟨rfl, hw⟩; subst w')
    | (go_at_call 15; refine (same_nil_nil).mono ?_; rintro e w2 ⟨rfl, k2⟩))
  refine (GI.new_ok m n hm hn).mono ?_
  rintro e w3 ⟨g, c, rfl, hG, hg, hc, k3⟩
  have K3 := hide ((k1.next k2).next k3)
  have hgw : w.heap.size ≤ g := Nat.le_trans (k1.next k2).size hg
  have hcw : w.heap.size ≤ c := Nat.le_trans (k1.next k2).size hc
  have GG := hide hG
  clear hG hg hc k1 k2 k3
  go_wp2_with fail
  refine (RF.new_ok m n hm hn).mono ?_
  rintro e w4 ⟨g2, c2, rfl, hR, hg2, hc2, k4⟩
  have K4 := hide (K3.out.next k4)
  have hne : g ≠ c2 ∧ c ≠ c2 ∧ g2 ≠ c ∧ c2 ≠ c := by
    have := GG.out.glt
    have := GG.out.clt
    omega
  obtain ⟨n1, n2, n3, n4⟩ := hne
  have hg2w : w.heap.size ≤ g2 := Nat.le_trans K3.out.size hg2
  have hc2w : w.heap.size ≤ c2 := Nat.le_trans K3.out.size hc2
  have GG := hide (GG.out.kept k4 (by simp) (by simp))
  have RR := hide hR
  clear hR hg2 hc2 k4 K3
  go_wp2_with fail
  go_loopw [12] (fun i wr => ∃ (k : Nat) (f : Nat → Int), k ≤ len ∧ k ≤ 30 ∧ i = .int .i64 k ∧ GI.GridAt wr g c m n f ∧ RefAt wr g2 c2 m n f ∧ Kept [] w wr) (fun i _ => 30 - (intOf i).toNat)
  case atStart => exact ⟨0, _, by omega, by omega, rfl, GG.out, RR.out, K4.out⟩
  case round =>
    obtain ⟨k, f, hk, hk30, rfl, hG, hR, hK⟩ := hrel
    by_cases hlt : k < len ∧ k < 30
    · obtain ⟨hkl, hk3⟩ := hlt
      obtain ⟨b, off, hao, hx0, hx1, hx2⟩ := HT.out k hkl
      subst hao
      have y0 := hK.cell hx0 (by simp)
      have y1 := hK.cell hx1 (by simp)
      have y2 := hK.cell hx2 (by simp)
      have hbw := World.block_lt_of_cell? _ _ hx0
      have GG := hide hG
      have RR := hide hR
      have KK := hide hK
      clear hG hR hK hx0 hx1 hx2
      have hck := GG.out.clt
      have hc2k := RR.out.clt
      have hpk : Kept [] wr (wr.alloc (.cells #[.int .i64 (R k), .int .i64 (C k), .int .i64 (X k)] 39)) := (Kept.refl _ _).alloc _
      have z0 : (wr.alloc (.cells #[.int .i64 (R k), .int .i64 (C k), .int .i64 (X k)] 39)).cell? ⟨wr.heap.size, 0, none⟩ = some (.int .i64 (R k)) := by simp
      have z1 : (wr.alloc (.cells #[.int .i64 (R k), .int .i64 (C k), .int .i64 (X k)] 39)).cell? ⟨wr.heap.size, 1, none⟩ = some (.int .i64 (C k)) := by simp
      have z2 : (wr.alloc (.cells #[.int .i64 (R k), .int .i64 (C k), .int .i64 (X k)] 39)).cell? ⟨wr.heap.size, 2, none⟩ = some (.int .i64 (X k)) := by simp
      have GP := hide (GG.out.kept hpk (by simp) (by simp))
      have RP := hide (RR.out.kept hpk (by simp) (by simp))
      have KP := hide (KK.out.next hpk)
      have Z := hide (And.intro z0 (And.intro z1 z2))
      clear hpk z0 z1 z2
      by_cases hin : 0 ≤ R k ∧ R k < m ∧ 0 ≤ C k ∧ C k < n
      · obtain ⟨r, er⟩ := Int.eq_ofNat_of_zero_le hin.1
        obtain ⟨q, eq⟩ := Int.eq_ofNat_of_zero_le hin.2.2.1
        have hB : hasB m n (R k) (C k) = true := hasB_true hin
        have hr : r < m := by omega
        have hq : q < n := by omega
        have ER := hide er
        have EQ := hide eq
        clear hin er eq
        go_wp2_with fail
        refine (GI.put_at r q ER.out EQ.out (X k) (by exact GP.out) hr hq).mono ?_
        rintro e w5 ⟨rfl, hG5, k5⟩
        have z0 := k5.cell Z.out.1 (by simp; omega)
        have z1 := k5.cell Z.out.2.1 (by simp; omega)
        have z2 := k5.cell Z.out.2.2 (by simp; omega)
        have hR5 := RP.out.kept k5 (by simpa using n3) (by simpa using n4)
        have a0 := hR5.c0
        have a1 := hR5.c1
        have K5 := hide (KP.out.trans k5 (by intro x hx hl; simp at hx; omega))
        have G5 := hide hG5
        have R5 := hide hR5
        clear hG5 hR5 k5
        go_wp2_with fail
        refine (RF.has_any g2 m n (R k) (C k) _ a0 a1).mono ?_
        rintro e w6 ⟨rfl, hw⟩
        subst w6
        rw [hB]
        clear a0 a1
        go_wp2_with fail
        refine (RF.put_ok r q ER.out EQ.out (X k) (by exact R5.out) hr hq).mono ?_
        rintro e w6 ⟨rfl, hR6, k6⟩
        have z0 := k6.cell z0 (by simp; omega)
        have z1 := k6.cell z1 (by simp; omega)
        have z2 := k6.cell z2 (by simp; omega)
        have hG6 := G5.out.kept k6 (by simpa using n1) (by simpa using n2)
        have K6 := hide (K5.out.trans k6 (by intro x hx hl; simp at hx; omega))
        have RR6 := hide hR6
        have GG6 := hide hG6
        clear hR6 hG6 k6
        go_wp2_with fail
        refine (GI.at_at r q ER.out EQ.out (by exact GG6.out) hr hq).mono ?_
        rintro e w7 ⟨rfl, hw⟩
        subst w7
        rw [if_pos rfl]
        go_wp2
        go_roundw
        case rel => exact ⟨k + 1, _, by omega, by omega, by go_num, GG6.out.kept (Kept.refl [] _).drew (by simp) (by simp), RR6.out.kept (Kept.refl [] _).drew (by simp) (by simp), K6.out.drew⟩
        case measure => simp [intOf]; omega
      · have hB : hasB m n (R k) (C k) = false := hasB_false hin
        have a0 := GP.out.c0
        have a1 := GP.out.c1
        have r0 := RP.out.c0
        have r1 := RP.out.c1
        clear hin
        go_wp2_with fail
        refine (GI.put_bad (R k) (C k) (X k) (by exact a0) (by exact a1) hB).mono ?_
        rintro e w5 ⟨rfl, hw⟩
        subst w5
        go_wp2_with fail
        refine (RF.has_any g2 m n (R k) (C k) _ (by exact r0) (by exact r1)).mono ?_
        rintro e w6 ⟨rfl, hw⟩
        subst w6
        rw [hB]
        go_wp2_with fail
        refine (GI.at_bad (R k) (C k) (by exact a0) (by exact a1) hB).mono ?_
        rintro e w7 ⟨rfl, hw⟩
        subst w7
        go_wp2
        go_roundw
        case rel => exact ⟨k + 1, f, by omega, by omega, by go_num, GP.out, RP.out, KP.out⟩
        case measure => simp [intOf]; omega
    · have GG := hide hG
      have RR := hide hR
      have KK := hide hK
      clear hG hR hK HT K4
      rcases (show (k < 30 ∧ len ≤ k) ∨ (30 ≤ k ∧ k < len) ∨ (30 ≤ k ∧ len ≤ k) from by omega) with ⟨h30, hle⟩ | ⟨h30, hle⟩ | ⟨h30, hle⟩
      all_goals
        go_wp2_with fail
        refine (turned_ok (by exact GG.out)).mono ?_
        rintro e w5 ⟨gt, ct, rfl, hT5, hgt, hct, k5⟩
        have T5 := hide hT5
        have G5 := hide (GG.out.kept k5 (by simp) (by simp))
        have R5 := hide (RR.out.kept k5 (by simp) (by simp))
        have K5 := hide (KK.out.next k5)
        have t0 := hT5.c0
        have t1 := hT5.c1
        clear hT5 k5 hgt hct
        go_wp2_with fail
        refine (rows_any gt n _ (by exact t0)).mono ?_
        rintro e w6 ⟨rfl, hw⟩
        subst w6
        go_wp2_with fail
        refine (cols_any gt m _ (by exact t1)).mono ?_
        rintro e w6 ⟨rfl, hw⟩
        subst w6
        clear t0 t1
        go_wp2_with fail
        refine (turned_ok (by exact T5.out)).mono ?_
        rintro e w6 ⟨gu, cu, rfl, hU, hgu, hcu, k6⟩
        have U6 := hide (hU.congr (f' := f) (fun i hi => turn_turn m n f i hi))
        have G6 := hide (G5.out.kept k6 (by simp) (by simp))
        have T6 := hide (T5.out.kept k6 (by simp) (by simp))
        have R6 := hide (R5.out.kept k6 (by simp) (by simp))
        have K6 := hide (K5.out.next k6)
        clear hU k6 hgu hcu G5 T5 R5 K5
        go_wp2_with fail
        refine (same_ok (by exact U6.out) (by exact G6.out)).mono ?_
        rintro e w7 ⟨b1, rfl, s1, k7⟩
        obtain rfl : b1 = true := s1.2 ⟨rfl, rfl, fun _ _ => rfl⟩
        have G7 := hide (G6.out.kept k7 (by simp) (by simp))
        have T7 := hide (T6.out.kept k7 (by simp) (by simp))
        have R7 := hide (R6.out.kept k7 (by simp) (by simp))
        have K7 := hide (K6.out.next k7)
        clear s1 k7 U6 G6 T6 R6 K6
        go_wp2_with fail
        refine (same_nil _).mono ?_
        rintro e w8 ⟨rfl, k8⟩
        have G8 := hide (G7.out.kept k8 (by simp) (by simp))
        have T8 := hide (T7.out.kept k8 (by simp) (by simp))
        have R8 := hide (R7.out.kept k8 (by simp) (by simp))
        have K8 := hide (K7.out.next k8)
        clear k8 G7 T7 R7 K7
        go_wp2_with fail
        refine (GI.same_ok (by exact T8.out) (by exact G8.out)).mono ?_
        rintro e w9 ⟨b2, rfl, s2, k9⟩
        have G9 := hide (G8.out.kept k9 (by simp) (by simp))
        have T9 := hide (T8.out.kept k9 (by simp) (by simp))
        have R9 := hide (R8.out.kept k9 (by simp) (by simp))
        have K9 := hide (K8.out.next k9)
        have S2 := hide s2
        clear s2 k9 G8 T8 R8 K8
        go_wp2_with fail
        refine (RF.same_ok (by exact R9.out)).mono ?_
        rintro e w10 ⟨b3, rfl, s3, k10⟩
        obtain rfl := same_sym S2.out s3
        have G10 := hide (G9.out.kept k10 (by simp) (by simp))
        have T10 := hide (T9.out.kept k10 (by simp) (by simp))
        have R10 := hide (R9.out.kept k10 (by simp) (by simp))
        have K10 := hide (K9.out.next k10)
        have hbb : (b2 != b2) = false := by simp
        clear s3 k10 G9 T9 R9 K9 S2 GG RR KK
        go_wp2_with fail
        go_loopw [18] (fun i wr => ∃ r : Nat, r ≤ m ∧ i = .int .i64 r ∧ GI.GridAt wr g c m n f ∧ GI.GridAt wr gt ct n m (turn m n f) ∧ RefAt wr g2 c2 m n f ∧ Kept [] w wr) (fun i _ => m - (intOf i).toNat)
        case atStart => exact ⟨0, by omega, rfl, G10.out, T10.out, R10.out, K10.out⟩
        case round =>
          obtain ⟨r, hr, rfl, hG, hTT, hR, hK⟩ := hrel
          by_cases hrm : r < m
          · have GG := hide hG
            have TT := hide hTT
            have RR := hide hR
            have KK := hide hK
            clear hG hTT hR hK
            go_wp2_with fail
            refine (GI.row_ok r (by exact GG.out) hrm).mono ?_
            rintro e w11 ⟨bl, capl, hl, rfl, hbl, hcl, hrow, hf, k11⟩
            have hln : ((n : Int) != (n : Int)) = false := by simp
            have HF := hide hf
            have R11 := hide (And.intro (GG.out.kept k11 (by simp) (by simp)) (And.intro (TT.out.kept k11 (by simp) (by simp)) (And.intro (RR.out.kept k11 (by simp) (by simp)) (And.intro (KK.out.next k11) hrow))))
            clear hf k11 hrow GG TT RR KK
            go_wp2_with fail
            go_loopw [20] (fun i wr => ∃ q : Nat, q ≤ n ∧ i = .int .i64 q ∧ GI.GridAt wr g c m n f ∧ GI.GridAt wr gt ct n m (turn m n f) ∧ RefAt wr g2 c2 m n f ∧ Kept [] w wr ∧ wr.rowIs bl 3 capl hl) (fun i _ => n - (intOf i).toNat)
            case atStart => exact ⟨0, by omega, rfl, R11.out⟩
            case round =>
              obtain ⟨q, hq, rfl, hG, hTT, hR, hK, hrow⟩ := hrel
              by_cases hqn : q < n
              · have hcl2 := hrow.cell (i := q) (by omega)
                rw [HF.out q hqn] at hcl2
                have hcl3 : ∀ j, (wr.drewN j).cell? ⟨bl, q, none⟩ = some (.int .i64 (f (r * n + q))) := fun j => hcl2
                have AL := hide (And.intro hG (And.intro hTT (And.intro hR (And.intro hK hrow))))
                clear hG hTT hR hK hrow
                go_wp2_with fail
                refine (GI.at_ok q r (by exact AL.out.2.1) hqn hrm).mono ?_
                rintro e w12 ⟨rfl, hw⟩
                subst w12
                rw [turn_at m n f r q hrm]
                have hq0 : (0 : Int) ≤ (q : Int) := by omega
                have hq1 : (q : Int) < (n : Int) := by omega
                go_wp2_with fail
                go_region_held3 (fun w' => w'.cell? ⟨bl, q, none⟩ = some (.int .i64 (f (r * n + q)))) (go_keep) ((go_at_call 21; refine (RF.at_ok r q (by exact AL.out.2.2.1.kept (Kept.refl [] _).drew.drew (by simp) (by simp)) hrm hqn).mono ?_; rintro e w' ⟨rfl, rfl⟩))
                go_wp2
                go_roundw
                case rel => exact ⟨q + 1, by omega, by go_num, AL.out.1.kept (Kept.refl [] _).drew.drew.drew (by simp) (by simp), AL.out.2.1.kept (Kept.refl [] _).drew.drew.drew (by simp) (by simp), AL.out.2.2.1.kept (Kept.refl [] _).drew.drew.drew (by simp) (by simp), AL.out.2.2.2.1.drew.drew.drew, AL.out.2.2.2.2⟩
                case measure => simp [intOf]; omega
              · have AL := hide (And.intro hG (And.intro hTT (And.intro hR hK)))
                clear hG hTT hR hK hrow
                go_wp2
                go_roundw
                case rel => exact ⟨r + 1, by omega, by go_num, AL.out⟩
                case measure => simp [intOf]; omega
          · have a0 := hG.c0
            have KK := hide hK
            clear hG hTT hR hK
            go_wp2_with fail
            refine (GI.row_bad (m : Int) (by exact a0) (by omega)).mono ?_
            rintro e w11 ⟨rfl, hw⟩
            subst w11
            go_wp2_with fail
            refine (GI.row_bad (-1) (by exact a0) (by omega)).mono ?_
            rintro e w11 ⟨rfl, hw⟩
            subst w11
            go_wp2
            go_ret
            exact ⟨rfl, KK.out⟩

theorem walk (rows cols : Int) (ao : Option Addr) (len cap : Nat) (R C X : Nat → Int) (w : World) (hlen : len ≤ maxLen) (hT : IsTriples w ao len R C X) :
    Calls Try.prog 3 #[.int .i64 rows, .int .i64 cols, .slice ao len cap] w fun e w' => e = .returned (.bool true) ∧ Kept [] w w' := by
  by_cases h : 0 ≤ rows ∧ rows ≤ 64 ∧ 0 ≤ cols ∧ cols ≤ 64
  · obtain ⟨m, rfl⟩ := Int.eq_ofNat_of_zero_le h.1
    obtain ⟨n, rfl⟩ := Int.eq_ofNat_of_zero_le h.2.2.1
    exact walk_ok m n (by omega) (by omega) ao len cap R C X w hlen hT
  · exact walk_bad rows cols ao len cap w h


theorem own : ownKnob Try.prog.godebug = none := by kernel_rfl
theorem laidOut : laidOutB Try.prog = true := by kernel_rfl

set_option maxRecDepth 100000 in
theorem lifted (os : Os) (started : os.Started) (H : Type) (enc : TypeId × Value → H) :
    ReturnsInHanded {} Try.checked os 3 .any (Rows.gridPutsSpec.pre6 enc Try.prog Try.f3 Rows.gridPutsRow.domain false) (Rows.gridPutsSpec.post enc Try.prog Try.f3 false true false false) := by
  refine returnsInHanded_of_change (C := Try.checked) own started (by kernel_rfl) Try.func3
    (ChangeSpec.witness6 (enc := enc) (C := Try.checked) false ⟨#[], #[.int .i64 0, .int .i64 0, .slice none 0 0], []⟩ 8 (by kernel_rfl) (by kernel_rfl) (by kernel_rfl) (by kernel_rfl)) ?_
  intro W base args ds gs before hval0 hW hcnd _
  have hval : ∀ (j : Nat) t v, Try.f3.params[j]? = some t → args[j]? = some v → Value.okWide Try.prog W .any base t v := hval0
  have hW' := hW
  obtain ⟨p, q, hA0, hV, rfl, hfz, hnd⟩ := hW
  have hA : DataW.TrodAll enc Try.prog W 0 (fun _ => true) true Try.f3.params.toList args.toList ds p := hA0
  have hK := hA
  rw [Try.params3] at hA hval
  obtain ⟨v0, vs0, d0, ds0, p0, q0, hargs, rfl, rfl, h0, r0⟩ := trodAll_cons hA
  obtain ⟨v1, vs1, d1, ds1, p1, q1, rfl, rfl, rfl, h1, r1⟩ := trodAll_cons r0
  obtain ⟨v2, vs2, d2, ds2, p2, q2, rfl, rfl, rfl, h2, r2⟩ := trodAll_cons r1
  obtain ⟨rfl, rfl, rfl⟩ := trodAll_nil r2
  obtain rfl : args = #[v0, v1, v2] := by cases args; simp_all
  obtain ⟨rfl, rfl⟩ := trodVars_none hV
  obtain ⟨rows, rfl, rfl, rfl, w0⟩ := open_int Try.underlying3 (hval 0 3 v0 rfl rfl) h0
  obtain ⟨cols, rfl, rfl, rfl, w1⟩ := open_int Try.underlying3 (hval 1 3 v1 rfl rfl) h1
  obtain ⟨a0, len0, cap0, R, C, X, rfl, hlen, hcap, hT⟩ := open_triples Try.underlying22 Try.underlying39 (by kernel_rfl) Try.underlying3 (by kernel_rfl) ⟨rfl, rfl⟩ ⟨rfl, rfl⟩ ⟨rfl, rfl⟩ (okWide_slice Try.underlying22 (hval 2 22 v2 rfl rfl)) h2
  clear hA0 hval0
  refine (walk rows cols a0 len0 cap0 R C X W (Nat.le_trans hlen hcap) hT).mono fun e W' ⟨he, hk⟩ => ?_
  subst he
  exact ⟨_, rfl, _, _, _, [], _, [], hW', trodAll_mk1 (shut_bool Try.underlying4 _), trodAll_below laidOut hk.below _ _ _ _ hK (by kernel_rfl), rfl, hk.below.frame _, fun h => by cases h⟩

theorem said : Rows.GridPutsSaid :=
  OpenClaim.holds_of_wide 3 Try.f3 rfl rfl rfl rfl rfl rfl rfl ⟨rfl, rfl, rfl, rfl, rfl⟩ rfl rfl rfl rfl rfl (by kernel_rfl) Try.func3 (by kernel_rfl)
    (of_decide_eq_true (by kernel_rfl)) (by unfold Func.isWrapper; first | (rw [if_pos (by decide +kernel)]; kernel_rfl) | (rw [if_neg (by decide +kernel)]; exact ⟨rfl, rfl⟩))
    (fun os started H enc _ => lifted os started H enc)
end Go.Proofs.Ytjcghcibligioab.puts
