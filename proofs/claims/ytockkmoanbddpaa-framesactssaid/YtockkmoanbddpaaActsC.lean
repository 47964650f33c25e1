/-
  No statement of the program: the rows of calls of a store of many frames.
-/
import Derived.Test.YtockkmoanbddpaaActsP
import Derived.Deep.RegionHeld3
namespace Go.Proofs.Ytockkmoanbddpaa.facts
open Go.RowKit Fr

set_option maxRecDepth 20000 in
set_option maxHeartbeats 8000000 in
theorem walkC (n : Nat) (each : Int) (h1 : 1 ≤ (n : Int)) (h2 : (n : Int) ≤ 8) (hx3 : 40 < each) (hx4 : each ≤ 1024) (ao : Option Addr) (len cap : Nat) (w : World) (hlen : len ≤ maxLen) (hA : IsActs w ao len) :
    Calls Try.prog 3 #[.int .i64 n, .int .i64 each, .slice ao len cap] w fun e w' => e = .returned (.bool true) ∧ Kept [] w w' := by
  unfold maxLen at hlen
  have HA := hide hA
  clear hA
  go_enter Try.func3, Try.ntmps3
  go_wp2_with (first | (go_at_call 13; refine (none_any _).mono ?_; rintro r w' ⟨rfl, hw⟩; subst w') | (go_at_call 14; refine (load_nil _ _ _ _).mono ?_; rintro r w' ⟨rfl, hw⟩; subst w') | (go_at_call 15; refine (node_nil _ _).mono ?_; rintro r w' ⟨rfl, hw⟩; subst w') | (go_at_call 16; refine (first_nil _ _).mono ?_; rintro r w' ⟨rfl, hw⟩; subst w'))
  refine (holds_true _).mono ?_
  rintro r w1 ⟨rfl, k1⟩
  have K1 := hide k1
  clear k1
  go_wp2_with fail
  refine (none_any _).mono ?_; rintro r w' ⟨rfl, hw⟩; subst w'
  go_wp2_with fail
  refine (len_nil _).mono ?_; rintro r w' ⟨rfl, hw⟩; subst w'
  go_wp2_with fail
  refine (none_any _).mono ?_; rintro r w' ⟨rfl, hw⟩; subst w'
  go_wp2_with fail
  refine (save_nil _ _ _ _ _ _).mono ?_; rintro r w' ⟨rfl, hw⟩; subst w'
  go_wp2_with fail
  refine (none_any _).mono ?_; rintro r w' ⟨rfl, hw⟩; subst w'
  go_wp2_with fail
  refine (copy_nil _ _ _).mono ?_; rintro r w' ⟨rfl, hw⟩; subst w'
  go_wp2_with fail
  refine (none_any _).mono ?_; rintro r w' ⟨rfl, hw⟩; subst w'
  go_wp2_with fail
  refine (clear_nil _ _).mono ?_; rintro r w' ⟨rfl, hw⟩; subst w'
  go_wp2_with fail
  obtain ⟨e, he⟩ : ∃ e : Nat, 1024 - each % 2 = (e : Int) := ⟨(1024 - each % 2).toNat, by omega⟩
  have h3 : 1 ≤ (e : Int) := by omega
  have h4 : (e : Int) ≤ 1024 := by omega
  simp only [he]
  clear he hx3 hx4
  obtain ⟨t, hte⟩ : ∃ t, n * e = t := ⟨_, rfl⟩
  have hmul : (n : Int) * (e : Int) = (t : Int) := by rw [← Int.natCast_mul, hte]
  refine (new_ok n e (by omega) (by omega) (by omega) (by omega) t hte).mono ?_
  rintro r w2 ⟨g, c, rfl, s2, hg, hc, k2⟩
  have S2 := hide s2
  have K2 := hide (K1.out.next k2)
  have ht := s2.t8192
  have TE := hide hte
  have MU := hide hmul
  clear s2 k2 hte hmul
  go_wp2_with fail
  refine (Rf.new_ok n e (by omega) (by omega) t TE.out).mono ?_
  rintro r w3 ⟨g2, c2, rfl, r3, hg2, hc2, k3⟩
  have hgc : g < w2.heap.size := S2.out.glt
  have hcc : c < w2.heap.size := S2.out.clt
  have R3 := hide r3
  have S3 := hide (S2.out.kept0 k3)
  have K3 := hide (K2.out.next k3)
  have hw1 := K1.out.size
  have hw2 : w.heap.size ≤ w2.heap.size := K2.out.size
  clear r3 k3 S2 K2 K1
  go_wp2_with fail
  go_loopw [16] (fun i wr => ∃ (j : Nat) (f : Nat → UInt8), j ≤ len ∧ j ≤ 40 ∧ i = .int .i64 j ∧ StoreAt wr g c n e t f ∧ Rf.RefAt wr g2 c2 n e t f ∧ Kept [] w wr) (fun i _ => 40 - (intOf i).toNat)
  case atStart => exact ⟨0, _, by omega, by omega, rfl, S3.out, R3.out, K3.out⟩
  case round =>
    obtain ⟨j, f, hj, hj40, rfl, hS, hR, hK⟩ := hrel
    have SJ := hide hS
    have RJ := hide hR
    have KJ := hide hK
    clear hS hR hK S3 R3 K3
    by_cases hjl : j < len ∧ j < 40
    · obtain ⟨hjl, hj4⟩ := hjl
      obtain ⟨b, off, wh, fm, at_, nn, A, L, C, z, hao, e0, e1, e2, e3, e4, hnn, hLC, hC, hAn, hB⟩ := HA.out j hjl
      subst hao
      have a0 := KJ.out.cell e0 (by simp)
      have a1 := KJ.out.cell e1 (by simp)
      have a2 := KJ.out.cell e2 (by simp)
      have a3 := KJ.out.cell e3 (by simp)
      have a4 := KJ.out.cell e4 (by simp)
      obtain ⟨r, hr, er⟩ := mod_small wh 5 (by decide) (by decide)
      have BA := hide (And.intro hB hAn)
      clear e0 e1 e2 e3 e4 hB hAn
      have kx : Kept [] wr (wr.alloc (.cells #[.int .i64 wh, .int .i64 fm, .int .i64 at_, .int .i64 nn, .slice A L C] 41)) := (Kept.refl [] wr).alloc _
      have x1 : (wr.alloc (.cells #[.int .i64 wh, .int .i64 fm, .int .i64 at_, .int .i64 nn, .slice A L C] 41)).cell? ⟨wr.heap.size, 1, none⟩ = some (.int .i64 fm) := World.cell?_alloc_mark _ _ _ _ _
      have x2 : (wr.alloc (.cells #[.int .i64 wh, .int .i64 fm, .int .i64 at_, .int .i64 nn, .slice A L C] 41)).cell? ⟨wr.heap.size, 2, none⟩ = some (.int .i64 at_) := World.cell?_alloc_mark _ _ _ _ _
      have x3 : (wr.alloc (.cells #[.int .i64 wh, .int .i64 fm, .int .i64 at_, .int .i64 nn, .slice A L C] 41)).cell? ⟨wr.heap.size, 3, none⟩ = some (.int .i64 nn) := World.cell?_alloc_mark _ _ _ _ _
      have x4 : (wr.alloc (.cells #[.int .i64 wh, .int .i64 fm, .int .i64 at_, .int .i64 nn, .slice A L C] 41)).cell? ⟨wr.heap.size, 4, none⟩ = some (.slice A L C) := World.cell?_alloc_mark _ _ _ _ _
      have hcw : c < wr.heap.size := SJ.out.clt
      have hcw2 : c2 < wr.heap.size := RJ.out.clt
      rcases (show r = 0 ∨ r = 1 ∨ r = 2 ∨ r = 3 ∨ r = 4 by omega) with rfl | rfl | rfl | rfl | rfl
      · as_aux_lemma =>
        have hact : (wr.alloc (.cells #[.int .i64 wh, .int .i64 fm, .int .i64 at_, .int .i64 nn, .slice A L C] 41)).heap.size = wr.heap.size + 1 := by simp
        obtain ⟨mb, hmb⟩ : ∃ mb : Nat, mb = min L 70 := ⟨_, rfl⟩
        have en : min (L : Int) 70 = (mb : Int) := by omega
        have hcut := run_cut0 Try.underlying23 info A L C .i64 (j := (mb : Int)) mb rfl (by omega)
        obtain ⟨i0, hi, hz0, hz1, hz2⟩ := info_parts info
        have hmb70 : mb ≤ 70 := by omega
        have OW : Hid (((wr.alloc (.cells #[.int .i64 wh, .int .i64 fm, .int .i64 at_, .int .i64 nn, .slice A L C] 41)).alloc (.cells #[] 5)).ownsRow (wr.heap.size + 1) 5 1 (.slice (some ⟨wr.heap.size + 1, 0, none⟩) 0 0) 0 []) := hide (by
          have := World.ownsRow_made (e := 5) (size := 1) (wr.alloc (.cells #[.int .i64 wh, .int .i64 fm, .int .i64 at_, .int .i64 nn, .slice A L C] 41)) #[] 0 (Nat.le_refl _) (by decide) rfl
          rwa [hact] at this)
        have x4a : ((wr.alloc (.cells #[.int .i64 wh, .int .i64 fm, .int .i64 at_, .int .i64 nn, .slice A L C] 41)).alloc (.cells #[] 5)).cell? ⟨wr.heap.size, 4, none⟩ = some (.slice A L C) := ((Kept.refl [] _).alloc _).cell x4 (by simp)
        have HZ := hide ((BA.out.1.take (show mb ≤ L by omega)).kept0 (KJ.out.next ((kx).alloc (.cells #[] 5))))
        have HN : Hid (A = none → mb = 0 ∧ C = 0) := hide (fun h => by have := BA.out.2 h; omega)
        have KX := hide kx
        have X1 := hide x1
        have X2 := hide x2
        clear hmb kx x1 x2 x3 x4
        go_wp2_with (at_builtin; refine append_any2 rfl _ _ 23 rfl (wr.heap.size + 1) 5 i0 (.int .u8 0) 1 Try.underlying23 hi hz0 hz1 hz2 rfl _ 0 [] rfl OW.out A mb C (bvs mb z) rfl (bvs_length _ _) HN.out ?news (bvs_one _ _) ?c1 ?c2 ?c3 ?_)
        case news => exact HZ.out.news
        case c1 => unfold maxLen; omega
        case c2 => omega
        case c3 => simp
        intro v2 w4 hown hgrow hnil
        obtain ⟨bb, cb, hh, rfl, hbb, hcb, hrow, hhh⟩ := own_row (f := fun i => bv (z i)) hown (fun q => by have := hnil q; cases this)
        have k4 : Kept [] (wr.alloc (.cells #[.int .i64 wh, .int .i64 fm, .int .i64 at_, .int .i64 nn, .slice A L C] 41)) w4 := own_grown OW.out hgrow _ ((Kept.refl [] _).alloc _) (by rw [hact]; exact Nat.le_refl _)
        have s1 := k4.cell X1.out (by simp)
        have s2 := k4.cell X2.out (by simp)
        have kk4 := KX.out.next k4
        have S4 := hide (SJ.out.kept0 kk4)
        have R4 := hide (RJ.out.kept0 kk4)
        have K4 := hide (KJ.out.next kk4)
        have ROW := hide (And.intro hrow hhh)
        have BS : Hid (Bs w4 (some ⟨bb, 0, none⟩) mb z) := hide (fun i hi => ⟨bb, 0, rfl, by rw [Nat.zero_add, hrow.cell (by omega), hhh i hi]⟩)
        have hwb : w.heap.size ≤ wr.heap.size := KJ.out.size
        have hgw : g < wr.heap.size := SJ.out.glt
        have hgw2 : g2 < wr.heap.size := RJ.out.glt
        generalize wr.heap.size = bp at s1 s2 hbb hcw hcw2 hwb hgw hgw2 ⊢
        have HBP := hide (show bp ∉ [c] by simp; omega)
        have HBP2 := hide (show bp ∉ [c2] by simp; omega)
        clear hown hgrow hnil hrow hhh k4 kk4 OW HZ HN KX X1 X2 x4a hact a0 a1 a2 a3 a4 SJ RJ KJ en hcut
        have hmb0 : (0 : Int) ≤ mb := by omega
        rcases chk_cases t fm at_ mb with ⟨k, a, m', rfl, rfl, hm', hk, ham⟩ | hx | hx
        · obtain rfl : mb = m' := by omega
          clear hm'
          go_wp2_with fail
          go_region_held3 (fun w' => w'.cell? ⟨bp, 1, none⟩ = some (.int .i64 (k : Int)) ∧ w'.cell? ⟨bp, 2, none⟩ = some (.int .i64 (a : Int))) (go_keep) ((first | (go_at_call 19; refine (save_ok k a mb cb (some ⟨bb, 0, none⟩) (w := w4.drew) (z := z) (S4.out.kept0 ((Kept.refl [] w4).drew)) hk ham (BS.out.kept0 ((Kept.refl [] w4).drew))).mono ?_; rintro r w5 ⟨rfl, S5r, k50⟩; have k5 : Kept [c] w4 w5 := ((Kept.refl [c] w4).drew).trans k50 (by intro x hx _; exact hx); have p1 := k5.cell s1 HBP.out; have p2 := k5.cell s2 HBP.out; have R5 := hide (And.intro S5r k5); clear S5r k5 k50) | (go_at_call 24; refine (Rf.save_ok k a mb cb (some ⟨bb, 0, none⟩) (z := z) (R4.out.kept R5.out.2 (by simp; omega) (by simp; omega)) hk ham (BS.out.kept R5.out.2 (by rintro _ ⟨⟩; simp; omega)) (by rintro _ ⟨⟩ _; show bb ≠ c2; omega)).mono ?_; rintro r w6 ⟨rfl, R6r, k6⟩; have q1 := k6.cell p1 HBP2.out; have q2 := k6.cell p2 HBP2.out; have R6 := hide (And.intro R6r k6); clear R6r k6)))
          all_goals
            have ST : Hid (w6.rowIs bb 5 cb hh ∧ StoreAt w6 g c n e t (over f (k * 64 + a) mb z) ∧ Rf.RefAt w6 g2 c2 n e t (over f (k * 64 + a) mb z) ∧ Kept [] w w6) := hide (⟨R6.out.2.row (R5.out.2.row ROW.out.1 (by simp; omega)) (by simp; omega), R5.out.1.kept R6.out.2 (by simp; omega) (by simp; omega), R6.out.1, (K4.out.trans R5.out.2 (by intro x hx hl; simp at hx; omega)).trans R6.out.2 (by intro x hx hl; simp at hx; omega)⟩)
            have HH := hide ROW.out.2
            clear R5 R6 S4 R4 K4 ROW BS p1 p2 q1 q2 s1 s2
            go_wp2_with fail
            go_loopw [19] (fun i wq => ∃ (q : Nat) (hv : Nat → Value), q ≤ mb ∧ i = .int .i64 q ∧ wq.rowIs bb 5 cb hv ∧ (∀ x, q ≤ x → x < mb → hv x = bv (z x)) ∧ StoreAt wq g c n e t (over f (k * 64 + a) mb z) ∧ Rf.RefAt wq g2 c2 n e t (over f (k * 64 + a) mb z) ∧ Kept [] w wq) (fun i _ => mb - (intOf i).toNat)
            case atStart => exact ⟨0, hh, by omega, rfl, ST.out.1, fun x _ hx => HH.out x hx, ST.out.2.1, ST.out.2.2.1, ST.out.2.2.2⟩
            case round =>
              obtain ⟨q, hv, hq, rfl, hrow, hvs, hS, hR, hK⟩ := hrel
              clear ST
              by_cases hqm : q < mb
              · have cq := hrow.cell (i := q) (by omega)
                rw [hvs q (Nat.le_refl _) hqm] at cq
                unfold bv at cq
                have fq := hrow.frozen q
                have RQ := hide (And.intro hrow (And.intro hvs (And.intro hS (And.intro hR hK))))
                clear hrow hvs hS hR hK
                go_wp2
                go_roundw
                case rel =>
                  refine ⟨q + 1, _, by omega, by go_num, RQ.out.1.set q _, fun x h5 h6 => ?_, RQ.out.2.2.1.kept ((Kept.refl [bb] _).setCell (p := ⟨bb, q, none⟩) (by simp) _) (by simp; omega) (by simp; omega), RQ.out.2.2.2.1.kept ((Kept.refl [bb] _).setCell (p := ⟨bb, q, none⟩) (by simp) _) (by simp; omega) (by simp; omega), RQ.out.2.2.2.2.setCell (p := ⟨bb, q, none⟩) (by intro h7; have h8 : bb < w.heap.size := h7; omega) _⟩
                  show (if x = q then _ else hv x) = _
                  rw [if_neg (by omega)]
                  exact RQ.out.2.1 x (by omega) h6
                case measure => simp [intOf]; omega
              · have RQ := hide (And.intro hS (And.intro hR hK))
                clear hrow hvs hS hR hK
                go_wp2
                go_roundw
                case rel => exact ⟨j + 1, (over f (k * 64 + a) mb z), by omega, by omega, by go_num, RQ.out⟩
                case measure => simp [intOf]; omega
        all_goals
          have HX := hide hx
          clear hx
          go_wp2_with fail
          go_region_held3 (fun w' => w'.cell? ⟨bp, 1, none⟩ = some (.int .i64 fm) ∧ w'.cell? ⟨bp, 2, none⟩ = some (.int .i64 at_)) (go_keep) ((first | (go_at_call 19; refine (save_bad fm at_ mb cb (some ⟨bb, 0, none⟩) (w := w4.drew) (S4.out.kept0 ((Kept.refl [] w4).drew)) (by unfold maxLen; omega) HX.out (by omega)).mono ?_; rintro r w5 ⟨rfl, k50⟩; have k5 : Kept [] w4 w5 := ((Kept.refl [] w4).drew).next k50; have p1 := k5.cell s1 (by simp); have p2 := k5.cell s2 (by simp); have R5 := hide k5; clear k5 k50) | (go_at_call 24; refine (Rf.save_bad fm at_ mb cb (some ⟨bb, 0, none⟩) (R4.out.kept0 R5.out) (by unfold maxLen; omega) HX.out (by omega)).mono ?_; rintro r w6 ⟨rfl, k6⟩; have q1 := k6.cell p1 (by simp); have q2 := k6.cell p2 (by simp); have R6 := hide k6; clear k6)))
          all_goals
            have ST : Hid (w6.rowIs bb 5 cb hh ∧ StoreAt w6 g c n e t f ∧ Rf.RefAt w6 g2 c2 n e t f ∧ Kept [] w w6) := hide (⟨(R5.out.next R6.out).row ROW.out.1 (by simp), S4.out.kept0 (R5.out.next R6.out), R4.out.kept0 (R5.out.next R6.out), K4.out.next (R5.out.next R6.out)⟩)
            have HH := hide ROW.out.2
            clear R5 R6 S4 R4 K4 ROW BS p1 p2 q1 q2 s1 s2 HX
            go_wp2_with fail
            go_loopw [19] (fun i wq => ∃ (q : Nat) (hv : Nat → Value), q ≤ mb ∧ i = .int .i64 q ∧ wq.rowIs bb 5 cb hv ∧ (∀ x, q ≤ x → x < mb → hv x = bv (z x)) ∧ StoreAt wq g c n e t f ∧ Rf.RefAt wq g2 c2 n e t f ∧ Kept [] w wq) (fun i _ => mb - (intOf i).toNat)
            case atStart => exact ⟨0, hh, by omega, rfl, ST.out.1, fun x _ hx => HH.out x hx, ST.out.2.1, ST.out.2.2.1, ST.out.2.2.2⟩
            case round =>
              obtain ⟨q, hv, hq, rfl, hrow, hvs, hS, hR, hK⟩ := hrel
              clear ST
              by_cases hqm : q < mb
              · have cq := hrow.cell (i := q) (by omega)
                rw [hvs q (Nat.le_refl _) hqm] at cq
                unfold bv at cq
                have fq := hrow.frozen q
                have RQ := hide (And.intro hrow (And.intro hvs (And.intro hS (And.intro hR hK))))
                clear hrow hvs hS hR hK
                go_wp2
                go_roundw
                case rel =>
                  refine ⟨q + 1, _, by omega, by go_num, RQ.out.1.set q _, fun x h5 h6 => ?_, RQ.out.2.2.1.kept ((Kept.refl [bb] _).setCell (p := ⟨bb, q, none⟩) (by simp) _) (by simp; omega) (by simp; omega), RQ.out.2.2.2.1.kept ((Kept.refl [bb] _).setCell (p := ⟨bb, q, none⟩) (by simp) _) (by simp; omega) (by simp; omega), RQ.out.2.2.2.2.setCell (p := ⟨bb, q, none⟩) (by intro h7; have h8 : bb < w.heap.size := h7; omega) _⟩
                  show (if x = q then _ else hv x) = _
                  rw [if_neg (by omega)]
                  exact RQ.out.2.1 x (by omega) h6
                case measure => simp [intOf]; omega
              · have RQ := hide (And.intro hS (And.intro hR hK))
                clear hrow hvs hS hR hK
                go_wp2
                go_roundw
                case rel => exact ⟨j + 1, f, by omega, by omega, by go_num, RQ.out⟩
                case measure => simp [intOf]; omega
      · as_aux_lemma =>
        have hact : (wr.alloc (.cells #[.int .i64 wh, .int .i64 fm, .int .i64 at_, .int .i64 nn, .slice A L C] 41)).heap.size = wr.heap.size + 1 := by simp
        obtain ⟨mb, hmb⟩ : ∃ mb : Nat, mb = min L 70 := ⟨_, rfl⟩
        have en : min (L : Int) 70 = (mb : Int) := by omega
        have hcut := run_cut0 Try.underlying23 info A L C .i64 (j := (mb : Int)) mb rfl (by omega)
        obtain ⟨i0, hi, hz0, hz1, hz2⟩ := info_parts info
        have hmb70 : mb ≤ 70 := by omega
        have OW : Hid (((wr.alloc (.cells #[.int .i64 wh, .int .i64 fm, .int .i64 at_, .int .i64 nn, .slice A L C] 41)).alloc (.cells #[] 5)).ownsRow (wr.heap.size + 1) 5 1 (.slice (some ⟨wr.heap.size + 1, 0, none⟩) 0 0) 0 []) := hide (by
          have := World.ownsRow_made (e := 5) (size := 1) (wr.alloc (.cells #[.int .i64 wh, .int .i64 fm, .int .i64 at_, .int .i64 nn, .slice A L C] 41)) #[] 0 (Nat.le_refl _) (by decide) rfl
          rwa [hact] at this)
        have x4a : ((wr.alloc (.cells #[.int .i64 wh, .int .i64 fm, .int .i64 at_, .int .i64 nn, .slice A L C] 41)).alloc (.cells #[] 5)).cell? ⟨wr.heap.size, 4, none⟩ = some (.slice A L C) := ((Kept.refl [] _).alloc _).cell x4 (by simp)
        have HZ := hide ((BA.out.1.take (show mb ≤ L by omega)).kept0 (KJ.out.next ((kx).alloc (.cells #[] 5))))
        have HN : Hid (A = none → mb = 0 ∧ C = 0) := hide (fun h => by have := BA.out.2 h; omega)
        have KX := hide kx
        have X1 := hide x1
        have X2 := hide x2
        clear hmb kx x1 x2 x3 x4
        go_wp2_with (at_builtin; refine append_any2 rfl _ _ 23 rfl (wr.heap.size + 1) 5 i0 (.int .u8 0) 1 Try.underlying23 hi hz0 hz1 hz2 rfl _ 0 [] rfl OW.out A mb C (bvs mb z) rfl (bvs_length _ _) HN.out ?news (bvs_one _ _) ?c1 ?c2 ?c3 ?_)
        case news => exact HZ.out.news
        case c1 => unfold maxLen; omega
        case c2 => omega
        case c3 => simp
        intro v2 w4 hown hgrow hnil
        obtain ⟨bb, cb, hh, rfl, hbb, hcb, hrow, hhh⟩ := own_row (f := fun i => bv (z i)) hown (fun q => by have := hnil q; cases this)
        have k4 : Kept [] (wr.alloc (.cells #[.int .i64 wh, .int .i64 fm, .int .i64 at_, .int .i64 nn, .slice A L C] 41)) w4 := own_grown OW.out hgrow _ ((Kept.refl [] _).alloc _) (by rw [hact]; exact Nat.le_refl _)
        have s1 := k4.cell X1.out (by simp)
        have s2 := k4.cell X2.out (by simp)
        have kk4 := KX.out.next k4
        have S4 := hide (SJ.out.kept0 kk4)
        have R4 := hide (RJ.out.kept0 kk4)
        have K4 := hide (KJ.out.next kk4)
        have ROW := hide (And.intro hrow hhh)
        have BS : Hid (Bs w4 (some ⟨bb, 0, none⟩) mb z) := hide (fun i hi => ⟨bb, 0, rfl, by rw [Nat.zero_add, hrow.cell (by omega), hhh i hi]⟩)
        have hwb : w.heap.size ≤ wr.heap.size := KJ.out.size
        have hgw : g < wr.heap.size := SJ.out.glt
        have hgw2 : g2 < wr.heap.size := RJ.out.glt
        generalize wr.heap.size = bp at s1 s2 hbb hcw hcw2 hwb hgw hgw2 ⊢
        have HBP := hide (show bp ∉ [c] by simp; omega)
        have HBP2 := hide (show bp ∉ [c2] by simp; omega)
        clear hown hgrow hnil hrow hhh k4 kk4 OW HZ HN KX X1 X2 x4a hact a0 a1 a2 a3 a4 SJ RJ KJ en hcut
        have hmb0 : (0 : Int) ≤ mb := by omega
        rcases chk_cases t fm at_ mb with ⟨k, a, m', rfl, rfl, hm', hk, ham⟩ | hx | hx
        · obtain rfl : mb = m' := by omega
          clear hm'
          go_wp2_with fail
          go_region_held3 (fun w' => w'.cell? ⟨bp, 1, none⟩ = some (.int .i64 (k : Int)) ∧ w'.cell? ⟨bp, 2, none⟩ = some (.int .i64 (a : Int))) (go_keep) ((first | (go_at_call 19; refine (save_ok k a mb cb (some ⟨bb, 0, none⟩) (w := w4.drew) (z := z) (S4.out.kept0 ((Kept.refl [] w4).drew)) hk ham (BS.out.kept0 ((Kept.refl [] w4).drew))).mono ?_; rintro r w5 ⟨rfl, S5r, k50⟩; have k5 : Kept [c] w4 w5 := ((Kept.refl [c] w4).drew).trans k50 (by intro x hx _; exact hx); have p1 := k5.cell s1 HBP.out; have p2 := k5.cell s2 HBP.out; have R5 := hide (And.intro S5r k5); clear S5r k5 k50) | (go_at_call 24; refine (Rf.save_ok k a mb cb (some ⟨bb, 0, none⟩) (z := z) (R4.out.kept R5.out.2 (by simp; omega) (by simp; omega)) hk ham (BS.out.kept R5.out.2 (by rintro _ ⟨⟩; simp; omega)) (by rintro _ ⟨⟩ _; show bb ≠ c2; omega)).mono ?_; rintro r w6 ⟨rfl, R6r, k6⟩; have q1 := k6.cell p1 HBP2.out; have q2 := k6.cell p2 HBP2.out; have R6 := hide (And.intro R6r k6); clear R6r k6)))
          all_goals
            have ST : Hid (w6.rowIs bb 5 cb hh ∧ StoreAt w6 g c n e t (over f (k * 64 + a) mb z) ∧ Rf.RefAt w6 g2 c2 n e t (over f (k * 64 + a) mb z) ∧ Kept [] w w6) := hide (⟨R6.out.2.row (R5.out.2.row ROW.out.1 (by simp; omega)) (by simp; omega), R5.out.1.kept R6.out.2 (by simp; omega) (by simp; omega), R6.out.1, (K4.out.trans R5.out.2 (by intro x hx hl; simp at hx; omega)).trans R6.out.2 (by intro x hx hl; simp at hx; omega)⟩)
            have HH := hide ROW.out.2
            clear R5 R6 S4 R4 K4 ROW BS p1 p2 q1 q2 s1 s2
            go_wp2_with fail
            go_loopw [19] (fun i wq => ∃ (q : Nat) (hv : Nat → Value), q ≤ mb ∧ i = .int .i64 q ∧ wq.rowIs bb 5 cb hv ∧ (∀ x, q ≤ x → x < mb → hv x = bv (z x)) ∧ StoreAt wq g c n e t (over f (k * 64 + a) mb z) ∧ Rf.RefAt wq g2 c2 n e t (over f (k * 64 + a) mb z) ∧ Kept [] w wq) (fun i _ => mb - (intOf i).toNat)
            case atStart => exact ⟨0, hh, by omega, rfl, ST.out.1, fun x _ hx => HH.out x hx, ST.out.2.1, ST.out.2.2.1, ST.out.2.2.2⟩
            case round =>
              obtain ⟨q, hv, hq, rfl, hrow, hvs, hS, hR, hK⟩ := hrel
              clear ST
              by_cases hqm : q < mb
              · have cq := hrow.cell (i := q) (by omega)
                rw [hvs q (Nat.le_refl _) hqm] at cq
                unfold bv at cq
                have fq := hrow.frozen q
                have RQ := hide (And.intro hrow (And.intro hvs (And.intro hS (And.intro hR hK))))
                clear hrow hvs hS hR hK
                go_wp2
                go_roundw
                case rel =>
                  refine ⟨q + 1, _, by omega, by go_num, RQ.out.1.set q _, fun x h5 h6 => ?_, RQ.out.2.2.1.kept ((Kept.refl [bb] _).setCell (p := ⟨bb, q, none⟩) (by simp) _) (by simp; omega) (by simp; omega), RQ.out.2.2.2.1.kept ((Kept.refl [bb] _).setCell (p := ⟨bb, q, none⟩) (by simp) _) (by simp; omega) (by simp; omega), RQ.out.2.2.2.2.setCell (p := ⟨bb, q, none⟩) (by intro h7; have h8 : bb < w.heap.size := h7; omega) _⟩
                  show (if x = q then _ else hv x) = _
                  rw [if_neg (by omega)]
                  exact RQ.out.2.1 x (by omega) h6
                case measure => simp [intOf]; omega
              · have RQ := hide (And.intro hS (And.intro hR hK))
                clear hrow hvs hS hR hK
                go_wp2
                go_roundw
                case rel => exact ⟨j + 1, (over f (k * 64 + a) mb z), by omega, by omega, by go_num, RQ.out⟩
                case measure => simp [intOf]; omega
        all_goals
          have HX := hide hx
          clear hx
          go_wp2_with fail
          go_region_held3 (fun w' => w'.cell? ⟨bp, 1, none⟩ = some (.int .i64 fm) ∧ w'.cell? ⟨bp, 2, none⟩ = some (.int .i64 at_)) (go_keep) ((first | (go_at_call 19; refine (save_bad fm at_ mb cb (some ⟨bb, 0, none⟩) (w := w4.drew) (S4.out.kept0 ((Kept.refl [] w4).drew)) (by unfold maxLen; omega) HX.out (by omega)).mono ?_; rintro r w5 ⟨rfl, k50⟩; have k5 : Kept [] w4 w5 := ((Kept.refl [] w4).drew).next k50; have p1 := k5.cell s1 (by simp); have p2 := k5.cell s2 (by simp); have R5 := hide k5; clear k5 k50) | (go_at_call 24; refine (Rf.save_bad fm at_ mb cb (some ⟨bb, 0, none⟩) (R4.out.kept0 R5.out) (by unfold maxLen; omega) HX.out (by omega)).mono ?_; rintro r w6 ⟨rfl, k6⟩; have q1 := k6.cell p1 (by simp); have q2 := k6.cell p2 (by simp); have R6 := hide k6; clear k6)))
          all_goals
            have ST : Hid (w6.rowIs bb 5 cb hh ∧ StoreAt w6 g c n e t f ∧ Rf.RefAt w6 g2 c2 n e t f ∧ Kept [] w w6) := hide (⟨(R5.out.next R6.out).row ROW.out.1 (by simp), S4.out.kept0 (R5.out.next R6.out), R4.out.kept0 (R5.out.next R6.out), K4.out.next (R5.out.next R6.out)⟩)
            have HH := hide ROW.out.2
            clear R5 R6 S4 R4 K4 ROW BS p1 p2 q1 q2 s1 s2 HX
            go_wp2_with fail
            go_loopw [19] (fun i wq => ∃ (q : Nat) (hv : Nat → Value), q ≤ mb ∧ i = .int .i64 q ∧ wq.rowIs bb 5 cb hv ∧ (∀ x, q ≤ x → x < mb → hv x = bv (z x)) ∧ StoreAt wq g c n e t f ∧ Rf.RefAt wq g2 c2 n e t f ∧ Kept [] w wq) (fun i _ => mb - (intOf i).toNat)
            case atStart => exact ⟨0, hh, by omega, rfl, ST.out.1, fun x _ hx => HH.out x hx, ST.out.2.1, ST.out.2.2.1, ST.out.2.2.2⟩
            case round =>
              obtain ⟨q, hv, hq, rfl, hrow, hvs, hS, hR, hK⟩ := hrel
              clear ST
              by_cases hqm : q < mb
              · have cq := hrow.cell (i := q) (by omega)
                rw [hvs q (Nat.le_refl _) hqm] at cq
                unfold bv at cq
                have fq := hrow.frozen q
                have RQ := hide (And.intro hrow (And.intro hvs (And.intro hS (And.intro hR hK))))
                clear hrow hvs hS hR hK
                go_wp2
                go_roundw
                case rel =>
                  refine ⟨q + 1, _, by omega, by go_num, RQ.out.1.set q _, fun x h5 h6 => ?_, RQ.out.2.2.1.kept ((Kept.refl [bb] _).setCell (p := ⟨bb, q, none⟩) (by simp) _) (by simp; omega) (by simp; omega), RQ.out.2.2.2.1.kept ((Kept.refl [bb] _).setCell (p := ⟨bb, q, none⟩) (by simp) _) (by simp; omega) (by simp; omega), RQ.out.2.2.2.2.setCell (p := ⟨bb, q, none⟩) (by intro h7; have h8 : bb < w.heap.size := h7; omega) _⟩
                  show (if x = q then _ else hv x) = _
                  rw [if_neg (by omega)]
                  exact RQ.out.2.1 x (by omega) h6
                case measure => simp [intOf]; omega
              · have RQ := hide (And.intro hS (And.intro hR hK))
                clear hrow hvs hS hR hK
                go_wp2
                go_roundw
                case rel => exact ⟨j + 1, f, by omega, by omega, by go_num, RQ.out⟩
                case measure => simp [intOf]; omega
      · as_aux_lemma =>
        rcases chk_cases t fm at_ nn with ⟨k, a, m, rfl, rfl, rfl, hk, ham⟩ | hx | hx
        · go_wp2_with fail
          generalize wr.alloc (.cells #[.int .i64 wh, .int .i64 (k : Int), .int .i64 (a : Int), .int .i64 (m : Int), .slice A L C] 41) = wx at kx x1 x2 x3 x4 ⊢
          refine (load_ok k a m (SJ.out.kept0 kx) hk ham).mono ?_
          rintro r w5 ⟨a5, c5, rfl, b5, -, k5⟩
          have s1 := k5.cell x1 (by simp)
          have s2 := k5.cell x2 (by simp)
          have s3 := k5.cell x3 (by simp)
          have KK := hide (kx.next k5)
          have B5 := hide b5
          clear kx x1 x2 x3 x4 k5 b5 a0 a1 a2 a3 a4
          go_wp2_with fail
          refine (Rf.load_ok k a m (RJ.out.kept0 KK.out) hk ham).mono ?_
          rintro r w6 ⟨a6, c6, rfl, b6, -, k6⟩
          have t1 := run_text (cap := c5) Try.underlying23 Try.underlying5 Try.underlying9 (B5.out.kept0 k6)
          have t2 := run_text (cap := c6) Try.underlying23 Try.underlying5 Try.underlying9 b6
          obtain ⟨X, hX⟩ : ∃ X, X = bt m (fun i => f (k * 64 + a + i)) := ⟨_, rfl⟩
          rw [← hX] at t1 t2
          have R6 := hide (And.intro (SJ.out.kept0 (KK.out.next k6)) (And.intro (RJ.out.kept0 (KK.out.next k6)) (KJ.out.next (KK.out.next k6))))
          clear hX b6 k6 KK B5 SJ RJ KJ s1 s2 s3
          go_wp2
          go_roundw
          case rel => exact ⟨j + 1, f, by omega, by omega, by go_num, R6.out⟩
          case measure => simp [intOf]; omega
        all_goals
          have HX := hide hx
          clear hx
          go_wp2_with fail
          generalize wr.alloc (.cells #[.int .i64 wh, .int .i64 fm, .int .i64 at_, .int .i64 nn, .slice A L C] 41) = wx at kx x1 x2 x3 x4 ⊢
          refine (load_bad fm at_ nn (SJ.out.kept0 kx) hnn HX.out (by omega)).mono ?_
          rintro r w5 ⟨rfl, k5⟩
          have s1 := k5.cell x1 (by simp)
          have s2 := k5.cell x2 (by simp)
          have s3 := k5.cell x3 (by simp)
          have KK := hide (kx.next k5)
          clear kx x1 x2 x3 x4 k5 a0 a1 a2 a3 a4
          go_wp2_with fail
          refine (Rf.load_bad fm at_ nn (RJ.out.kept0 KK.out) hnn HX.out (by omega)).mono ?_
          rintro r w6 ⟨rfl, k6⟩
          have t1 := run_text (w := w6) (ao := none) (n := 0) (z := fun _ => 0) (cap := 0) Try.underlying23 Try.underlying5 Try.underlying9 (fun i hi => absurd hi (Nat.not_lt_zero _))
          have R6 := hide (And.intro (SJ.out.kept0 (KK.out.next k6)) (And.intro (RJ.out.kept0 (KK.out.next k6)) (KJ.out.next (KK.out.next k6))))
          clear k6 KK SJ RJ KJ s1 s2 s3
          go_wp2
          go_roundw
          case rel => exact ⟨j + 1, f, by omega, by omega, by go_num, R6.out⟩
          case measure => simp [intOf]; omega
      · as_aux_lemma =>
        rcases has_cases t fm with ⟨k, rfl, hk, hbk⟩ | hbk
        · rcases has_cases t nn with ⟨q, rfl, hq, hbq⟩ | hbq
          · have BK := hide hbk
            have BQ := hide hbq
            clear hbk hbq
            go_wp2_with fail
            generalize wr.alloc (.cells #[.int .i64 wh, .int .i64 (k : Int), .int .i64 at_, .int .i64 (q : Int), .slice A L C] 41) = wx at kx x1 x2 x3 x4 ⊢
            have hbp : wr.heap.size ∉ [c] := by simp; omega
            have hbp2 : wr.heap.size ∉ [c2] := by simp; omega
            generalize wr.heap.size = bp at x1 x2 x3 x4 hbp hbp2 hcw hcw2 ⊢
            refine (copy_ok k q (SJ.out.kept0 kx) hk hq).mono ?_
            rintro r w5 ⟨rfl, S5, k5⟩
            have s1 := k5.cell x1 hbp
            have s3 := k5.cell x3 hbp
            have S5h := hide S5
            have kk5 : Kept [c] wr w5 := (kx.mono (M := [c]) (by simp)).trans k5 (by simp)
            have R5h := hide (RJ.out.kept kk5 (by simp; omega) (by simp; omega))
            have K5 := hide (KJ.out.trans kk5 (by intro x hx hl; simp at hx; omega))
            have hs5 : wr.heap.size ≤ w5.heap.size := kk5.size
            clear S5 k5 kk5 kx x1 x2 x3 x4 a0 a1 a2 a3 a4 SJ RJ KJ
            go_wp2_with fail
            refine (Rf.has_any k R5h.out).mono ?_
            rintro r w6 ⟨rfl, k6⟩
            rw [BK.out]
            have s36 := k6.cell s3 (by simp)
            have s16 := k6.cell s1 (by simp)
            go_wp2_with fail
            refine (Rf.has_any q (R5h.out.kept0 k6)).mono ?_
            rintro r w7 ⟨rfl, k7⟩
            rw [BQ.out]
            have s37 := k7.cell s36 (by simp)
            have s17 := k7.cell s16 (by simp)
            have S7 := hide (S5h.out.kept0 (k6.next k7))
            have R7 := hide (R5h.out.kept0 (k6.next k7))
            have K7 := hide (K5.out.next (k6.next k7))
            clear s1 s3 s36 s16 k6 k7 S5h R5h K5
            go_wp2_with fail
            refine (Rf.load_ok k 0 64 R7.out hk (by decide)).mono ?_
            rintro r w8 ⟨a8, c8, rfl, b8, g8, k8⟩
            have s38 := k8.cell s37 (by simp)
            have hcl := R7.out.clt
            have R8 := hide (R7.out.kept0 k8)
            have S8 := hide (S7.out.kept0 k8)
            have K8 := hide (K7.out.next k8)
            have B8 := hide (And.intro b8 g8)
            clear s37 s17 k8 b8 g8 S7 R7 K7
            go_wp2_with fail
            refine (Rf.save_ok (z := fun i => f (k * 64 + 0 + i)) q 0 64 c8 a8 R8.out hq (by decide) B8.out.1 (by intro a ha _ e; have := B8.out.2 a ha; omega)).mono ?_
            rintro r w9 ⟨rfl, R9r, k9⟩
            have R9 := hide (And.intro (S8.out.kept k9 (by simp; omega) (by simp; omega)) (And.intro (show Rf.RefAt w9 g2 c2 n e t (over f (q * 64) 64 (fun i => f (k * 64 + i))) from R9r) (K8.out.trans k9 (by intro x hx hl; simp at hx; omega))))
            clear R9r k9 S8 R8 K8 B8 s38
            go_wp2
            go_roundw
            case rel => exact ⟨j + 1, _, by omega, by omega, by go_num, R9.out⟩
            case measure => simp [intOf]; omega
          · have BK := hide hbk
            have BQ := hide hbq
            clear hbk hbq
            go_wp2_with fail
            generalize wr.alloc (.cells #[.int .i64 wh, .int .i64 (k : Int), .int .i64 at_, .int .i64 nn, .slice A L C] 41) = wx at kx x1 x2 x3 x4 ⊢
            refine (copy_bad k nn (SJ.out.kept0 kx) (Or.inr ⟨BK.out, BQ.out⟩)).mono ?_
            rintro r w5 ⟨rfl, k5⟩
            have s1 := k5.cell x1 (by simp)
            have s3 := k5.cell x3 (by simp)
            have KK := hide (kx.next k5)
            clear kx x1 x2 x3 x4 k5 a0 a1 a2 a3 a4
            go_wp2_with fail
            refine (Rf.has_any k (RJ.out.kept0 KK.out)).mono ?_
            rintro r w6 ⟨rfl, k6⟩
            rw [BK.out]
            have s36 := k6.cell s3 (by simp)
            go_wp2_with fail
            refine (Rf.has_any nn (RJ.out.kept0 (KK.out.next k6))).mono ?_
            rintro r w7 ⟨rfl, k7⟩
            rw [BQ.out]
            have R9 := hide (And.intro (SJ.out.kept0 ((KK.out.next k6).next k7)) (And.intro (RJ.out.kept0 ((KK.out.next k6).next k7)) (KJ.out.next ((KK.out.next k6).next k7))))
            clear k6 k7 KK SJ RJ KJ s1 s3 s36
            go_wp2
            go_roundw
            case rel => exact ⟨j + 1, _, by omega, by omega, by go_num, R9.out⟩
            case measure => simp [intOf]; omega
        · have BK := hide hbk
          clear hbk
          go_wp2_with fail
          generalize wr.alloc (.cells #[.int .i64 wh, .int .i64 fm, .int .i64 at_, .int .i64 nn, .slice A L C] 41) = wx at kx x1 x2 x3 x4 ⊢
          refine (copy_bad fm nn (SJ.out.kept0 kx) (Or.inl BK.out)).mono ?_
          rintro r w5 ⟨rfl, k5⟩
          have s1 := k5.cell x1 (by simp)
          have s3 := k5.cell x3 (by simp)
          have KK := hide (kx.next k5)
          clear kx x1 x2 x3 x4 k5 a0 a1 a2 a3 a4
          go_wp2_with fail
          refine (Rf.has_any fm (RJ.out.kept0 KK.out)).mono ?_
          rintro r w6 ⟨rfl, k6⟩
          rw [BK.out]
          have R9 := hide (And.intro (SJ.out.kept0 (KK.out.next k6)) (And.intro (RJ.out.kept0 (KK.out.next k6)) (KJ.out.next (KK.out.next k6))))
          clear k6 KK SJ RJ KJ s1 s3
          go_wp2
          go_roundw
          case rel => exact ⟨j + 1, _, by omega, by omega, by go_num, R9.out⟩
          case measure => simp [intOf]; omega
      · as_aux_lemma =>
        rcases has_cases t fm with ⟨k, rfl, hk, hbk⟩ | hbk
        · have BK := hide hbk
          clear hbk
          go_wp2_with fail
          generalize wr.alloc (.cells #[.int .i64 wh, .int .i64 (k : Int), .int .i64 at_, .int .i64 nn, .slice A L C] 41) = wx at kx x1 x2 x3 x4 ⊢
          have hbp : wr.heap.size ∉ [c] := by simp; omega
          have hbp2 : wr.heap.size ∉ [c2] := by simp; omega
          have hwrx : wr.heap.size ≤ wx.heap.size := kx.size
          generalize wr.heap.size = bp at x1 x2 x3 x4 hbp hbp2 hcw hcw2 hwrx ⊢
          refine (clear_ok k (SJ.out.kept0 kx) hk).mono ?_
          rintro r w5 ⟨rfl, S5, k5⟩
          have s1 := k5.cell x1 hbp
          have S5h := hide S5
          have kk5 : Kept [c] wr w5 := (kx.mono (M := [c]) (by simp)).trans k5 (by simp)
          have R5h := hide (RJ.out.kept kk5 (by simp; omega) (by simp; omega))
          have K5 := hide (KJ.out.trans kk5 (by intro x hx hl; simp at hx; omega))
          have HBP2 := hide hbp2
          clear S5 k5 kk5 kx x1 x2 x3 x4 a0 a1 a2 a3 a4 SJ RJ KJ hbp hbp2
          go_wp2_with fail
          refine (Rf.has_any k R5h.out).mono ?_
          rintro r w6 ⟨rfl, k6⟩
          rw [BK.out]
          have s16 := k6.cell s1 (by simp)
          have S6 := hide (S5h.out.kept0 k6)
          have R6 := hide (R5h.out.kept0 k6)
          have K6 := hide (K5.out.next k6)
          have hmk := run_make_row' (P := Try.prog) 23 5 (.int .u8 0) 1 Try.underlying23 info rfl .i64 .i64 64 (by omega) (by omega)
          rw [show (((64 : Nat)) : Int) = 64 from rfl] at hmk
          clear k6 s1 S5h R5h K5
          go_wp2_with fail
          have hcl := R6.out.clt
          go_region_held3 (fun w' => w'.cell? ⟨bp, 1, none⟩ = some (.int .i64 (k : Int))) (go_keep) ((go_at_call 24; refine (Rf.save_ok (z := fun _ => 0) k 0 64 64 (some ⟨w6.heap.size, 0, none⟩) (w := (w6.alloc (.cells (madeCells #[.int .u8 0] 64) 5)).drew) (R6.out.kept0 (((Kept.refl [] w6).alloc _).drew)) hk (by decide) ((Bs.of_row (z := fun _ => 0) (World.rowIs_made w6 (.int .u8 0) 64 5) (Nat.le_refl 64)).kept0 ((Kept.refl [] _).drew)) (by intro a ha _; cases ha; show w6.heap.size ≠ c2; omega)).mono ?_; rintro r w7 ⟨rfl, R7r, k70⟩; have k7 : Kept [c2] w6 w7 := ((((Kept.refl [] w6).alloc (.cells (madeCells #[.int .u8 0] 64) 5)).drew).mono (M := [c2]) (by simp)).trans k70 (by simp); have s17 := k7.cell s16 HBP2.out; have R9 := hide (And.intro (S6.out.kept k7 (by simp; omega) (by simp; omega)) (And.intro (show Rf.RefAt w7 g2 c2 n e t (over f (k * 64) 64 (fun _ => 0)) from R7r) (K6.out.trans k7 (by intro x hx hl; simp at hx; omega)))); clear R7r k7 k70))
          all_goals
            clear S6 R6 K6 hmk s16
            go_wp2
            go_roundw
            case rel => exact ⟨j + 1, _, by omega, by omega, by go_num, R9.out⟩
            case measure => simp [intOf]; omega
        · have BK := hide hbk
          clear hbk
          go_wp2_with fail
          generalize wr.alloc (.cells #[.int .i64 wh, .int .i64 fm, .int .i64 at_, .int .i64 nn, .slice A L C] 41) = wx at kx x1 x2 x3 x4 ⊢
          refine (clear_bad fm (SJ.out.kept0 kx) BK.out).mono ?_
          rintro r w5 ⟨rfl, k5⟩
          have s1 := k5.cell x1 (by simp)
          have KK := hide (kx.next k5)
          clear kx x1 x2 x3 x4 k5 a0 a1 a2 a3 a4
          go_wp2_with fail
          refine (Rf.has_any fm (RJ.out.kept0 KK.out)).mono ?_
          rintro r w6 ⟨rfl, k6⟩
          rw [BK.out]
          have R9 := hide (And.intro (SJ.out.kept0 (KK.out.next k6)) (And.intro (RJ.out.kept0 (KK.out.next k6)) (KJ.out.next (KK.out.next k6))))
          clear k6 KK SJ RJ KJ s1
          go_wp2
          go_roundw
          case rel => exact ⟨j + 1, _, by omega, by omega, by go_num, R9.out⟩
          case measure => simp [intOf]; omega
    · as_aux_lemma =>
      have MUm := MU.out
      rcases (show (j < 40 ∧ len ≤ j) ∨ (40 ≤ j ∧ j < len) ∨ (40 ≤ j ∧ len ≤ j) from by omega) with ⟨h40, hle⟩ | ⟨h40, hle⟩ | ⟨h40, hle⟩
      all_goals
        go_wp2_with fail
        go_loopw [28] (fun i wr => ∃ k : Nat, k ≤ t ∧ i = .int .i64 k ∧ StoreAt wr g c n e t f ∧ Rf.RefAt wr g2 c2 n e t f ∧ Kept [] w wr) (fun i _ => t - (intOf i).toNat)
        case atStart => exact ⟨0, by omega, rfl, SJ.out, RJ.out, KJ.out⟩
        case round =>
          obtain ⟨k, hk, rfl, hS, hR, hK⟩ := hrel
          have SK := hide hS
          have RK := hide hR
          have KK := hide hK
          clear hS hR hK SJ RJ KJ
          by_cases hkt : k < t
          · go_wp2_with fail
            refine (load_ok k 0 64 SK.out hkt (by decide)).mono ?_
            rintro r w5 ⟨a5, c5, rfl, b5, -, k5⟩
            have S5 := hide (SK.out.kept0 k5)
            have R5 := hide (RK.out.kept0 k5)
            have K5 := hide (KK.out.next k5)
            have B5 := hide b5
            clear b5 k5 SK RK KK
            go_wp2_with fail
            refine (node_ok k S5.out hkt).mono ?_
            rintro r w6 ⟨rfl, k6⟩
            have S6 := hide (S5.out.kept0 k6)
            have R6 := hide (R5.out.kept0 k6)
            have K6 := hide (K5.out.next k6)
            have B6 := hide (B5.out.kept0 k6)
            clear k6 S5 R5 K5 B5
            have c2r := R6.out.c2
            have hcut := run_cut Try.underlying23 info (some ⟨c2, 0, none⟩) (t * 64) (t * 64) .i64 .i64 (i := 64 * (k : Int)) (j := 64 * (k : Int) + 64) (k * 64) (k * 64 + 64) (by omega) (by omega) (by omega) (by omega)
            rw [cutA_lt (by omega), Option.map_some, add_plain, Nat.zero_add, Nat.add_sub_cancel_left] at hcut
            have t1 := run_text (cap := c5) Try.underlying23 Try.underlying5 Try.underlying9 (B6.out.kept0 (Kept.refl [] w6).drew)
            have t2 := run_text (cap := t * 64 - k * 64) Try.underlying23 Try.underlying5 Try.underlying9 ((Bs.of_rowAt (o := k * 64) (n := 64) R6.out.row (by omega)).kept0 (Kept.refl [] w6).drew)
            obtain ⟨X, hX⟩ : ∃ X, X = bt 64 (fun i => f (k * 64 + i)) := ⟨_, rfl⟩
            rw [show bt 64 (fun i => f (k * 64 + 0 + i)) = X from hX.symm] at t1
            rw [← hX] at t2
            have hq : k / e ≤ k := Nat.div_le_self _ _
            obtain ⟨q, hqq⟩ : ∃ q : Nat, k / e = q := ⟨_, rfl⟩
            have hq2 : (k : Int) / (e : Int) = (q : Int) := by rw [← hqq]; simp
            have hq8 : q ≤ 8192 := by omega
            have R7 := hide (And.intro (S6.out.kept0 (Kept.refl [] w6).drew) (And.intro (R6.out.kept0 (Kept.refl [] w6).drew) K6.out.drew))
            clear hX B6 S6 R6 K6 hq hqq
            go_wp2_with fail
            go_region
            all_goals
              go_wp2
              go_roundw
              case rel => exact ⟨k + 1, by omega, by go_num, R7.out⟩
              case measure => simp [intOf]; omega
          · obtain rfl : k = t := by omega
            go_wp2_with fail
            refine (node_bad k SK.out (hasB_false (by omega))).mono ?_
            rintro r w5 ⟨rfl, k5⟩
            have S5 := hide (SK.out.kept0 k5)
            have K5 := hide (KK.out.next k5)
            clear k5 SK KK RK
            go_wp2_with fail
            refine (first_bad n S5.out (Or.inr ⟨by omega, by omega⟩)).mono ?_
            rintro r w6 ⟨rfl, hw6⟩
            subst w6
            go_wp2_with fail
            refine (len_any S5.out).mono ?_
            rintro r w7 ⟨rfl, k7⟩
            have K7 := hide (K5.out.next k7)
            clear k7 S5 K5
            go_wp2
            go_ret
            exact ⟨by simp, K7.out⟩
end Go.Proofs.Ytockkmoanbddpaa.facts
