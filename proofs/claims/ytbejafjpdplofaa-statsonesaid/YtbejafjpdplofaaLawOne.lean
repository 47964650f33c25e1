/-
  StatsOne: for every row of events and every event the law answers true, and its arguments read behind the call as before; no condition.
-/
import Derived.Test.YtbejafjpdplofaaSts8
import Derived.Test.YtbejafjpdplofaaOpenAgg
import Derived.Test.YtbejafjpdplofaaRows
namespace Go.Proofs.Ytbejafjpdplofaa.LO
open Go.ChangeShapes Go.WideShapes Go.ChangeAt Go.RowKit St By
theorem lt_of_cell {w : World} {b i : Nat} {v : Value} (h : w.cell? ⟨b, i, none⟩ = some v) : b < w.heap.size := World.block_lt_of_cell? w ⟨b, i, none⟩ h
theorem open_ev {H : Type} {enc : TypeId × Value → H} {W : World} {v : Value} {d : DataW H} {p : List MemPlace} (h : DataW.Trod enc Try.prog W 0 (fun _ => true) true 38 v d p) :
    ∃ a b c dd, v = .agg #[.int .i64 a, .int .i64 b, .int .i64 c, .bool dd] := by
  obtain ⟨fuel, cs, rfl, hsz, hf⟩ := open_agg (P := Try.prog) (kc := 4) Try.underlying38 (by kernel_rfl) (by omega) h
  obtain ⟨cl⟩ := cs
  obtain ⟨x0, x1, x2, x3, rfl⟩ := list4 cl hsz
  obtain ⟨y0, h0⟩ := hf 0 _ rfl
  obtain ⟨y1, h1⟩ := hf 1 _ rfl
  obtain ⟨y2, h2⟩ := hf 2 _ rfl
  obtain ⟨y3, h3⟩ := hf 3 _ rfl
  have hc3 : Try.prog.cellsOf 3 = 1 := by kernel_rfl
  have hc4 : Try.prog.cellsOf 4 = 1 := by kernel_rfl
  have h0 : DataW.trod enc Try.prog W 0 (fun _ => true) true fuel 3 (([x0, x1, x2, x3].drop 0).take (Try.prog.cellsOf 3)) = some y0 := h0
  have h1 : DataW.trod enc Try.prog W 0 (fun _ => true) true fuel 3 (([x0, x1, x2, x3].drop 1).take (Try.prog.cellsOf 3)) = some y1 := h1
  have h2 : DataW.trod enc Try.prog W 0 (fun _ => true) true fuel 3 (([x0, x1, x2, x3].drop 2).take (Try.prog.cellsOf 3)) = some y2 := h2
  have h3 : DataW.trod enc Try.prog W 0 (fun _ => true) true fuel 4 (([x0, x1, x2, x3].drop 3).take (Try.prog.cellsOf 4)) = some y3 := h3
  rw [hc3] at h0 h1 h2
  rw [hc4] at h3
  obtain ⟨z0, e0, -, -⟩ := DataW.trod_int Try.underlying3 h0
  obtain ⟨z1, e1, -, -⟩ := DataW.trod_int Try.underlying3 h1
  obtain ⟨z2, e2, -, -⟩ := DataW.trod_int Try.underlying3 h2
  obtain ⟨z3, e3, -⟩ := DataW.trod_bool Try.underlying4 h3
  simp at e0 e1 e2 e3
  subst e0 e1 e2 e3
  exact ⟨z0, z1, z2, z3, rfl⟩
theorem row48 (w : World) : (w.alloc (.cells #[.int .i64 0, .int .i64 0, .int .i64 0, .int .i64 0, .int .i64 0, .int .i64 0, .int .i64 0, .int .i64 0, .int .i64 0, .int .i64 0, .int .i64 0, .int .i64 0, .int .i64 0, .int .i64 0, .int .i64 0, .int .i64 0, .int .i64 0, .int .i64 0, .int .i64 0, .int .i64 0, .int .i64 0, .int .i64 0, .int .i64 0, .int .i64 0, .int .i64 0, .int .i64 0, .int .i64 0, .int .i64 0, .int .i64 0, .int .i64 0, .int .i64 0, .int .i64 0, .int .i64 0, .int .i64 0, .int .i64 0, .int .i64 0, .int .i64 0, .int .i64 0, .int .i64 0, .int .i64 0, .int .i64 0, .int .i64 0, .int .i64 0, .int .i64 0, .int .i64 0, .int .i64 0, .int .i64 0, .int .i64 0] 43)).rowIs w.heap.size 43 48 (fun _ => .int .i64 0) := by
  have e : (#[.int .i64 0, .int .i64 0, .int .i64 0, .int .i64 0, .int .i64 0, .int .i64 0, .int .i64 0, .int .i64 0, .int .i64 0, .int .i64 0, .int .i64 0, .int .i64 0, .int .i64 0, .int .i64 0, .int .i64 0, .int .i64 0, .int .i64 0, .int .i64 0, .int .i64 0, .int .i64 0, .int .i64 0, .int .i64 0, .int .i64 0, .int .i64 0, .int .i64 0, .int .i64 0, .int .i64 0, .int .i64 0, .int .i64 0, .int .i64 0, .int .i64 0, .int .i64 0, .int .i64 0, .int .i64 0, .int .i64 0, .int .i64 0, .int .i64 0, .int .i64 0, .int .i64 0, .int .i64 0, .int .i64 0, .int .i64 0, .int .i64 0, .int .i64 0, .int .i64 0, .int .i64 0, .int .i64 0, .int .i64 0] : Array Value) = Array.replicate 48 (.int .i64 0) := by rfl
  refine World.rowIs_alloc w #[.int .i64 0, .int .i64 0, .int .i64 0, .int .i64 0, .int .i64 0, .int .i64 0, .int .i64 0, .int .i64 0, .int .i64 0, .int .i64 0, .int .i64 0, .int .i64 0, .int .i64 0, .int .i64 0, .int .i64 0, .int .i64 0, .int .i64 0, .int .i64 0, .int .i64 0, .int .i64 0, .int .i64 0, .int .i64 0, .int .i64 0, .int .i64 0, .int .i64 0, .int .i64 0, .int .i64 0, .int .i64 0, .int .i64 0, .int .i64 0, .int .i64 0, .int .i64 0, .int .i64 0, .int .i64 0, .int .i64 0, .int .i64 0, .int .i64 0, .int .i64 0, .int .i64 0, .int .i64 0, .int .i64 0, .int .i64 0, .int .i64 0, .int .i64 0, .int .i64 0, .int .i64 0, .int .i64 0, .int .i64 0] 43 (fun _ => .int .i64 0) (fun i hi => ?_)
  have hi2 : i < 48 := hi
  rw [e]
  simp [hi2]
def wz (g : Nat → Nat) (n : Nat) : Nat → Value := fun i => .int .i64 ((if i < n * 6 then g i else 0 : Nat) : Int)
theorem nextF {W w w' : World} {p cb n : Nat} {ev : Value} {l : List Ex} {q : Nat} (h : LB W w p cb n ev l) (k : Kept [q] w w') (hq : q ∉ foot p cb ev) (hW : W.heap.size ≤ q) : LB W w' p cb n ev l :=
  ⟨h.la.kept k (fun b hb hm => by simp at hm; exact hq (hm ▸ hb)), h.kept.trans k (fun x hx hl => by simp at hx; omega), h.far⟩
set_option maxRecDepth 20000 in
set_option maxHeartbeats 2000000 in
theorem walkA {ao : Option Addr} {len cap : Nat} (a b c : Int) (d : Bool) (hr : rightB 8 a b c = false) (w : World) : Calls Try.prog 4 #[.slice ao len cap, .agg #[.int .i64 a, .int .i64 b, .int .i64 c, .bool d]] w fun e w' => e = .returned (.bool true) ∧ Kept [] w w' := by
  have KA := hide ((Kept.refl [] w).alloc (.cells #[.int .i64 a, .int .i64 b, .int .i64 c, .bool d] 38))
  obtain ⟨e0, e1, e2, e3⟩ : (w.alloc (.cells #[.int .i64 a, .int .i64 b, .int .i64 c, .bool d] 38)).cell? ⟨w.heap.size, 0, none⟩ = some (.int .i64 a) ∧ (w.alloc (.cells #[.int .i64 a, .int .i64 b, .int .i64 c, .bool d] 38)).cell? ⟨w.heap.size, 1, none⟩ = some (.int .i64 b) ∧ (w.alloc (.cells #[.int .i64 a, .int .i64 b, .int .i64 c, .bool d] 38)).cell? ⟨w.heap.size, 2, none⟩ = some (.int .i64 c) ∧ (w.alloc (.cells #[.int .i64 a, .int .i64 b, .int .i64 c, .bool d] 38)).cell? ⟨w.heap.size, 3, none⟩ = some (.bool d) := by
    refine ⟨?_, ?_, ?_, ?_⟩ <;> (rw [World.cell?_alloc_mark]; rfl)
  have HR := hide (fun w => right_any a b c d 8 w)
  rw [hr] at HR
  clear hr
  go_enter Try.func4, Try.ntmps4
  go_wp2_with fail
  generalize w.alloc (.cells #[.int .i64 a, .int .i64 b, .int .i64 c, .bool d] 38) = w1 at *
  generalize w.heap.size = xp at *
  refine (new_ok 8 (by omega) (by omega) w1).mono ?_
  rintro e w2 ⟨p1, c1, rfl, -, -, hk⟩
  have K2 := hide (KA.out.next hk)
  have x0 := hk.cell e0 (by simp)
  have x1 := hk.cell e1 (by simp)
  have x2 := hk.cell e2 (by simp)
  have x3 := hk.cell e3 (by simp)
  clear hk e0 e1 e2 e3 KA
  go_wp2_with fail
  refine (counts_true w2).mono ?_
  rintro e w3 ⟨rfl, hk⟩
  have K3 := hide (K2.out.next hk)
  have y0 := hk.cell x0 (by simp)
  have y1 := hk.cell x1 (by simp)
  have y2 := hk.cell x2 (by simp)
  have y3 := hk.cell x3 (by simp)
  clear hk x0 x1 x2 x3 K2
  go_wp2_with (go_at_call 12; refine (HR.out _).mono ?_; rintro e w4 ⟨rfl, hk4⟩)
  refine (counts_true w4).mono ?_
  rintro e w5 ⟨rfl, hk5⟩
  go_wp2
  go_ret
  exact ⟨rfl, (K3.out.next hk4).next hk5⟩
set_option maxRecDepth 20000 in
set_option maxHeartbeats 8000000 in
theorem walkB {ao : Option Addr} {len cap : Nat} {X : Nat → Ex} {w : World} (_hl : len ≤ maxLen) (hX : IsExs w ao len X) (a b c : Nat) (d : Bool) (ha : a < 8) (hb : b < 8) (hc : c < 8) : Calls Try.prog 4 #[.slice ao len cap, .agg #[.int .i64 a, .int .i64 b, .int .i64 c, .bool d]] w fun e w' => e = .returned (.bool true) ∧ Kept [] w w' := by
  unfold maxLen at _hl
  have KA := hide ((Kept.refl [] w).alloc (.cells #[.int .i64 a, .int .i64 b, .int .i64 c, .bool d] 38))
  have CX := hide (show Cel (w.alloc (.cells #[.int .i64 a, .int .i64 b, .int .i64 c, .bool d] 38)) w.heap.size ⟨a, b, c, d⟩ from Cel.new w ⟨a, b, c, d⟩)
  have HX := hide hX
  have HR := hide (fun w => right_any a b c d 8 w)
  have hxr : rightB 8 (a : Int) (b : Int) (c : Int) = true := decide_eq_true (by omega)
  rw [hxr] at HR
  have HXR := hide hxr
  have HA := hide ha
  have HB := hide hb
  have HC := hide hc
  clear hX hxr ha hb hc
  have SX := hide (Nat.le_refl w.heap.size)
  go_enter Try.func4, Try.ntmps4
  go_wp2_with fail
  have XW := hide (show w.heap.size < (w.alloc (.cells #[.int .i64 a, .int .i64 b, .int .i64 c, .bool d] 38)).heap.size by simp)
  generalize w.alloc (.cells #[.int .i64 a, .int .i64 b, .int .i64 c, .bool d] 38) = w1 at *
  refine (new_ok 8 (by omega) (by omega) w1).mono ?_
  rintro e w2 ⟨p, cb, rfl, hL, hf, hk⟩
  have A2 := hide (LB.of_new KA.out hL hf hk)
  have NX := hide (show w.heap.size ∉ foot p cb (.slice none 0 0) from fun hm => by have := hf _ hm; have := XW.out; omega)
  have C2 := hide (CX.out.kept hk (by simp))
  clear hL hf hk CX KA XW
  go_wp2_with fail
  refine (counts_true w2).mono ?_
  rintro e w3 ⟨rfl, hk⟩
  have A3 := hide (A2.out.next hk)
  have C3 := C2.out.kept hk (by simp)
  obtain ⟨x0, x1, x2, x3⟩ := C3
  have C3 := hide (C2.out.kept hk (by simp))
  clear hk A2 C2
  go_wp2_with (go_at_call 12; refine (HR.out _).mono ?_; rintro e w4 ⟨rfl, hk4⟩; have A4 := hide (A3.out.next hk4); have C4 := hide (C3.out.kept hk4 (by simp)); clear hk4 A3 C3 x0 x1 x2 x3)
  go_loopw [7] (fun v wr => ∃ (i : Nat) (ev : Value), i ≤ len ∧ i ≤ 30 ∧ v = .int .i64 i ∧ LB w wr p cb 8 ev (fw X i) ∧ Cel wr w.heap.size ⟨a, b, c, d⟩ ∧ w.heap.size ∉ foot p cb ev) (fun v _ => 30 - (intOf v).toNat)
  case atStart => exact ⟨0, _, Nat.zero_le _, Nat.zero_le _, rfl, A4.out, C4.out, NX.out⟩
  case round =>
    obtain ⟨i, ev, hi1, hi2, rfl, hA, hC, hN⟩ := hrel
    have A := hide hA
    have CC := hide hC
    have NN := hide hN
    clear hA hC hN A4 C4 NX HR SX
    by_cases hi : i < len ∧ i < 30
    · obtain ⟨bb, off, rfl, y0, y1, y2, y3⟩ := HX.out i hi.1
      have Y0 := hide y0
      have Y1 := hide y1
      have Y2 := hide y2
      have Y3 := hide y3
      have z0 := A.out.kept.cell y0 (by simp)
      have z1 := A.out.kept.cell y1 (by simp)
      have z2 := A.out.kept.cell y2 (by simp)
      have z3 := A.out.kept.cell y3 (by simp)
      have hi0 : (0 : Int) ≤ (i : Int) := by omega
      have hi3 : (i : Int) < (len : Int) := by omega
      have hi4 : (i : Int) < 30 := by omega
      clear y0 y1 y2 y3
      go_wp2_with fail
      go_region_held3 (fun w' => w'.cell? ⟨bb, off + i * 4, none⟩ = some (.int .i64 (X i).a) ∧ w'.cell? ⟨bb, off + i * 4 + 1, none⟩ = some (.int .i64 (X i).b) ∧ w'.cell? ⟨bb, off + i * 4 + 2, none⟩ = some (.int .i64 (X i).c) ∧ w'.cell? ⟨bb, off + i * 4 + 3, none⟩ = some (.bool (X i).d)) (go_keep) (first
        | (go_at_call 9; refine ((A.out.next (by first | exact Kept.refl [] _ | exact (Kept.refl [] _).drew | exact (Kept.refl [] _).drewN _)).add (by decide) (X i) (by simp [fw]; omega)).mono ?_; rintro e w5 ⟨rfl, ev5, h5, k5, g5⟩; have t0 := h5.kept.cell Y0.out (by simp); have t1 := h5.kept.cell Y1.out (by simp); have t2 := h5.kept.cell Y2.out (by simp); have t3 := h5.kept.cell Y3.out (by simp)))
      rename_i hHeld
      clear hHeld t0 t1 t2 t3 z0 z1 z2 z3 Y0 Y1 Y2 Y3
      have A5 := hide h5
      have k6 : Kept (foot p cb ev) wr w5 := ⟨k5.os, k5.tape, k5.output, k5.size, k5.block⟩
      have C5 := hide (CC.out.kept k6 NN.out)
      have N5 := hide (show w.heap.size ∉ foot p cb ev5 from fun hm => by
        rcases g5 _ hm with e | e
        · exact NN.out e
        · have := lt_of_cell CC.out.c0
          have e2 : wr.heap.size ≤ w.heap.size := e
          omega)
      clear h5 k5 g5 k6 A CC NN
      go_wp2
      go_roundw
      case rel => exact ⟨i + 1, _, by omega, by omega, by go_num, by rw [fw_succ]; exact A5.out, C5.out, N5.out⟩
      case measure => simp [intOf]; omega
    · have hnn : ¬ ((i : Int) < len ∧ (i : Int) < 30) := by omega
      have A0 := hide A.out
      have C0 := hide CC.out
      have N0 := hide NN.out
      clear A CC NN HX
      by_cases hkl : (i : Int) < len
      all_goals
        first | (have hk40 : ¬ ((i : Int) < 30) := by omega) | skip
        clear hnn
        go_wp2_with fail
        have R9 := hide (row48 wr)
        have K9 := (Kept.refl [] wr).alloc (.cells #[.int .i64 0, .int .i64 0, .int .i64 0, .int .i64 0, .int .i64 0, .int .i64 0, .int .i64 0, .int .i64 0, .int .i64 0, .int .i64 0, .int .i64 0, .int .i64 0, .int .i64 0, .int .i64 0, .int .i64 0, .int .i64 0, .int .i64 0, .int .i64 0, .int .i64 0, .int .i64 0, .int .i64 0, .int .i64 0, .int .i64 0, .int .i64 0, .int .i64 0, .int .i64 0, .int .i64 0, .int .i64 0, .int .i64 0, .int .i64 0, .int .i64 0, .int .i64 0, .int .i64 0, .int .i64 0, .int .i64 0, .int .i64 0, .int .i64 0, .int .i64 0, .int .i64 0, .int .i64 0, .int .i64 0, .int .i64 0, .int .i64 0, .int .i64 0, .int .i64 0, .int .i64 0, .int .i64 0, .int .i64 0] 43)
        have A9 := hide (A0.out.next K9)
        have C9 := hide (C0.out.kept K9 (by simp))
        have Q9 := hide (show wr.heap.size ∉ foot p cb ev ∧ w.heap.size ≠ wr.heap.size ∧ w.heap.size ≤ wr.heap.size from ⟨fun hm => Nat.lt_irrefl _ (A0.out.la.lt hm), fun e => by have := lt_of_cell C0.out.c0; omega, A0.out.kept.size⟩)
        clear K9 A0 C0
        generalize wr.alloc (.cells #[.int .i64 0, .int .i64 0, .int .i64 0, .int .i64 0, .int .i64 0, .int .i64 0, .int .i64 0, .int .i64 0, .int .i64 0, .int .i64 0, .int .i64 0, .int .i64 0, .int .i64 0, .int .i64 0, .int .i64 0, .int .i64 0, .int .i64 0, .int .i64 0, .int .i64 0, .int .i64 0, .int .i64 0, .int .i64 0, .int .i64 0, .int .i64 0, .int .i64 0, .int .i64 0, .int .i64 0, .int .i64 0, .int .i64 0, .int .i64 0, .int .i64 0, .int .i64 0, .int .i64 0, .int .i64 0, .int .i64 0, .int .i64 0, .int .i64 0, .int .i64 0, .int .i64 0, .int .i64 0, .int .i64 0, .int .i64 0, .int .i64 0, .int .i64 0, .int .i64 0, .int .i64 0, .int .i64 0, .int .i64 0] 43) = wq at R9 A9 C9 ⊢
        generalize wr.heap.size = q at R9 Q9 ⊢
        go_loopw [9] (fun v wr => ∃ n : Nat, n ≤ 8 ∧ v = .int .i64 n ∧ LB w wr p cb 8 ev (fw X i) ∧ Cel wr w.heap.size ⟨a, b, c, d⟩ ∧ wr.rowIs q 43 48 (wz (cn (evs 8 (fw X i))) n)) (fun v _ => 8 - (intOf v).toNat)
        case atStart => exact ⟨0, by omega, rfl, A9.out, C9.out, R9.out.congr (fun j hj => by unfold wz; rw [if_neg (by omega)]; rfl)⟩
        case round =>
          obtain ⟨n, hn, rfl, hA, hC, hR⟩ := hrel
          have A := hide hA
          have CC := hide hC
          have R := hide hR
          clear hA hC hR A9 C9 R9
          by_cases hn8 : n < 8
          · have hni : (n : Int) < 8 := by omega
            have hn0 : (0 : Int) ≤ (n : Int) := by omega
            have hnode := node_ok (k := n) A.out.la.sc hn8 (by omega)
            unfold aggC at hnode
            obtain ⟨y0, hy0⟩ : ∃ y, cn (evs 8 (fw X i)) (n * 6) = y := ⟨_, rfl⟩
            obtain ⟨y1, hy1⟩ : ∃ y, cn (evs 8 (fw X i)) (n * 6 + 1) = y := ⟨_, rfl⟩
            obtain ⟨y2, hy2⟩ : ∃ y, cn (evs 8 (fw X i)) (n * 6 + 2) = y := ⟨_, rfl⟩
            obtain ⟨y3, hy3⟩ : ∃ y, cn (evs 8 (fw X i)) (n * 6 + 3) = y := ⟨_, rfl⟩
            obtain ⟨y4, hy4⟩ : ∃ y, cn (evs 8 (fw X i)) (n * 6 + 4) = y := ⟨_, rfl⟩
            obtain ⟨y5, hy5⟩ : ∃ y, cn (evs 8 (fw X i)) (n * 6 + 5) = y := ⟨_, rfl⟩
            rw [hy0, hy1, hy2, hy3, hy4, hy5] at hnode
            have HN := hide hnode
            have HY := hide (show ∀ t, t < 6 → cn (evs 8 (fw X i)) (n * 6 + t) = [y0, y1, y2, y3, y4, y5].getD t 0 from fun t ht => by
              rcases (show t = 0 ∨ t = 1 ∨ t = 2 ∨ t = 3 ∨ t = 4 ∨ t = 5 by omega) with rfl | rfl | rfl | rfl | rfl | rfl
              · exact hy0
              · exact hy1
              · exact hy2
              · exact hy3
              · exact hy4
              · exact hy5)
            clear hnode hy0 hy1 hy2 hy3 hy4 hy5
            go_wp2_with fail
            refine HN.out.mono ?_
            rintro e w5 ⟨rfl, hk5⟩
            have A5 := hide (A.out.next hk5)
            have C5 := hide (CC.out.kept hk5 (by simp))
            have hR5 := hk5.row R.out (by simp)
            have c0 := hR5.cell (i := n * 6) (by omega)
            have c1 := hR5.cell (i := n * 6 + 1) (by omega)
            have c2 := hR5.cell (i := n * 6 + 2) (by omega)
            have c3 := hR5.cell (i := n * 6 + 3) (by omega)
            have c4 := hR5.cell (i := n * 6 + 4) (by omega)
            have c5 := hR5.cell (i := n * 6 + 5) (by omega)
            have hfz := fun j => hR5.frozen j
            have R5 := hide hR5
            unfold wz at c0 c1 c2 c3 c4 c5
            rw [if_neg (by omega)] at c0 c1 c2 c3 c4 c5
            clear hk5 hR5 A CC R HN
            go_wp2
            have KZ := (((((((Kept.refl [q] w5).setCell (p := ⟨q, n * 6, none⟩) (fun _ => by simp) (.int .i64 y0)).setCell (p := ⟨q, n * 6 + 1, none⟩) (fun _ => by simp) (.int .i64 y1)).setCell (p := ⟨q, n * 6 + 2, none⟩) (fun _ => by simp) (.int .i64 y2)).setCell (p := ⟨q, n * 6 + 3, none⟩) (fun _ => by simp) (.int .i64 y3)).setCell (p := ⟨q, n * 6 + 4, none⟩) (fun _ => by simp) (.int .i64 y4)).setCell (p := ⟨q, n * 6 + 5, none⟩) (fun _ => by simp) (.int .i64 y5))
            have RZ := ((((((R5.out.set (n * 6) (.int .i64 y0)).set (n * 6 + 1) (.int .i64 y1)).set (n * 6 + 2) (.int .i64 y2)).set (n * 6 + 3) (.int .i64 y3)).set (n * 6 + 4) (.int .i64 y4)).set (n * 6 + 5) (.int .i64 y5))
            go_roundw
            case rel =>
              refine ⟨n + 1, by omega, by go_num, nextF A5.out KZ Q9.out.1 Q9.out.2.2, C5.out.kept KZ (by simpa using Q9.out.2.1), RZ.congr (fun j hj => ?_)⟩
              have hh : ∀ t, t < 6 → j = n * 6 + t → wz (cn (evs 8 (fw X i))) (n + 1) j = .int .i64 (([y0, y1, y2, y3, y4, y5].getD t 0 : Nat) : Int) := fun t ht e => by
                unfold wz
                rw [if_pos (by omega), e, HY.out t ht]
              by_cases h0 : j = n * 6
              · rw [hh 0 (by omega) h0]; simp [h0]
              by_cases h1 : j = n * 6 + 1
              · rw [hh 1 (by omega) h1]; simp [h1]
              by_cases h2 : j = n * 6 + 2
              · rw [hh 2 (by omega) h2]; simp [h2]
              by_cases h3 : j = n * 6 + 3
              · rw [hh 3 (by omega) h3]; simp [h3]
              by_cases h4 : j = n * 6 + 4
              · rw [hh 4 (by omega) h4]; simp [h4]
              by_cases h5 : j = n * 6 + 5
              · rw [hh 5 (by omega) h5]; simp [h5]
              rw [if_neg h5, if_neg h4, if_neg h3, if_neg h2, if_neg h1, if_neg h0]
              unfold wz
              by_cases h6 : j < n * 6
              · rw [if_pos h6, if_pos (by omega)]
              · rw [if_neg h6, if_neg (by omega)]
            case measure => simp [intOf]; omega
          · have hn9 : n = 8 := by omega
            subst hn9
            have hl1 : (evs 8 (fw X i)).length ≤ 1000000 := by have := evs_le 8 (fw X i); rw [show (fw X i).length = i by simp [fw]] at this; omega
            have L1 := hide hl1
            have hEV : evs 8 (fw X i ++ [⟨a, b, c, d⟩]) = evs 8 (fw X i) ++ [⟨a, b, c, d⟩] := by
              rw [evs_snoc, if_pos (show Ex.ok 8 ⟨a, b, c, d⟩ = true from HXR.out)]; rfl
            have HEV := hide hEV
            have herr : errR 8 ⟨a, b, c, d⟩ = 0 := by unfold errR; rw [if_pos (show Ex.ok 8 ⟨a, b, c, d⟩ = true from HXR.out)]
            have HERR := hide herr
            clear hl1 hEV herr
            go_wp2_with fail
            refine (events_ok A.out.la (by decide) L1.out).mono ?_
            rintro e w5 ⟨v5, rfl, o5, k5⟩
            obtain ⟨ao5, cap5, hv5⟩ := own_shapeS o5
            subst hv5
            have A5 := hide (A.out.next k5)
            have hC5 := CC.out.kept k5 (by simp)
            obtain ⟨x0, x1, x2, x3⟩ := hC5
            have C5 := hide (CC.out.kept k5 (by simp))
            have R5 := hide (k5.row R.out (by simp))
            obtain ⟨me, hme⟩ : ∃ me, (evs 8 (fw X i)).length = me := ⟨_, rfl⟩
            rw [hme]
            have hme2 : me ≤ 1000000 := by rw [← hme]; exact L1.out
            have HME := hide hme
            clear o5 k5 A CC R hme L1
            go_wp2_with fail
            have hadd := A5.out.add (by decide) ⟨a, b, c, d⟩ (by simp [fw]; omega)
            rw [HERR.out] at hadd
            refine hadd.mono ?_
            rintro e w6 ⟨rfl, ev6, h6, k6, g6⟩
            have A6 := hide h6
            have C6 := hide (C5.out.kept k6 N0.out)
            have R6 := hide (k6.row R5.out Q9.out.1)
            clear hadd h6 k6 g6 A5 C5 R5 x0 x1 x2 x3 N0 Q9 HERR
            go_wp2_with fail
            go_loopw [11] (fun v wr => ∃ n : Nat, n ≤ 8 ∧ v = .int .i64 n ∧ LB w wr p cb 8 ev6 (fw X i ++ [⟨a, b, c, d⟩]) ∧ Cel wr w.heap.size ⟨a, b, c, d⟩ ∧ wr.rowIs q 43 48 (wz (cn (evs 8 (fw X i))) 8)) (fun v _ => 8 - (intOf v).toNat)
            case atStart => exact ⟨0, by omega, rfl, A6.out, C6.out, R6.out⟩
            case round =>
              obtain ⟨n, hn, rfl, hA, hC, hR⟩ := hrel
              have A := hide hA
              have CC := hide hC
              have R := hide hR
              clear hA hC hR A6 C6 R6
              by_cases hn8 : n < 8
              · have hni : (n : Int) < 8 := by omega
                have hn0 : (0 : Int) ≤ (n : Int) := by omega
                obtain ⟨y0, hy0⟩ : ∃ y, cn (evs 8 (fw X i)) (n * 6) = y := ⟨_, rfl⟩
                obtain ⟨y1, hy1⟩ : ∃ y, cn (evs 8 (fw X i)) (n * 6 + 1) = y := ⟨_, rfl⟩
                obtain ⟨y2, hy2⟩ : ∃ y, cn (evs 8 (fw X i)) (n * 6 + 2) = y := ⟨_, rfl⟩
                obtain ⟨y3, hy3⟩ : ∃ y, cn (evs 8 (fw X i)) (n * 6 + 3) = y := ⟨_, rfl⟩
                obtain ⟨y4, hy4⟩ : ∃ y, cn (evs 8 (fw X i)) (n * 6 + 4) = y := ⟨_, rfl⟩
                obtain ⟨y5, hy5⟩ : ∃ y, cn (evs 8 (fw X i)) (n * 6 + 5) = y := ⟨_, rfl⟩
                obtain ⟨z0, hz0⟩ : ∃ z, cn (evs 8 (fw X i ++ [⟨a, b, c, d⟩])) (n * 6) = z := ⟨_, rfl⟩
                obtain ⟨z1, hz1⟩ : ∃ z, cn (evs 8 (fw X i ++ [⟨a, b, c, d⟩])) (n * 6 + 1) = z := ⟨_, rfl⟩
                obtain ⟨z2, hz2⟩ : ∃ z, cn (evs 8 (fw X i ++ [⟨a, b, c, d⟩])) (n * 6 + 2) = z := ⟨_, rfl⟩
                obtain ⟨z3, hz3⟩ : ∃ z, cn (evs 8 (fw X i ++ [⟨a, b, c, d⟩])) (n * 6 + 3) = z := ⟨_, rfl⟩
                obtain ⟨z4, hz4⟩ : ∃ z, cn (evs 8 (fw X i ++ [⟨a, b, c, d⟩])) (n * 6 + 4) = z := ⟨_, rfl⟩
                obtain ⟨z5, hz5⟩ : ∃ z, cn (evs 8 (fw X i ++ [⟨a, b, c, d⟩])) (n * 6 + 5) = z := ⟨_, rfl⟩
                have r0 : z0 = y0 + (if pE ⟨a, b, c, d⟩ n 0 then 1 else 0) := by
                  rw [← hz0, ← hy0, HEV.out, cn_snoc, show (n * 6) / 6 = n by omega, show (n * 6) % 6 = 0 by omega]
                have r1 : z1 = y1 + (if pE ⟨a, b, c, d⟩ n 1 then 1 else 0) := by
                  rw [← hz1, ← hy1, HEV.out, cn_snoc, show (n * 6 + 1) / 6 = n by omega, show (n * 6 + 1) % 6 = 1 by omega]
                have r2 : z2 = y2 + (if pE ⟨a, b, c, d⟩ n 2 then 1 else 0) := by
                  rw [← hz2, ← hy2, HEV.out, cn_snoc, show (n * 6 + 2) / 6 = n by omega, show (n * 6 + 2) % 6 = 2 by omega]
                have r3 : z3 = y3 + (if pE ⟨a, b, c, d⟩ n 3 then 1 else 0) := by
                  rw [← hz3, ← hy3, HEV.out, cn_snoc, show (n * 6 + 3) / 6 = n by omega, show (n * 6 + 3) % 6 = 3 by omega]
                have r4 : z4 = y4 + (if pE ⟨a, b, c, d⟩ n 4 then 1 else 0) := by
                  rw [← hz4, ← hy4, HEV.out, cn_snoc, show (n * 6 + 4) / 6 = n by omega, show (n * 6 + 4) % 6 = 4 by omega]
                have r5 : z5 = y5 + (if pE ⟨a, b, c, d⟩ n 5 then 1 else 0) := by
                  rw [← hz5, ← hy5, HEV.out, cn_snoc, show (n * 6 + 5) / 6 = n by omega, show (n * 6 + 5) % 6 = 5 by omega]
                have b0 : y0 ≤ 1000000 := by rw [← hy0]; exact Nat.le_trans (cn_le _ _) (by rw [HME.out]; exact hme2)
                have b1 : y1 ≤ 1000000 := by rw [← hy1]; exact Nat.le_trans (cn_le _ _) (by rw [HME.out]; exact hme2)
                have b2 : y2 ≤ 1000000 := by rw [← hy2]; exact Nat.le_trans (cn_le _ _) (by rw [HME.out]; exact hme2)
                have b3 : y3 ≤ 1000000 := by rw [← hy3]; exact Nat.le_trans (cn_le _ _) (by rw [HME.out]; exact hme2)
                have b4 : y4 ≤ 1000000 := by rw [← hy4]; exact Nat.le_trans (cn_le _ _) (by rw [HME.out]; exact hme2)
                have b5 : y5 ≤ 1000000 := by rw [← hy5]; exact Nat.le_trans (cn_le _ _) (by rw [HME.out]; exact hme2)
                have c0 : wr.cell? ⟨q, n * 6, none⟩ = some (.int .i64 y0) := by
                  have := R.out.cell (i := n * 6) (by omega)
                  unfold wz at this
                  rw [if_pos (by omega), hy0] at this
                  exact this
                have c1 : wr.cell? ⟨q, n * 6 + 1, none⟩ = some (.int .i64 y1) := by
                  have := R.out.cell (i := n * 6 + 1) (by omega)
                  unfold wz at this
                  rw [if_pos (by omega), hy1] at this
                  exact this
                have c2 : wr.cell? ⟨q, n * 6 + 2, none⟩ = some (.int .i64 y2) := by
                  have := R.out.cell (i := n * 6 + 2) (by omega)
                  unfold wz at this
                  rw [if_pos (by omega), hy2] at this
                  exact this
                have c3 : wr.cell? ⟨q, n * 6 + 3, none⟩ = some (.int .i64 y3) := by
                  have := R.out.cell (i := n * 6 + 3) (by omega)
                  unfold wz at this
                  rw [if_pos (by omega), hy3] at this
                  exact this
                have c4 : wr.cell? ⟨q, n * 6 + 4, none⟩ = some (.int .i64 y4) := by
                  have := R.out.cell (i := n * 6 + 4) (by omega)
                  unfold wz at this
                  rw [if_pos (by omega), hy4] at this
                  exact this
                have c5 : wr.cell? ⟨q, n * 6 + 5, none⟩ = some (.int .i64 y5) := by
                  have := R.out.cell (i := n * 6 + 5) (by omega)
                  unfold wz at this
                  rw [if_pos (by omega), hy5] at this
                  exact this
                by_cases hna : a = n
                · have hnode := node_ok (k := n) A.out.la.sc hn8 (by omega)
                  unfold aggC at hnode
                  rw [hz0, hz1, hz2, hz3, hz4, hz5] at hnode
                  have hsum : z0 + z1 = y0 + y1 + 1 := by
                    rw [r0, r1]
                    unfold pE
                    by_cases e : b = n <;> simp [hna, e] <;> omega
                  have bz : z0 + z1 ≤ 3000000 := by omega
                  have HN := hide hnode
                  have e1 : ((n : Int) != (a : Int)) = false := by simp; omega
                  have e3 : ((n : Int) == (a : Int)) = true := by simp; omega
                  have w1' : IntKind.i64.wrap ((z0 : Int) + (z1 : Int)) = (z0 : Int) + (z1 : Int) := by rw [IntKind.wrap_i64]; omega
                  have w2' : IntKind.i64.wrap ((y0 : Int) + (y1 : Int)) = (y0 : Int) + (y1 : Int) := by rw [IntKind.wrap_i64]; omega
                  have w3' : IntKind.i64.wrap ((y0 : Int) + (y1 : Int) + 1) = (y0 : Int) + (y1 : Int) + 1 := by rw [IntKind.wrap_i64]; omega
                  have e5 : ((z0 : Int) + (z1 : Int) != (y0 : Int) + (y1 : Int) + 1) = false := by simp; omega
                  clear hnode hsum hna
                  clear hy0 hz0 r0 hy1 hz1 r1 hy2 hz2 r2 hy3 hz3 r3 hy4 hz4 r4 hy5 hz5 r5
                  go_wp2_with fail
                  refine HN.out.mono ?_
                  rintro e w7 ⟨rfl, hk7⟩
                  have K8 := hk7.alloc (.cells #[.int .i64 z0, .int .i64 z1, .int .i64 z2, .int .i64 z3, .int .i64 z4, .int .i64 z5] 24)
                  have r7 := fun j hj => row6 w7 24 (.int .i64 z0) (.int .i64 z1) (.int .i64 z2) (.int .i64 z3) (.int .i64 z4) (.int .i64 z5) j hj
                  have n0 := r7 0 (by omega)
                  have n1 := r7 1 (by omega)
                  have n2 := r7 2 (by omega)
                  have n3 := r7 3 (by omega)
                  have n4 := r7 4 (by omega)
                  have n5 := r7 5 (by omega)
                  have d0 := K8.cell c0 (by simp)
                  have d1 := K8.cell c1 (by simp)
                  have d2 := K8.cell c2 (by simp)
                  have d3 := K8.cell c3 (by simp)
                  have d4 := K8.cell c4 (by simp)
                  have d5 := K8.cell c5 (by simp)
                  obtain ⟨x0, x1, x2, x3⟩ := CC.out.kept K8 (by simp)
                  have C8 := hide (CC.out.kept K8 (by simp))
                  have A8 := hide (A.out.next K8)
                  have R8 := hide (K8.row R.out (by simp))
                  clear hk7 K8 r7 c0 c1 c2 c3 c4 c5 A CC R HN
                  go_wp2_with fail
                  generalize w7.alloc (.cells #[.int .i64 z0, .int .i64 z1, .int .i64 z2, .int .i64 z3, .int .i64 z4, .int .i64 z5] 24) = w8 at *
                  generalize w7.heap.size = q7 at *
                  simp at n0 n1 n2 n3 n4 n5 x0 x1 x2 x3
                  go_quiet (fail)
                  have DR := (Kept.refl [] w8).drewN nq
                  have n0 := DR.cell n0 (by simp)
                  have d0 := DR.cell d0 (by simp)
                  have n1 := DR.cell n1 (by simp)
                  have d1 := DR.cell d1 (by simp)
                  have n2 := DR.cell n2 (by simp)
                  have d2 := DR.cell d2 (by simp)
                  have n3 := DR.cell n3 (by simp)
                  have d3 := DR.cell d3 (by simp)
                  have n4 := DR.cell n4 (by simp)
                  have d4 := DR.cell d4 (by simp)
                  have n5 := DR.cell n5 (by simp)
                  have d5 := DR.cell d5 (by simp)
                  have x0 := DR.cell x0 (by simp)
                  have x1 := DR.cell x1 (by simp)
                  have C9 := hide (C8.out.kept DR (by simp))
                  have A9 := hide (A8.out.next DR)
                  have R9 := hide (DR.row R8.out (by simp))
                  clear DR C8 A8 R8 x2 x3
                  generalize w8.drewN nq = w9 at *
                  go_wp2_with fail
                  go_quiet (fail)
                  go_wp2
                  go_roundw
                  case rel => exact ⟨n + 1, by omega, by go_num, A9.out.next ((Kept.refl [] w9).drewN _), C9.out.kept ((Kept.refl [] w9).drewN _) (by simp), ((Kept.refl [] w9).drewN _).row R9.out (by simp)⟩
                  case measure => simp [intOf]; omega
                · by_cases hnb : b = n
                  · have hnode := node_ok (k := n) A.out.la.sc hn8 (by omega)
                    unfold aggC at hnode
                    rw [hz0, hz1, hz2, hz3, hz4, hz5] at hnode
                    have HN := hide hnode
                    have e1 : ((n : Int) != (a : Int)) = true := by simp; omega
                    have e2 : ((n : Int) != (b : Int)) = false := by simp; omega
                    have e3 : ((n : Int) == (a : Int)) = false := by simp; omega
                    clear hnode hna hnb
                    clear hy0 hz0 r0 hy1 hz1 r1 hy2 hz2 r2 hy3 hz3 r3 hy4 hz4 r4 hy5 hz5 r5
                    go_wp2_with fail
                    refine HN.out.mono ?_
                    rintro e w7 ⟨rfl, hk7⟩
                    have K8 := hk7.alloc (.cells #[.int .i64 z0, .int .i64 z1, .int .i64 z2, .int .i64 z3, .int .i64 z4, .int .i64 z5] 24)
                    have r7 := fun j hj => row6 w7 24 (.int .i64 z0) (.int .i64 z1) (.int .i64 z2) (.int .i64 z3) (.int .i64 z4) (.int .i64 z5) j hj
                    have n0 := r7 0 (by omega)
                    have n1 := r7 1 (by omega)
                    have n2 := r7 2 (by omega)
                    have n3 := r7 3 (by omega)
                    have n4 := r7 4 (by omega)
                    have n5 := r7 5 (by omega)
                    have d0 := K8.cell c0 (by simp)
                    have d1 := K8.cell c1 (by simp)
                    have d2 := K8.cell c2 (by simp)
                    have d3 := K8.cell c3 (by simp)
                    have d4 := K8.cell c4 (by simp)
                    have d5 := K8.cell c5 (by simp)
                    obtain ⟨x0, x1, x2, x3⟩ := CC.out.kept K8 (by simp)
                    have C8 := hide (CC.out.kept K8 (by simp))
                    have A8 := hide (A.out.next K8)
                    have R8 := hide (K8.row R.out (by simp))
                    clear hk7 K8 r7 c0 c1 c2 c3 c4 c5 A CC R HN
                    go_wp2_with fail
                    generalize w7.alloc (.cells #[.int .i64 z0, .int .i64 z1, .int .i64 z2, .int .i64 z3, .int .i64 z4, .int .i64 z5] 24) = w8 at *
                    generalize w7.heap.size = q7 at *
                    simp at n0 n1 n2 n3 n4 n5 x0 x1 x2 x3
                    go_quiet (fail)
                    have DR := (Kept.refl [] w8).drewN nq
                    have n0 := DR.cell n0 (by simp)
                    have d0 := DR.cell d0 (by simp)
                    have n1 := DR.cell n1 (by simp)
                    have d1 := DR.cell d1 (by simp)
                    have n2 := DR.cell n2 (by simp)
                    have d2 := DR.cell d2 (by simp)
                    have n3 := DR.cell n3 (by simp)
                    have d3 := DR.cell d3 (by simp)
                    have n4 := DR.cell n4 (by simp)
                    have d4 := DR.cell d4 (by simp)
                    have n5 := DR.cell n5 (by simp)
                    have d5 := DR.cell d5 (by simp)
                    have x0 := DR.cell x0 (by simp)
                    have x1 := DR.cell x1 (by simp)
                    have C9 := hide (C8.out.kept DR (by simp))
                    have A9 := hide (A8.out.next DR)
                    have R9 := hide (DR.row R8.out (by simp))
                    clear DR C8 A8 R8 x2 x3
                    generalize w8.drewN nq = w9 at *
                    go_wp2_with fail
                    go_quiet (fail)
                    go_wp2
                    go_roundw
                    case rel => exact ⟨n + 1, by omega, by go_num, A9.out.next ((Kept.refl [] w9).drewN _), C9.out.kept ((Kept.refl [] w9).drewN _) (by simp), ((Kept.refl [] w9).drewN _).row R9.out (by simp)⟩
                    case measure => simp [intOf]; omega
                  · have hnode := node_ok (k := n) A.out.la.sc hn8 (by omega)
                    unfold aggC at hnode
                    rw [hz0, hz1, hz2, hz3, hz4, hz5] at hnode
                    have q0 : pE ⟨a, b, c, d⟩ n = fun _ => false := by
                      funext t
                      unfold pE
                      simp [hna, hnb]
                    rw [q0] at r0
                    rw [q0] at r1
                    rw [q0] at r2
                    rw [q0] at r3
                    rw [q0] at r4
                    rw [q0] at r5
                    simp only [if_false, Bool.false_eq_true, Nat.add_zero] at r0 r1 r2 r3 r4 r5
                    rw [r0, r1, r2, r3, r4, r5] at hnode
                    have HN := hide hnode
                    have e1 : ((n : Int) != (a : Int)) = true := by simp; omega
                    have e2 : ((n : Int) != (b : Int)) = true := by simp; omega
                    have e3 : ((n : Int) == (a : Int)) = false := by simp; omega
                    clear hnode q0
                    clear hy0 hz0 r0 hy1 hz1 r1 hy2 hz2 r2 hy3 hz3 r3 hy4 hz4 r4 hy5 hz5 r5
                    go_wp2_with fail
                    refine HN.out.mono ?_
                    rintro e w7 ⟨rfl, hk7⟩
                    have K8 := hk7.alloc (.cells #[.int .i64 y0, .int .i64 y1, .int .i64 y2, .int .i64 y3, .int .i64 y4, .int .i64 y5] 24)
                    have r7 := fun j hj => row6 w7 24 (.int .i64 y0) (.int .i64 y1) (.int .i64 y2) (.int .i64 y3) (.int .i64 y4) (.int .i64 y5) j hj
                    have n0 := r7 0 (by omega)
                    have n1 := r7 1 (by omega)
                    have n2 := r7 2 (by omega)
                    have n3 := r7 3 (by omega)
                    have n4 := r7 4 (by omega)
                    have n5 := r7 5 (by omega)
                    have d0 := K8.cell c0 (by simp)
                    have d1 := K8.cell c1 (by simp)
                    have d2 := K8.cell c2 (by simp)
                    have d3 := K8.cell c3 (by simp)
                    have d4 := K8.cell c4 (by simp)
                    have d5 := K8.cell c5 (by simp)
                    obtain ⟨x0, x1, x2, x3⟩ := CC.out.kept K8 (by simp)
                    have C8 := hide (CC.out.kept K8 (by simp))
                    have A8 := hide (A.out.next K8)
                    have R8 := hide (K8.row R.out (by simp))
                    clear hk7 K8 r7 c0 c1 c2 c3 c4 c5 A CC R HN
                    go_wp2_with fail
                    generalize w7.alloc (.cells #[.int .i64 y0, .int .i64 y1, .int .i64 y2, .int .i64 y3, .int .i64 y4, .int .i64 y5] 24) = w8 at *
                    generalize w7.heap.size = q7 at *
                    simp at n0 n1 n2 n3 n4 n5 x0 x1 x2 x3
                    go_quiet (fail)
                    have DR := (Kept.refl [] w8).drewN nq
                    have n0 := DR.cell n0 (by simp)
                    have d0 := DR.cell d0 (by simp)
                    have n1 := DR.cell n1 (by simp)
                    have d1 := DR.cell d1 (by simp)
                    have n2 := DR.cell n2 (by simp)
                    have d2 := DR.cell d2 (by simp)
                    have n3 := DR.cell n3 (by simp)
                    have d3 := DR.cell d3 (by simp)
                    have n4 := DR.cell n4 (by simp)
                    have d4 := DR.cell d4 (by simp)
                    have n5 := DR.cell n5 (by simp)
                    have d5 := DR.cell d5 (by simp)
                    have x0 := DR.cell x0 (by simp)
                    have x1 := DR.cell x1 (by simp)
                    have C9 := hide (C8.out.kept DR (by simp))
                    have A9 := hide (A8.out.next DR)
                    have R9 := hide (DR.row R8.out (by simp))
                    clear DR C8 A8 R8 x2 x3
                    generalize w8.drewN nq = w9 at *
                    go_wp2_with fail
                    go_quiet (fail)
                    go_wp2
                    go_roundw
                    case rel => exact ⟨n + 1, by omega, by go_num, A9.out.next ((Kept.refl [] w9).drewN _), C9.out.kept ((Kept.refl [] w9).drewN _) (by simp), ((Kept.refl [] w9).drewN _).row R9.out (by simp)⟩
                    case measure => simp [intOf]; omega
              · have hni : ¬ (n : Int) < 8 := by omega
                have hlen : (evs 8 (fw X i ++ [⟨a, b, c, d⟩])).length = me + 1 := by rw [HEV.out, List.length_append, HME.out]; rfl
                have L2 := hide (show (evs 8 (fw X i ++ [⟨a, b, c, d⟩])).length ≤ 1000000 by
                  have h1 := HME.out
                  have h2 := evs_le 8 (fw X i)
                  rw [show (fw X i).length = i by simp [fw]] at h2
                  omega)
                have HLEN := hide hlen
                have hw : IntKind.i64.wrap ((me : Int) + 1) = (me : Int) + 1 := by rw [IntKind.wrap_i64]; omega
                clear hlen
                go_wp2_with fail
                refine (events_ok A.out.la (by decide) L2.out).mono ?_
                rintro e w7 ⟨v7, rfl, o7, k7⟩
                obtain ⟨ao7, cap7, hv7⟩ := own_shapeS o7
                subst hv7
                have K7 := hide (A.out.kept.next k7)
                rw [HLEN.out]
                clear o7 k7 A CC R
                go_wp2
                go_ret
                exact ⟨by simp, K7.out⟩
theorem walk {ao : Option Addr} {len cap : Nat} {X : Nat → Ex} {w : World} (hl : len ≤ maxLen) (hX : IsExs w ao len X) (a b c : Int) (d : Bool) : Calls Try.prog 4 #[.slice ao len cap, .agg #[.int .i64 a, .int .i64 b, .int .i64 c, .bool d]] w fun e w' => e = .returned (.bool true) ∧ Kept [] w w' := by
  cases hr : rightB 8 a b c with
  | false => exact walkA a b c d hr w
  | true =>
    have h : (0 ≤ a ∧ a < 8) ∧ (0 ≤ b ∧ b < 8) ∧ (0 ≤ c ∧ c < 8) := of_decide_eq_true hr
    obtain ⟨an, rfl⟩ := Int.eq_ofNat_of_zero_le h.1.1
    obtain ⟨bn, rfl⟩ := Int.eq_ofNat_of_zero_le h.2.1.1
    obtain ⟨cn', rfl⟩ := Int.eq_ofNat_of_zero_le h.2.2.1
    exact walkB hl hX an bn cn' d (by omega) (by omega) (by omega)

theorem own : ownKnob Try.prog.godebug = none := by kernel_rfl
theorem laidOut : laidOutB Try.prog = true := by kernel_rfl

set_option maxRecDepth 100000 in
theorem lifted (os : Os) (started : os.Started) (H : Type) (enc : TypeId × Value → H) :
    ReturnsInHanded {} Try.checked os 4 .any (Rows.statsOneSpec.pre6 enc Try.prog Try.f4 Rows.statsOneRow.domain false) (Rows.statsOneSpec.post enc Try.prog Try.f4 false true false false) := by
  refine returnsInHanded_of_change (C := Try.checked) own started (by kernel_rfl) Try.func4
    (ChangeSpec.witness6 (enc := enc) (C := Try.checked) false ⟨#[], #[.slice none 0 0, .agg #[.int .i64 0, .int .i64 0, .int .i64 0, .bool false]], []⟩ 8 (by kernel_rfl) (by kernel_rfl) (by kernel_rfl) (by kernel_rfl)) ?_
  intro W base args ds gs before hval0 hW hcnd _
  have hval : ∀ (j : Nat) t v, Try.f4.params[j]? = some t → args[j]? = some v → Value.okWide Try.prog W .any base t v := hval0
  have hW' := hW
  obtain ⟨p, q, hA0, hV, rfl, hfz, hnd⟩ := hW
  have hA : DataW.TrodAll enc Try.prog W 0 (fun _ => true) true Try.f4.params.toList args.toList ds p := hA0
  have hK := hA
  rw [Try.params4] at hA hval
  obtain ⟨v0, vs0, d0, ds0, p0, q0, hargs, rfl, rfl, h0, r0⟩ := trodAll_cons hA
  obtain ⟨v1, vs1, d1, ds1, p1, q1, rfl, rfl, rfl, h1, r1⟩ := trodAll_cons r0
  obtain ⟨rfl, rfl, rfl⟩ := trodAll_nil r1
  obtain rfl : args = #[v0, v1] := by cases args; simp_all
  obtain ⟨rfl, rfl⟩ := trodVars_none hV
  obtain ⟨a0, len0, cap0, X0, rfl, hl0, hX0⟩ := open_exs (okWide_slice Try.underlying22 (hval 0 22 v0 rfl rfl)) h0
  obtain ⟨xa, xb, xc, xd, rfl⟩ := open_ev h1
  clear hA0 hval0
  refine (walk hl0 hX0 xa xb xc xd (w := W)).mono fun e W' ⟨he, hk⟩ => ?_
  subst he
  exact ⟨_, rfl, _, _, _, [], _, [], hW', trodAll_mk1 (shut_bool Try.underlying4 _), trodAll_below laidOut hk.below _ _ _ _ hK (by kernel_rfl), rfl, hk.below.frame _, fun h => by cases h⟩

theorem said : Rows.StatsOneSaid :=
  OpenClaim.holds_of_wide 4 Try.f4 rfl rfl rfl rfl rfl rfl rfl ⟨rfl, rfl, rfl, rfl, rfl⟩ rfl rfl rfl rfl rfl (by kernel_rfl) Try.func4 (by kernel_rfl)
    (of_decide_eq_true (by kernel_rfl)) (by unfold Func.isWrapper; first | (rw [if_pos (by decide +kernel)]; kernel_rfl) | (rw [if_neg (by decide +kernel)]; exact ⟨rfl, rfl⟩))
    (fun os started H enc _ => lifted os started H enc)
end Go.Proofs.Ytbejafjpdplofaa.LO
