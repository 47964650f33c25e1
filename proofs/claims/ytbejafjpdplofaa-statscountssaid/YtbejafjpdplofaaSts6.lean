
/-
  No statement of the program: the document's counts, and the laws' own small check, over this seat's translation.
-/
import Derived.Test.YtbejafjpdplofaaSts5
import Derived.Laws.StructEq
import Derived.Deep.AppendLies
namespace Go.Proofs.Ytbejafjpdplofaa.St
open Go.ChangeShapes Go.WideShapes Go.ChangeAt Go.RowKit By
/-- Events as cells, one behind the other. -/
def IsEvs (w : World) (ao : Option Addr) (l : List Ev) : Prop := ∀ i, i < l.length → ∃ b, ao = some ⟨b, 0, none⟩ ∧
  w.cell? ⟨b, i * 4, none⟩ = some (.int .i64 (l.getD i ⟨0, 0, 0, false⟩).a) ∧ w.cell? ⟨b, i * 4 + 1, none⟩ = some (.int .i64 (l.getD i ⟨0, 0, 0, false⟩).b) ∧
  w.cell? ⟨b, i * 4 + 2, none⟩ = some (.int .i64 (l.getD i ⟨0, 0, 0, false⟩).c) ∧ w.cell? ⟨b, i * 4 + 3, none⟩ = some (.bool (l.getD i ⟨0, 0, 0, false⟩).d)
theorem fl_get (l : List Ev) (i q : Nat) (hi : i < l.length) (hq : q < 4) : (fl l)[i * 4 + q]? = (l.getD i ⟨0, 0, 0, false⟩).v[q]? := by
  induction l generalizing i with
  | nil => simp at hi
  | cons x r ih =>
    have e : fl (x :: r) = x.v ++ fl r := by simp [fl]
    have hx : x.v.length = 4 := rfl
    rw [e]
    cases i with
    | zero =>
      rw [List.getElem?_append_left (by omega)]
      simp
    | succ i =>
      rw [List.getElem?_append_right (by omega), hx, show (i + 1) * 4 + q - 4 = i * 4 + q by omega, ih i (by simpa using hi)]
      rfl
theorem IsEvs.of_own {w : World} {base : Nat} {t : TypeId} {l : List Ev} {ao : Option Addr} {n cap : Nat} (h : w.ownsRow base t 4 (.slice ao n cap) l.length (fl l)) : IsEvs w ao l := by
  intro i hi
  obtain ⟨g, cp, hv, hg⟩ := World.ownsRow.form h (by omega)
  cases hv
  have hc := fun q (hq : q < 4) u (hu : (l.getD i ⟨0, 0, 0, false⟩).v[q]? = some u) => World.ownsRow.cells h (g := g) rfl (i * 4 + q) u ((fl_get l i q hi hq).trans hu)
  have h0 := hc 0 (by omega) _ rfl
  have h1 := hc 1 (by omega) _ rfl
  have h2 := hc 2 (by omega) _ rfl
  have h3 := hc 3 (by omega) _ rfl
  rw [add_plain, Nat.zero_add] at h0 h1 h2 h3
  exact ⟨g, rfl, h0, h1, h2, h3⟩
theorem IsEvs.kept {w w' : World} {ao : Option Addr} {l : List Ev} (h : IsEvs w ao l) (k : Kept [] w w') : IsEvs w' ao l := by
  intro i hi
  obtain ⟨b, rfl, h0, h1, h2, h3⟩ := h i hi
  exact ⟨b, rfl, k.cell h0 (by simp), k.cell h1 (by simp), k.cell h2 (by simp), k.cell h3 (by simp)⟩
theorem row6r (w : World) (t : TypeId) : (w.alloc (.cells #[.int .i64 0, .int .i64 0, .int .i64 0, .int .i64 0, .int .i64 0, .int .i64 0] t)).rowIs w.heap.size t 6 (fun _ => .int .i64 0) :=
  World.rowIs_alloc w _ t _ (fun i hi => by
    match i, hi with
    | 0, _ => rfl
    | 1, _ => rfl
    | 2, _ => rfl
    | 3, _ => rfl
    | 4, _ => rfl
    | 5, _ => rfl)
theorem row_alloc {w : World} {b : Nat} {t : TypeId} {n : Nat} {f : Nat → Value} (h : w.rowIs b t n f) (o : Obj) : (w.alloc o).rowIs b t n f := ((Kept.refl [] w).alloc o).row h (by simp)
theorem cn_take (l : List Ev) (i : Nat) (hi : i < l.length) (k q : Nat) (hq : q < 6) : cn (l.take (i + 1)) (k * 6 + q) = cn (l.take i) (k * 6 + q) + (if pE (l.getD i ⟨0, 0, 0, false⟩) k q then 1 else 0) := by
  rw [List.take_add_one, show l[i]? = some (l.getD i ⟨0, 0, 0, false⟩) by simp [hi], Option.toList_some, cn_snoc, show (k * 6 + q) / 6 = k by omega, show (k * 6 + q) % 6 = q by omega]
set_option maxRecDepth 20000 in
set_option maxHeartbeats 8000000 in
theorem rcounts_ok {w : World} {ao : Option Addr} {cap : Nat} (l : List Ev) (hE : IsEvs w ao l) (hl : l.length ≤ 1000) (k : Nat) : Calls Try.prog 13 #[.slice ao l.length cap, .int .i64 k] w fun e w' => e = .returned (aggC (cn l) k) ∧ Kept [] w w' := by
  unfold aggC
  have HE := hide hE
  have K0 := (Kept.refl [] w).alloc (.cells #[.int .i64 0, .int .i64 0, .int .i64 0, .int .i64 0, .int .i64 0, .int .i64 0] 40)
  have RR := row6r w 40
  clear hE
  go_enter Try.func13, Try.ntmps13
  go_wp2_with fail
  have sz1 : (w.alloc (.cells #[.int .i64 0, .int .i64 0, .int .i64 0, .int .i64 0, .int .i64 0, .int .i64 0] 40)).heap.size = w.heap.size + 1 := Array.size_push _
  generalize w.alloc (.cells #[.int .i64 0, .int .i64 0, .int .i64 0, .int .i64 0, .int .i64 0, .int .i64 0] 40) = w1 at *
  have K1 := hide (K0.alloc (.cells #[.int .i64 0, .int .i64 0, .int .i64 0, .int .i64 0, .int .i64 0, .int .i64 0] 40))
  have R1 := row6r w1 40
  rw [sz1] at R1
  have RR2 := ((Kept.refl [] w1).alloc (.cells #[.int .i64 0, .int .i64 0, .int .i64 0, .int .i64 0, .int .i64 0, .int .i64 0] 40)).row RR (by simp)
  have R := hide R1
  have R0 := hide RR2
  clear K0 RR R1 RR2
  generalize w1.alloc (.cells #[.int .i64 0, .int .i64 0, .int .i64 0, .int .i64 0, .int .i64 0, .int .i64 0] 40) = w2 at *
  have hg0 : ∀ q, cn (l.take 0) q = 0 := fun q => rfl
  go_loopw [6] (fun v wr => ∃ i : Nat, i ≤ l.length ∧ v = .int .i64 i ∧ wr.rowIs (w.heap.size + 1) 40 6 (fun q => .int .i64 (cn (l.take i) (k * 6 + q) : Nat)) ∧ wr.rowIs w.heap.size 40 6 (fun _ => .int .i64 0) ∧ Kept [] w wr) (fun v _ => l.length - (intOf v).toNat)
  case atStart => exact ⟨0, Nat.zero_le _, rfl, R.out, R0.out, K1.out⟩
  case round =>
    obtain ⟨i, hi, rfl, hR, hR0, hK⟩ := hrel
    have HR := hide hR
    have HR0 := hide hR0
    have HK := hide hK
    clear hR hR0 hK R R0 K1 hg0
    by_cases hil : i < l.length
    · have hii : (i : Int) < (l.length : Int) := by omega
      obtain ⟨b, rfl, x0, x1, x2, x3⟩ := (HE.out.kept HK.out) i hil
      have hx : l.getD i ⟨0, 0, 0, false⟩ = l.getD i ⟨0, 0, 0, false⟩ := rfl
      generalize hy : l.getD i ⟨0, 0, 0, false⟩ = x at x0 x1 x2 x3 hx
      clear hx
      obtain ⟨xa, xb, xc, xd⟩ := x
      simp only at x0 x1 x2 x3
      have HX := hide hy
      have hcl := fun q => cn_le (l.take i) q
      have hlen : (l.take i).length ≤ 1000 := by simp; omega
      have q0 := HR.out.cell (i := 0) (by omega)
      have q1 := HR.out.cell (i := 1) (by omega)
      have q2 := HR.out.cell (i := 2) (by omega)
      have q3 := HR.out.cell (i := 3) (by omega)
      have q4 := HR.out.cell (i := 4) (by omega)
      have q5 := HR.out.cell (i := 5) (by omega)
      have b0 := Nat.le_trans (hcl (k * 6 + 0)) hlen
      have b1 := Nat.le_trans (hcl (k * 6 + 1)) hlen
      have b2 := Nat.le_trans (hcl (k * 6 + 2)) hlen
      have b3 := Nat.le_trans (hcl (k * 6 + 3)) hlen
      have b4 := Nat.le_trans (hcl (k * 6 + 4)) hlen
      have b5 := Nat.le_trans (hcl (k * 6 + 5)) hlen
      have hfz := fun q => HR.out.frozen q
      have hlt := HR.out.lt
      have hnw : ¬ (w.heap.size + 1 = wr.heap.size) := by omega
      clear hcl hlen hy
      have RA := hide HR.out
      have RBK := hide (show ∀ W, Kept [w.heap.size + 1] wr W → W.rowIs w.heap.size 40 6 (fun _ => .int .i64 0) from fun W h => h.row HR0.out (by simp))
      have KAK := hide (show ∀ W, Kept [w.heap.size + 1] wr W → Kept [] w W from fun W h => HK.out.trans h (fun x hx hl => by simp at hx; omega))
      have q0' : wr.cell? ⟨w.heap.size + 1, 0, none⟩ = some (.int .i64 (cn (l.take i) (k * 6) : Nat)) := q0
      have b0' : cn (l.take i) (k * 6) ≤ 1000 := b0
      clear q0 b0 HR HR0 HK
      obtain ⟨z, hz⟩ : ∃ z : Nat → Nat, z = fun q => cn (l.take i) (k * 6 + q) := ⟨_, rfl⟩
      have z0 : cn (l.take i) (k * 6) = z 0 := by rw [hz]; rfl
      have z1 : cn (l.take i) (k * 6 + 1) = z 1 := by rw [hz]
      have z2 : cn (l.take i) (k * 6 + 2) = z 2 := by rw [hz]
      have z3 : cn (l.take i) (k * 6 + 3) = z 3 := by rw [hz]
      have z4 : cn (l.take i) (k * 6 + 4) = z 4 := by rw [hz]
      have z5 : cn (l.take i) (k * 6 + 5) = z 5 := by rw [hz]
      clear hz
      rw [z0] at q0' b0'
      rw [z1] at q1 b1
      rw [z2] at q2 b2
      rw [z3] at q3 b3
      rw [z4] at q4 b4
      rw [z5] at q5 b5
      have Z0 := hide z0
      have Z1 := hide z1
      have Z2 := hide z2
      have Z3 := hide z3
      have Z4 := hide z4
      have Z5 := hide z5
      clear z0 z1 z2 z3 z4 z5
      generalize z 0 = y0 at *
      generalize z 1 = y1 at *
      generalize z 2 = y2 at *
      generalize z 3 = y3 at *
      generalize z 4 = y4 at *
      generalize z 5 = y5 at *
      by_cases ha : xa = k
      · by_cases hb : xb = k
        · by_cases hc : xc = k
          · cases xd
            · have ea : ((xa : Int) == (k : Int)) = true := by simp [ha]
              have na : ((xa : Int) != (k : Int)) = false := by simp [ha]
              have eb : ((xb : Int) == (k : Int)) = true := by simp [hb]
              have nb : ((xb : Int) != (k : Int)) = false := by simp [hb]
              have ec : ((xc : Int) == (k : Int)) = true := by simp [hc]
              have nc : ((xc : Int) != (k : Int)) = false := by simp [hc]
              have PE := hide (show ∀ q, q < 6 → pE ⟨xa, xb, xc, false⟩ k q = [true, false, false, true, false, false].getD q false from fun q hq => by
                rcases (show q = 0 ∨ q = 1 ∨ q = 2 ∨ q = 3 ∨ q = 4 ∨ q = 5 by omega) with rfl | rfl | rfl | rfl | rfl | rfl <;> simp [pE, ha, hb, hc])
              clear ha hb hc
              go_wp2
              go_roundw
              case rel =>
                have KZ := (((Kept.refl [w.heap.size + 1] wr).setCell (p := ⟨w.heap.size + 1, 0, none⟩) (fun _ => by simp) (.int .i64 ((y0 : Int) + 1))).setCell (p := ⟨w.heap.size + 1, 3, none⟩) (fun _ => by simp) (.int .i64 ((y3 : Int) + 1))).alloc (.cells #[.int .i64 xa, .int .i64 xb, .int .i64 xc, .bool false] 38)
                have RZ := row_alloc (((RA.out).set 0 (.int .i64 ((y0 : Int) + 1))).set 3 (.int .i64 ((y3 : Int) + 1))) (.cells #[.int .i64 xa, .int .i64 xb, .int .i64 xc, .bool false] 38)
                refine ⟨i + 1, hil, by go_num, ?_, ?_, ?_⟩
                · refine RZ.congr (fun q hq => ?_)
                  rw [cn_take l i hil k q hq, HX.out, PE.out q hq]
                  rcases (show q = 0 ∨ q = 1 ∨ q = 2 ∨ q = 3 ∨ q = 4 ∨ q = 5 by omega) with rfl | rfl | rfl | rfl | rfl | rfl <;> simp [Z0.out, Z1.out, Z2.out, Z3.out, Z4.out, Z5.out]
                · exact RBK.out _ KZ
                · exact KAK.out _ KZ
              case measure => simp [intOf]; omega
            · have ea : ((xa : Int) == (k : Int)) = true := by simp [ha]
              have na : ((xa : Int) != (k : Int)) = false := by simp [ha]
              have eb : ((xb : Int) == (k : Int)) = true := by simp [hb]
              have nb : ((xb : Int) != (k : Int)) = false := by simp [hb]
              have ec : ((xc : Int) == (k : Int)) = true := by simp [hc]
              have nc : ((xc : Int) != (k : Int)) = false := by simp [hc]
              have PE := hide (show ∀ q, q < 6 → pE ⟨xa, xb, xc, true⟩ k q = [true, false, false, true, false, true].getD q false from fun q hq => by
                rcases (show q = 0 ∨ q = 1 ∨ q = 2 ∨ q = 3 ∨ q = 4 ∨ q = 5 by omega) with rfl | rfl | rfl | rfl | rfl | rfl <;> simp [pE, ha, hb, hc])
              clear ha hb hc
              go_wp2
              go_roundw
              case rel =>
                have KZ := ((((Kept.refl [w.heap.size + 1] wr).setCell (p := ⟨w.heap.size + 1, 0, none⟩) (fun _ => by simp) (.int .i64 ((y0 : Int) + 1))).setCell (p := ⟨w.heap.size + 1, 3, none⟩) (fun _ => by simp) (.int .i64 ((y3 : Int) + 1))).setCell (p := ⟨w.heap.size + 1, 5, none⟩) (fun _ => by simp) (.int .i64 ((y5 : Int) + 1))).alloc (.cells #[.int .i64 xa, .int .i64 xb, .int .i64 xc, .bool true] 38)
                have RZ := row_alloc ((((RA.out).set 0 (.int .i64 ((y0 : Int) + 1))).set 3 (.int .i64 ((y3 : Int) + 1))).set 5 (.int .i64 ((y5 : Int) + 1))) (.cells #[.int .i64 xa, .int .i64 xb, .int .i64 xc, .bool true] 38)
                refine ⟨i + 1, hil, by go_num, ?_, ?_, ?_⟩
                · refine RZ.congr (fun q hq => ?_)
                  rw [cn_take l i hil k q hq, HX.out, PE.out q hq]
                  rcases (show q = 0 ∨ q = 1 ∨ q = 2 ∨ q = 3 ∨ q = 4 ∨ q = 5 by omega) with rfl | rfl | rfl | rfl | rfl | rfl <;> simp [Z0.out, Z1.out, Z2.out, Z3.out, Z4.out, Z5.out]
                · exact RBK.out _ KZ
                · exact KAK.out _ KZ
              case measure => simp [intOf]; omega
          · cases xd
            · have ea : ((xa : Int) == (k : Int)) = true := by simp [ha]
              have na : ((xa : Int) != (k : Int)) = false := by simp [ha]
              have eb : ((xb : Int) == (k : Int)) = true := by simp [hb]
              have nb : ((xb : Int) != (k : Int)) = false := by simp [hb]
              have ec : ((xc : Int) == (k : Int)) = false := by simp; omega
              have nc : ((xc : Int) != (k : Int)) = true := by simp; omega
              have PE := hide (show ∀ q, q < 6 → pE ⟨xa, xb, xc, false⟩ k q = [true, false, false, false, true, false].getD q false from fun q hq => by
                rcases (show q = 0 ∨ q = 1 ∨ q = 2 ∨ q = 3 ∨ q = 4 ∨ q = 5 by omega) with rfl | rfl | rfl | rfl | rfl | rfl <;> simp [pE, ha, hb, hc])
              clear ha hb hc
              go_wp2
              go_roundw
              case rel =>
                have KZ := (((Kept.refl [w.heap.size + 1] wr).setCell (p := ⟨w.heap.size + 1, 0, none⟩) (fun _ => by simp) (.int .i64 ((y0 : Int) + 1))).setCell (p := ⟨w.heap.size + 1, 4, none⟩) (fun _ => by simp) (.int .i64 ((y4 : Int) + 1))).alloc (.cells #[.int .i64 xa, .int .i64 xb, .int .i64 xc, .bool false] 38)
                have RZ := row_alloc (((RA.out).set 0 (.int .i64 ((y0 : Int) + 1))).set 4 (.int .i64 ((y4 : Int) + 1))) (.cells #[.int .i64 xa, .int .i64 xb, .int .i64 xc, .bool false] 38)
                refine ⟨i + 1, hil, by go_num, ?_, ?_, ?_⟩
                · refine RZ.congr (fun q hq => ?_)
                  rw [cn_take l i hil k q hq, HX.out, PE.out q hq]
                  rcases (show q = 0 ∨ q = 1 ∨ q = 2 ∨ q = 3 ∨ q = 4 ∨ q = 5 by omega) with rfl | rfl | rfl | rfl | rfl | rfl <;> simp [Z0.out, Z1.out, Z2.out, Z3.out, Z4.out, Z5.out]
                · exact RBK.out _ KZ
                · exact KAK.out _ KZ
              case measure => simp [intOf]; omega
            · have ea : ((xa : Int) == (k : Int)) = true := by simp [ha]
              have na : ((xa : Int) != (k : Int)) = false := by simp [ha]
              have eb : ((xb : Int) == (k : Int)) = true := by simp [hb]
              have nb : ((xb : Int) != (k : Int)) = false := by simp [hb]
              have ec : ((xc : Int) == (k : Int)) = false := by simp; omega
              have nc : ((xc : Int) != (k : Int)) = true := by simp; omega
              have PE := hide (show ∀ q, q < 6 → pE ⟨xa, xb, xc, true⟩ k q = [true, false, false, false, true, true].getD q false from fun q hq => by
                rcases (show q = 0 ∨ q = 1 ∨ q = 2 ∨ q = 3 ∨ q = 4 ∨ q = 5 by omega) with rfl | rfl | rfl | rfl | rfl | rfl <;> simp [pE, ha, hb, hc])
              clear ha hb hc
              go_wp2
              go_roundw
              case rel =>
                have KZ := ((((Kept.refl [w.heap.size + 1] wr).setCell (p := ⟨w.heap.size + 1, 0, none⟩) (fun _ => by simp) (.int .i64 ((y0 : Int) + 1))).setCell (p := ⟨w.heap.size + 1, 4, none⟩) (fun _ => by simp) (.int .i64 ((y4 : Int) + 1))).setCell (p := ⟨w.heap.size + 1, 5, none⟩) (fun _ => by simp) (.int .i64 ((y5 : Int) + 1))).alloc (.cells #[.int .i64 xa, .int .i64 xb, .int .i64 xc, .bool true] 38)
                have RZ := row_alloc ((((RA.out).set 0 (.int .i64 ((y0 : Int) + 1))).set 4 (.int .i64 ((y4 : Int) + 1))).set 5 (.int .i64 ((y5 : Int) + 1))) (.cells #[.int .i64 xa, .int .i64 xb, .int .i64 xc, .bool true] 38)
                refine ⟨i + 1, hil, by go_num, ?_, ?_, ?_⟩
                · refine RZ.congr (fun q hq => ?_)
                  rw [cn_take l i hil k q hq, HX.out, PE.out q hq]
                  rcases (show q = 0 ∨ q = 1 ∨ q = 2 ∨ q = 3 ∨ q = 4 ∨ q = 5 by omega) with rfl | rfl | rfl | rfl | rfl | rfl <;> simp [Z0.out, Z1.out, Z2.out, Z3.out, Z4.out, Z5.out]
                · exact RBK.out _ KZ
                · exact KAK.out _ KZ
              case measure => simp [intOf]; omega
        · by_cases hc : xc = k
          · have ea : ((xa : Int) == (k : Int)) = true := by simp [ha]
            have na : ((xa : Int) != (k : Int)) = false := by simp [ha]
            have eb : ((xb : Int) == (k : Int)) = false := by simp; omega
            have nb : ((xb : Int) != (k : Int)) = true := by simp; omega
            have ec : ((xc : Int) == (k : Int)) = true := by simp [hc]
            have nc : ((xc : Int) != (k : Int)) = false := by simp [hc]
            have PE := hide (show ∀ q, q < 6 → pE ⟨xa, xb, xc, xd⟩ k q = [false, true, false, true, false, false].getD q false from fun q hq => by
              rcases (show q = 0 ∨ q = 1 ∨ q = 2 ∨ q = 3 ∨ q = 4 ∨ q = 5 by omega) with rfl | rfl | rfl | rfl | rfl | rfl <;> simp [pE, ha, hb, hc])
            clear ha hb hc
            go_wp2
            go_roundw
            case rel =>
              have KZ := (((Kept.refl [w.heap.size + 1] wr).setCell (p := ⟨w.heap.size + 1, 1, none⟩) (fun _ => by simp) (.int .i64 ((y1 : Int) + 1))).setCell (p := ⟨w.heap.size + 1, 3, none⟩) (fun _ => by simp) (.int .i64 ((y3 : Int) + 1))).alloc (.cells #[.int .i64 xa, .int .i64 xb, .int .i64 xc, .bool xd] 38)
              have RZ := row_alloc (((RA.out).set 1 (.int .i64 ((y1 : Int) + 1))).set 3 (.int .i64 ((y3 : Int) + 1))) (.cells #[.int .i64 xa, .int .i64 xb, .int .i64 xc, .bool xd] 38)
              refine ⟨i + 1, hil, by go_num, ?_, ?_, ?_⟩
              · refine RZ.congr (fun q hq => ?_)
                rw [cn_take l i hil k q hq, HX.out, PE.out q hq]
                rcases (show q = 0 ∨ q = 1 ∨ q = 2 ∨ q = 3 ∨ q = 4 ∨ q = 5 by omega) with rfl | rfl | rfl | rfl | rfl | rfl <;> simp [Z0.out, Z1.out, Z2.out, Z3.out, Z4.out, Z5.out]
              · exact RBK.out _ KZ
              · exact KAK.out _ KZ
            case measure => simp [intOf]; omega
          · have ea : ((xa : Int) == (k : Int)) = true := by simp [ha]
            have na : ((xa : Int) != (k : Int)) = false := by simp [ha]
            have eb : ((xb : Int) == (k : Int)) = false := by simp; omega
            have nb : ((xb : Int) != (k : Int)) = true := by simp; omega
            have ec : ((xc : Int) == (k : Int)) = false := by simp; omega
            have nc : ((xc : Int) != (k : Int)) = true := by simp; omega
            have PE := hide (show ∀ q, q < 6 → pE ⟨xa, xb, xc, xd⟩ k q = [false, true, false, false, true, false].getD q false from fun q hq => by
              rcases (show q = 0 ∨ q = 1 ∨ q = 2 ∨ q = 3 ∨ q = 4 ∨ q = 5 by omega) with rfl | rfl | rfl | rfl | rfl | rfl <;> simp [pE, ha, hb, hc])
            clear ha hb hc
            go_wp2
            go_roundw
            case rel =>
              have KZ := (((Kept.refl [w.heap.size + 1] wr).setCell (p := ⟨w.heap.size + 1, 1, none⟩) (fun _ => by simp) (.int .i64 ((y1 : Int) + 1))).setCell (p := ⟨w.heap.size + 1, 4, none⟩) (fun _ => by simp) (.int .i64 ((y4 : Int) + 1))).alloc (.cells #[.int .i64 xa, .int .i64 xb, .int .i64 xc, .bool xd] 38)
              have RZ := row_alloc (((RA.out).set 1 (.int .i64 ((y1 : Int) + 1))).set 4 (.int .i64 ((y4 : Int) + 1))) (.cells #[.int .i64 xa, .int .i64 xb, .int .i64 xc, .bool xd] 38)
              refine ⟨i + 1, hil, by go_num, ?_, ?_, ?_⟩
              · refine RZ.congr (fun q hq => ?_)
                rw [cn_take l i hil k q hq, HX.out, PE.out q hq]
                rcases (show q = 0 ∨ q = 1 ∨ q = 2 ∨ q = 3 ∨ q = 4 ∨ q = 5 by omega) with rfl | rfl | rfl | rfl | rfl | rfl <;> simp [Z0.out, Z1.out, Z2.out, Z3.out, Z4.out, Z5.out]
              · exact RBK.out _ KZ
              · exact KAK.out _ KZ
            case measure => simp [intOf]; omega
      · by_cases hb : xb = k
        · have ea : ((xa : Int) == (k : Int)) = false := by simp; omega
          have na : ((xa : Int) != (k : Int)) = true := by simp; omega
          have eb : ((xb : Int) == (k : Int)) = true := by simp [hb]
          have nb : ((xb : Int) != (k : Int)) = false := by simp [hb]
          have PE := hide (show ∀ q, q < 6 → pE ⟨xa, xb, xc, xd⟩ k q = [false, false, true, false, false, false].getD q false from fun q hq => by
            rcases (show q = 0 ∨ q = 1 ∨ q = 2 ∨ q = 3 ∨ q = 4 ∨ q = 5 by omega) with rfl | rfl | rfl | rfl | rfl | rfl <;> simp [pE, ha, hb])
          clear ha hb
          go_wp2
          go_roundw
          case rel =>
            have KZ := ((Kept.refl [w.heap.size + 1] wr).setCell (p := ⟨w.heap.size + 1, 2, none⟩) (fun _ => by simp) (.int .i64 ((y2 : Int) + 1))).alloc (.cells #[.int .i64 xa, .int .i64 xb, .int .i64 xc, .bool xd] 38)
            have RZ := row_alloc ((RA.out).set 2 (.int .i64 ((y2 : Int) + 1))) (.cells #[.int .i64 xa, .int .i64 xb, .int .i64 xc, .bool xd] 38)
            refine ⟨i + 1, hil, by go_num, ?_, ?_, ?_⟩
            · refine RZ.congr (fun q hq => ?_)
              rw [cn_take l i hil k q hq, HX.out, PE.out q hq]
              rcases (show q = 0 ∨ q = 1 ∨ q = 2 ∨ q = 3 ∨ q = 4 ∨ q = 5 by omega) with rfl | rfl | rfl | rfl | rfl | rfl <;> simp [Z0.out, Z1.out, Z2.out, Z3.out, Z4.out, Z5.out]
            · exact RBK.out _ KZ
            · exact KAK.out _ KZ
          case measure => simp [intOf]; omega
        · have ea : ((xa : Int) == (k : Int)) = false := by simp; omega
          have na : ((xa : Int) != (k : Int)) = true := by simp; omega
          have eb : ((xb : Int) == (k : Int)) = false := by simp; omega
          have nb : ((xb : Int) != (k : Int)) = true := by simp; omega
          have PE := hide (show ∀ q, q < 6 → pE ⟨xa, xb, xc, xd⟩ k q = [false, false, false, false, false, false].getD q false from fun q hq => by
            rcases (show q = 0 ∨ q = 1 ∨ q = 2 ∨ q = 3 ∨ q = 4 ∨ q = 5 by omega) with rfl | rfl | rfl | rfl | rfl | rfl <;> simp [pE, ha, hb])
          clear ha hb
          go_wp2
          go_roundw
          case rel =>
            have KZ := (Kept.refl [w.heap.size + 1] wr).alloc (.cells #[.int .i64 xa, .int .i64 xb, .int .i64 xc, .bool xd] 38)
            have RZ := row_alloc (RA.out) (.cells #[.int .i64 xa, .int .i64 xb, .int .i64 xc, .bool xd] 38)
            refine ⟨i + 1, hil, by go_num, ?_, ?_, ?_⟩
            · refine RZ.congr (fun q hq => ?_)
              rw [cn_take l i hil k q hq, HX.out, PE.out q hq]
              rcases (show q = 0 ∨ q = 1 ∨ q = 2 ∨ q = 3 ∨ q = 4 ∨ q = 5 by omega) with rfl | rfl | rfl | rfl | rfl | rfl <;> simp [Z0.out, Z1.out, Z2.out, Z3.out, Z4.out, Z5.out]
            · exact RBK.out _ KZ
            · exact KAK.out _ KZ
          case measure => simp [intOf]; omega
    · have hnl : ¬ (i : Int) < (l.length : Int) := by omega
      have hie : i = l.length := by omega
      subst hie
      rw [List.take_length] at HR
      have q0 : wr.cell? ⟨w.heap.size + 1, 0, none⟩ = some (.int .i64 (cn l (k * 6) : Nat)) := HR.out.cell (i := 0) (by omega)
      have q1 := HR.out.cell (i := 1) (by omega)
      have q2 := HR.out.cell (i := 2) (by omega)
      have q3 := HR.out.cell (i := 3) (by omega)
      have q4 := HR.out.cell (i := 4) (by omega)
      have q5 := HR.out.cell (i := 5) (by omega)
      have p0 := HR0.out.cell (i := 0) (by omega)
      have p1 := HR0.out.cell (i := 1) (by omega)
      have p2 := HR0.out.cell (i := 2) (by omega)
      have p3 := HR0.out.cell (i := 3) (by omega)
      have p4 := HR0.out.cell (i := 4) (by omega)
      have p5 := HR0.out.cell (i := 5) (by omega)
      have hfz := fun q => HR0.out.frozen q
      obtain ⟨y0, Y0⟩ : ∃ y, cn l (k * 6) = y := ⟨_, rfl⟩
      rw [Y0] at q0
      have Y0' := hide Y0
      obtain ⟨y1, Y1⟩ : ∃ y, cn l (k * 6 + 1) = y := ⟨_, rfl⟩
      rw [Y1] at q1
      have Y1' := hide Y1
      obtain ⟨y2, Y2⟩ : ∃ y, cn l (k * 6 + 2) = y := ⟨_, rfl⟩
      rw [Y2] at q2
      have Y2' := hide Y2
      obtain ⟨y3, Y3⟩ : ∃ y, cn l (k * 6 + 3) = y := ⟨_, rfl⟩
      rw [Y3] at q3
      have Y3' := hide Y3
      obtain ⟨y4, Y4⟩ : ∃ y, cn l (k * 6 + 4) = y := ⟨_, rfl⟩
      rw [Y4] at q4
      have Y4' := hide Y4
      obtain ⟨y5, Y5⟩ : ∃ y, cn l (k * 6 + 5) = y := ⟨_, rfl⟩
      rw [Y5] at q5
      have Y5' := hide Y5
      clear Y0 Y1 Y2 Y3 Y4 Y5
      go_wp2
      refine bodyPost_ret (by simp [results, Try.results13, go_sem, p0, p1, p2, p3, p4, p5]; try rfl) rfl ?_
      rw [Y0'.out, Y1'.out, Y2'.out, Y3'.out, Y4'.out, Y5'.out]
      refine ⟨rfl, ?_⟩
      have KZ := ((((((Kept.refl [w.heap.size] wr).setCell (p := ⟨w.heap.size, 0, none⟩) (fun _ => by simp) (.int .i64 y0)).setCell (p := ⟨w.heap.size, 1, none⟩) (fun _ => by simp) (.int .i64 y1)).setCell (p := ⟨w.heap.size, 2, none⟩) (fun _ => by simp) (.int .i64 y2)).setCell (p := ⟨w.heap.size, 3, none⟩) (fun _ => by simp) (.int .i64 y3)).setCell (p := ⟨w.heap.size, 4, none⟩) (fun _ => by simp) (.int .i64 y4)).setCell (p := ⟨w.heap.size, 5, none⟩) (fun _ => by simp) (.int .i64 y5)
      exact HK.out.trans KZ (fun x hx hl => by simp at hx; omega)
end Go.Proofs.Ytbejafjpdplofaa.St
