/-
  The walk of 'messuagelaw11.ChooseOnly', and the given statement of it.
-/
import Derived.Test.YtpnlialhefknnabChLaw
import Derived.Test.YtpnlialhefknnabPolRef
import Derived.Test.YtpnlialhefknnabTopoRef
import Derived.Test.YtpnlialhefknnabOpenTopo
import Derived.Test.YtpnlialhefknnabRows
import Derived.Deep.RegionHeld3
import Derived.BigRegion
namespace Go.Proofs.Ytpnlialhefknnab.LO
open Go.ChangeShapes Go.WideShapes Go.ChangeAt Go.RowKit TP ZN PO CH
theorem at_min {w : World} {cA : Option Addr} {cL : Nat} {cz : Nat → Int} {dA : Option Addr} {dL : Nat} {L : Nat → Nat} {Z : Nat → Nat → Int} (h : At w cA cL cz dA dL L Z) (a b : Nat) : At w cA (min cL a) cz dA (min dL b) L Z :=
  ⟨by have := h.cl; omega, by have := h.dl; omega, fun i hi => h.cpus i (by omega), fun r hr => h.rows r (by omega)⟩
theorem row4 (w : World) (t : TypeId) (a b c d : Value) : (w.alloc (.cells #[a, b, c, d] t)).rowIs w.heap.size t 4 (fun i => (#[a, b, c, d] : Array Value).getD i a) :=
  World.rowIs_alloc w #[a, b, c, d] t _ (by
    intro i hi
    match i, hi with
    | 0, _ => rfl
    | 1, _ => rfl
    | 2, _ => rfl
    | 3, _ => rfl)
theorem put4 {w : World} {b : Nat} {t : TypeId} {g : Nat → Value} (h : w.rowIs b t 4 g) (x y z u : Value) :
    (((((w.setCell ⟨b, 0, none⟩ x).setCell ⟨b, 1, none⟩ y).setCell ⟨b, 2, none⟩ z).setCell ⟨b, 3, none⟩ u).cell? ⟨b, 0, none⟩ = some x ∧ ((((w.setCell ⟨b, 0, none⟩ x).setCell ⟨b, 1, none⟩ y).setCell ⟨b, 2, none⟩ z).setCell ⟨b, 3, none⟩ u).cell? ⟨b, 1, none⟩ = some y ∧
    ((((w.setCell ⟨b, 0, none⟩ x).setCell ⟨b, 1, none⟩ y).setCell ⟨b, 2, none⟩ z).setCell ⟨b, 3, none⟩ u).cell? ⟨b, 2, none⟩ = some z ∧ ((((w.setCell ⟨b, 0, none⟩ x).setCell ⟨b, 1, none⟩ y).setCell ⟨b, 2, none⟩ z).setCell ⟨b, 3, none⟩ u).cell? ⟨b, 3, none⟩ = some u) ∧
    Kept [b] w ((((w.setCell ⟨b, 0, none⟩ x).setCell ⟨b, 1, none⟩ y).setCell ⟨b, 2, none⟩ z).setCell ⟨b, 3, none⟩ u) := by
  have h3 := (((h.set 0 x).set 1 y).set 2 z).set 3 u
  refine ⟨⟨(h3.cell (i := 0) (by omega)).trans (by simp), (h3.cell (i := 1) (by omega)).trans (by simp), (h3.cell (i := 2) (by omega)).trans (by simp), (h3.cell (i := 3) (by omega)).trans (by simp)⟩, ?_⟩
  exact ((((Kept.refl [b] w).setCell (fun _ => by simp) x).setCell (fun _ => by simp) y).setCell (fun _ => by simp) z).setCell (fun _ => by simp) u
/-- Three cells that lie where they lay. -/
theorem cells3 {w w1 : World} {M : List Nat} (hK : Kept M w w1) {b : Nat} {x y z : Value} (hb : b ∉ M) (h : w.cell? ⟨b, 0, none⟩ = some x ∧ w.cell? ⟨b, 1, none⟩ = some y ∧ w.cell? ⟨b, 2, none⟩ = some z) :
    w1.cell? ⟨b, 0, none⟩ = some x ∧ w1.cell? ⟨b, 1, none⟩ = some y ∧ w1.cell? ⟨b, 2, none⟩ = some z :=
  ⟨hK.cell h.1 hb, hK.cell h.2.1 hb, hK.cell h.2.2 hb⟩
theorem cells4 {w w1 : World} {M : List Nat} (hK : Kept M w w1) {b : Nat} {x y z u : Value} (hb : b ∉ M) (h : w.cell? ⟨b, 0, none⟩ = some x ∧ w.cell? ⟨b, 1, none⟩ = some y ∧ w.cell? ⟨b, 2, none⟩ = some z ∧ w.cell? ⟨b, 3, none⟩ = some u) :
    w1.cell? ⟨b, 0, none⟩ = some x ∧ w1.cell? ⟨b, 1, none⟩ = some y ∧ w1.cell? ⟨b, 2, none⟩ = some z ∧ w1.cell? ⟨b, 3, none⟩ = some u :=
  ⟨hK.cell h.1 hb, hK.cell h.2.1 hb, hK.cell h.2.2.1 hb, hK.cell h.2.2.2 hb⟩
theorem alloc3 (w : World) (t : TypeId) (x y z : Value) : (w.alloc (.cells #[x, y, z] t)).cell? ⟨w.heap.size, 0, none⟩ = some x ∧ (w.alloc (.cells #[x, y, z] t)).cell? ⟨w.heap.size, 1, none⟩ = some y ∧ (w.alloc (.cells #[x, y, z] t)).cell? ⟨w.heap.size, 2, none⟩ = some z := by simp
/-- The law's own variables lie where they lay. -/
structure ST (w : World) (n fr : Int) (cA : Option Addr) (cl cC : Nat) (dA : Option Addr) (dl dC : Nat) (m : Int) (s : Nat) (nd cpu cur : Int) (mA : Option Addr) (mL mC : Nat) (W : World) : Prop where
  kept : Kept [] w W
  t : W.cell? ⟨w.heap.size, 0, none⟩ = some (.int .i64 n) ∧ W.cell? ⟨w.heap.size, 1, none⟩ = some (.int .i64 fr) ∧ W.cell? ⟨w.heap.size, 2, none⟩ = some (.slice cA cl cC) ∧ W.cell? ⟨w.heap.size, 3, none⟩ = some (.slice dA dl dC)
  q : W.cell? ⟨w.heap.size + 1, 0, none⟩ = some (.int .i64 m) ∧ W.cell? ⟨w.heap.size + 1, 1, none⟩ = some (.int .u8 s) ∧ W.cell? ⟨w.heap.size + 1, 2, none⟩ = some (.int .i64 nd)
  a : W.cell? ⟨w.heap.size + 1 + 1, 0, none⟩ = some (.int .i64 cpu) ∧ W.cell? ⟨w.heap.size + 1 + 1, 1, none⟩ = some (.int .i64 cur) ∧ W.cell? ⟨w.heap.size + 1 + 1, 2, none⟩ = some (.slice mA mL mC)
theorem ST.next {w : World} {n fr : Int} {cA : Option Addr} {cl cC : Nat} {dA : Option Addr} {dl dC : Nat} {m : Int} {s : Nat} {nd cpu cur : Int} {mA : Option Addr} {mL mC : Nat} {W W' : World} (h : ST w n fr cA cl cC dA dl dC m s nd cpu cur mA mL mC W) (hk : Kept [] W W') : ST w n fr cA cl cC dA dl dC m s nd cpu cur mA mL mC W' :=
  ⟨h.kept.next hk, cells4 hk (by simp) h.t, cells3 hk (by simp) h.q, cells3 hk (by simp) h.a⟩
theorem ST.alloc {w : World} {n fr : Int} {cA : Option Addr} {cl cC : Nat} {dA : Option Addr} {dl dC : Nat} {m : Int} {s : Nat} {nd cpu cur : Int} {mA : Option Addr} {mL mC : Nat} {W : World} (h : ST w n fr cA cl cC dA dl dC m s nd cpu cur mA mL mC W) (o : Obj) : ST w n fr cA cl cC dA dl dC m s nd cpu cur mA mL mC (W.alloc o) :=
  h.next ((Kept.refl [] W).alloc o)
theorem ST.put {w : World} {n fr : Int} {cA : Option Addr} {cl cC : Nat} {dA : Option Addr} {dl dC : Nat} {m : Int} {s : Nat} {nd cpu cur : Int} {mA : Option Addr} {mL mC : Nat} {W : World} (h : ST w n fr cA cl cC dA dl dC m s nd cpu cur mA mL mC W) {bb : Nat} {g : Nat → Value} (hB : W.rowIs bb 33 3 g)
    (h0 : bb ≠ w.heap.size) (h1 : bb ≠ w.heap.size + 1) (h2 : bb ≠ w.heap.size + 1 + 1) (hle : w.heap.size ≤ bb) (x y z : Value) :
    ST w n fr cA cl cC dA dl dC m s nd cpu cur mA mL mC (((W.setCell ⟨bb, 0, none⟩ x).setCell ⟨bb, 1, none⟩ y).setCell ⟨bb, 2, none⟩ z) ∧
    (((W.setCell ⟨bb, 0, none⟩ x).setCell ⟨bb, 1, none⟩ y).setCell ⟨bb, 2, none⟩ z).cell? ⟨bb, 0, none⟩ = some x ∧ (((W.setCell ⟨bb, 0, none⟩ x).setCell ⟨bb, 1, none⟩ y).setCell ⟨bb, 2, none⟩ z).cell? ⟨bb, 1, none⟩ = some y ∧
    (((W.setCell ⟨bb, 0, none⟩ x).setCell ⟨bb, 1, none⟩ y).setCell ⟨bb, 2, none⟩ z).cell? ⟨bb, 2, none⟩ = some z := by
  obtain ⟨r0, r1, r2, hK⟩ := put3 hB x y z
  exact ⟨⟨h.kept.trans hK (fun v hv hl => by simp at hv; omega), cells4 hK (by simp; omega) h.t, cells3 hK (by simp; omega) h.q, cells3 hK (by simp; omega) h.a⟩, r0, r1, r2⟩
/-- Of what Node tells: an error of its own, or a node that was looked for. -/
theorem node_parts {n fr : Int} {cL : Nat} {cz : Nat → Int} {dL : Nat} {L : Nat → Nat} {Z : Nat → Nat → Int} {m : Int} {s : Nat} {nd cpu cur : Int} {mL : Nat} {mz : Nat → Bool} {x st cu e : Int} (h : NodeIs n fr cL cz dL L Z m s nd cpu cur mL mz x st cu e) :
    (e ≠ 0 ∧ e ≠ 5) ∨ (tchk n fr cL cz dL L Z = 0 ∧ chk m s nd n = 0 ∧ ∃ a : Nat, (a : Int) < n ∧ st = a ∧ ∃ r, NearIs (Z a) n.toNat (fun y => ND.hasB (permS m s nd n) y && mayB mL mz y) r ∧ x = (r.getD 0 : Nat) ∧ e = if r.isSome then 0 else 5) := by
  rcases h with ⟨h, -, -, -, e1⟩ | ⟨-, -, -, -, -, e1⟩ | ⟨-, k, -, -, h, -, -, -, e1⟩ | ⟨h1, k, -, -, h2, a, h3, -, h4, -, r, h5, h6, h7⟩
  · left
    refine ⟨by rw [e1]; exact h, ?_⟩
    rw [e1]
    unfold tchk
    repeat' split
    all_goals omega
  · left; omega
  · left
    refine ⟨by rw [e1]; exact h, ?_⟩
    rw [e1]
    unfold chk setE nodeE
    repeat' split
    all_goals omega
  · exact .inr ⟨h1, h2, a, h3, h4, r, h5, h6, h7⟩
/-- .. and the list of who may, too. -/
structure SB2 (w : World) (n fr : Int) (cA : Option Addr) (cl cC : Nat) (dA : Option Addr) (dl dC : Nat) (m : Int) (s : Nat) (nd cpu cur : Int) (mA : Option Addr) (mL mC : Nat) (w6 W : World) : Prop where
  st : ST w n fr cA cl cC dA dl dC m s nd cpu cur mA mL mC W
  k6 : Kept [] w6 W
theorem SB2.next {w : World} {n fr : Int} {cA : Option Addr} {cl cC : Nat} {dA : Option Addr} {dl dC : Nat} {m : Int} {s : Nat} {nd cpu cur : Int} {mA : Option Addr} {mL mC : Nat} {w6 W W' : World} (h : SB2 w n fr cA cl cC dA dl dC m s nd cpu cur mA mL mC w6 W) (hk : Kept [] W W') : SB2 w n fr cA cl cC dA dl dC m s nd cpu cur mA mL mC w6 W' := ⟨h.st.next hk, h.k6.next hk⟩
theorem SB2.alloc {w : World} {n fr : Int} {cA : Option Addr} {cl cC : Nat} {dA : Option Addr} {dl dC : Nat} {m : Int} {s : Nat} {nd cpu cur : Int} {mA : Option Addr} {mL mC : Nat} {w6 W : World} (h : SB2 w n fr cA cl cC dA dl dC m s nd cpu cur mA mL mC w6 W) (o : Obj) : SB2 w n fr cA cl cC dA dl dC m s nd cpu cur mA mL mC w6 (W.alloc o) := h.next ((Kept.refl [] W).alloc o)
/-- Where one alone may: it, or none. -/
theorem only_one {D : Nat → Int} {N ps k : Nat} (hk : k < N) : NearIs D N (fun y => ND.hasB ps y && mayB N (fun i => decide (i = k)) y) (if ND.hasB ps k = true then some k else none) := by
  by_cases hb : ND.hasB ps k = true
  · rw [if_pos hb]
    refine NearIs.mk (fun x hx => ?_) (fun h => by cases h)
    simp only [Option.some.injEq] at hx
    subst hx
    refine ⟨hk, by unfold mayB; simp [hb, hk], fun y hy hp => ?_⟩
    unfold mayB at hp
    simp at hp
    exact .inl hp.2.2
  · rw [if_neg hb]
    refine NearIs.mk (fun x hx => by cases hx) (fun _ y hy => ?_)
    show (ND.hasB ps y && mayB N (fun i => decide (i = k)) y) = false
    by_cases e : y = k
    · subst e
      rw [show ND.hasB ps y = false from by simpa using hb]; rfl
    · unfold mayB; simp [e]
set_option maxHeartbeats 4000000 in
set_option maxRecDepth 100000 in
theorem law_any {n fr : Int} {cA : Option Addr} {cL cC : Nat} {cz : Nat → Int} {dA : Option Addr} {dL dC : Nat} {L : Nat → Nat} {Z : Nat → Nat → Int} {w : World} (h : At w cA cL cz dA dL L Z) (hc : cL ≤ cC) (hd : dL ≤ dC)
    (m : Int) (s : Nat) (nd cpu cur : Int) (hs : s < 256) {mA : Option Addr} {mL mC : Nat}  :
    Calls Try.prog 6 #[tval n fr cA cL cC dA dL dC, pol m s nd, .agg #[.int .i64 cpu, .int .i64 cur, .slice mA mL mC]] w fun e w' => e = .returned (.bool true) ∧ Kept [] w w' := by
  have hT := tame_any n fr cA cL cC dA dL dC hc hd
  obtain ⟨cl, hcl⟩ : ∃ c, c = min cL 20 := ⟨_, rfl⟩
  obtain ⟨dl, hdl⟩ : ∃ c, c = min dL 10 := ⟨_, rfl⟩
  have hA : At w cA cl cz dA dl L Z := by rw [hcl, hdl]; exact at_min h 20 10
  rw [← hcl, ← hdl] at hT
  have hdl2 : dl ≤ dL := by omega
  have HA := hide hA
  clear h hcl hdl hA
  unfold tval at hT
  unfold tval pol
  go_enter Try.func6, Try.ntmps6
  go_wp2_with fail
  refine (hT _).mono ?_
  rintro e w1 ⟨rfl, hK⟩
  have k3 := (Kept.refl [] (w.alloc (.cells #[.int .i64 n, .int .i64 fr, .slice cA cL cC, .slice dA dL dC] 25)))
  have k2 := k3.alloc (.cells #[.int .i64 m, .int .u8 s, .int .i64 nd] 27)
  have k1 := k2.alloc (.cells #[.int .i64 cpu, .int .i64 cur, .slice mA mL mC] 30)
  have hB := hK.row (k1.row (row4 w 25 _ _ _ _) (by simp)) (by simp)
  have hs1 : ((w.alloc (.cells #[.int .i64 n, .int .i64 fr, .slice cA cL cC, .slice dA dL dC] 25)).alloc (.cells #[.int .i64 m, .int .u8 s, .int .i64 nd] 27)).heap.size = w.heap.size + 1 + 1 := by simp
  have hs0 : (w.alloc (.cells #[.int .i64 n, .int .i64 fr, .slice cA cL cC, .slice dA dL dC] 25)).heap.size = w.heap.size + 1 := by simp
  have qq := cells3 hK (by simp) (cells3 ((Kept.refl [] ((w.alloc (.cells #[.int .i64 n, .int .i64 fr, .slice cA cL cC, .slice dA dL dC] 25)).alloc (.cells #[.int .i64 m, .int .u8 s, .int .i64 nd] 27))).alloc (.cells #[.int .i64 cpu, .int .i64 cur, .slice mA mL mC] 30)) (by simp) (alloc3 (w.alloc (.cells #[.int .i64 n, .int .i64 fr, .slice cA cL cC, .slice dA dL dC] 25)) 27 (.int .i64 m) (.int .u8 s) (.int .i64 nd)))
  have aa := cells3 hK (by simp) (alloc3 ((w.alloc (.cells #[.int .i64 n, .int .i64 fr, .slice cA cL cC, .slice dA dL dC] 25)).alloc (.cells #[.int .i64 m, .int .u8 s, .int .i64 nd] 27)) 30 (.int .i64 cpu) (.int .i64 cur) (.slice mA mL mC))
  rw [hs0] at qq
  rw [hs1] at aa
  have z0 := hB.cell (i := 0) (by omega)
  have z1 := hB.cell (i := 1) (by omega)
  have z2 := hB.cell (i := 2) (by omega)
  have z3 := hB.cell (i := 3) (by omega)
  have y0 := hB.frozen 0
  have y1 := hB.frozen 1
  have y2 := hB.frozen 2
  have y3 := hB.frozen 3
  obtain ⟨tt, hK2⟩ := put4 hB (.int .i64 n) (.int .i64 fr) (.slice cA cl cC) (.slice dA dl dC)
  have qq := cells3 hK2 (b := w.heap.size + 1) (by simp) qq
  have aa := cells3 hK2 (b := w.heap.size + 1 + 1) (by simp; omega) aa
  have hK1 := hide ((((((Kept.refl [] w).alloc (.cells #[.int .i64 n, .int .i64 fr, .slice cA cL cC, .slice dA dL dC] 25)).alloc (.cells #[.int .i64 m, .int .u8 s, .int .i64 nd] 27)).alloc (.cells #[.int .i64 cpu, .int .i64 cur, .slice mA mL mC] 30)).next hK).trans hK2 (fun x hx hl => by simp at hx; omega))
  clear hK hK2 hB hs1 hs0 k1 k2 k3 hT
  go_wp2_with fail
  generalize (((w1.setCell ⟨w.heap.size, 0, none⟩ (.int .i64 n)).setCell ⟨w.heap.size, 1, none⟩ (.int .i64 fr)).setCell ⟨w.heap.size, 2, none⟩ (.slice cA cl cC)).setCell ⟨w.heap.size, 3, none⟩ (.slice dA dl dC) = w2 at tt qq aa hK1 ⊢
  clear z0 z1 z2 z3 y0 y1 y2 y3
  have S2 : ST w n fr cA cl cC dA dl dC m s nd cpu cur mA mL mC w2 := ⟨hK1.out, tt, qq, aa⟩
  have T2 := hide S2
  obtain ⟨t0, t1, t2, t3⟩ := tt
  obtain ⟨q0, q1, q2⟩ := qq
  obtain ⟨a0, a1, a2⟩ := aa
  clear hK1 S2
  refine (chooses_true _).mono ?_
  rintro e w3 ⟨rfl, hK3⟩
  have S3 := T2.out.next hK3
  have hchk := TR.check_any n fr cC dC (HA.out.kept S3.kept)
  unfold tval at hchk
  have T3 := hide S3
  obtain ⟨t0, t1, t2, t3⟩ := S3.t
  obtain ⟨q0, q1, q2⟩ := S3.q
  obtain ⟨a0, a1, a2⟩ := S3.a
  clear hK3 S3 T2
  go_wp2_with fail
  refine hchk.mono ?_
  rintro e w4 ⟨rfl, hK4⟩
  have S4 := T3.out.next hK4
  have T4 := hide S4
  obtain ⟨t0, t1, t2, t3⟩ := S4.t
  obtain ⟨q0, q1, q2⟩ := S4.q
  obtain ⟨a0, a1, a2⟩ := S4.a
  clear hK4 S4 T3 hchk
  by_cases hok : tchk n fr cl cz dl L Z = 0
  · have hpc := PR.check_any m s nd n hs
    unfold pol at hpc
    rw [hok]
    by_cases hp : chk m s nd n = 0
    · rw [hp] at hpc
      go_wp2_with fail
      refine (hpc _).mono ?_
      rintro e w5 ⟨rfl, hK5⟩
      have S5 := T4.out.next hK5
      have T5 := hide S5
      obtain ⟨t0, t1, t2, t3⟩ := S5.t
      obtain ⟨q0, q1, q2⟩ := S5.q
      obtain ⟨a0, a1, a2⟩ := S5.a
      clear hK5 S5 T4 hpc
      obtain ⟨⟨⟨n1, n8⟩, -, -, l1, l16⟩, hcp, hdp⟩ := tchk_ok hok
      obtain ⟨N, rfl⟩ := Int.eq_ofNat_of_zero_le (show 0 ≤ n by omega)
      obtain ⟨k, hkN, hkm⟩ := mod_small cur N (by omega) (by omega)
      have hkN' : k < N := by omega
      have hwN : IntKind.u64.wrap (N : Int) = (N : Int) := by rw [IntKind.wrap_u64]; omega
      have hmk := run_make_row' (P := Try.prog) 28 4 (.bool false) 1 Try.underlying28 (by kernel_rfl) rfl .i64 .i64 N (by omega) (by omega)
      have hR := World.rowIs_made w5 (.bool false) N 4
      have ck := hR.cell hkN'
      have fk := hR.frozen k
      have hR6 := hR.set k (.bool true)
      have hsz5 : w.heap.size ≤ w5.heap.size := T5.out.kept.size
      have n1 := World.new_ne w5 _ t0
      have n2 := World.new_ne w5 _ q0
      have n3 := World.new_ne w5 _ a0
      have hka := (Kept.refl [] w5).alloc (.cells (madeCells #[.bool false] N) 4)
      have hkb := (Kept.refl [w5.heap.size] (w5.alloc (.cells (madeCells #[.bool false] N) 4))).setCell (p := ⟨w5.heap.size, k, none⟩) (fun _ => by simp) (.bool true)
      have S6 : ST w N fr cA cl cC dA dl dC m s nd cpu cur mA mL mC ((w5.alloc (.cells (madeCells #[.bool false] N) 4)).setCell ⟨w5.heap.size, k, none⟩ (.bool true)) := by
        have S5' := T5.out.alloc (.cells (madeCells #[.bool false] N) 4)
        exact ⟨S5'.kept.trans hkb (fun x hx hl => by simp at hx; omega), cells4 hkb (by simpa using fun e => n1 e.symm) S5'.t, cells3 hkb (by simpa using fun e => n2 e.symm) S5'.q, cells3 hkb (by simpa using fun e => n3 e.symm) S5'.a⟩
      have hMb : IsBools ((w5.alloc (.cells (madeCells #[.bool false] N) 4)).setCell ⟨w5.heap.size, k, none⟩ (.bool true)) (some ⟨w5.heap.size, 0, none⟩) N (fun i => decide (i = k)) := by
        intro i hi
        refine ⟨_, _, rfl, ?_⟩
        have := hR6.cell hi
        rw [Nat.zero_add, this]
        by_cases e : i = k <;> simp [e]
      have T6 := hide S6
      have HM := hide hMb
      have HP := hide (And.intro hok (And.intro hp (And.intro hcp hdp)))
      clear hka hkb hR hR6 S6 hMb T5 hok hp hcp hdp
      go_wp2_with fail
      have hweq : (w5.alloc (.cells (madeCells #[.bool false] N) 4)).setCell ⟨w5.heap.size, k, none⟩ (.bool true) = w5.alloc (.cells ((madeCells #[.bool false] N).setIfInBounds k (.bool true)) 4) := by first | (simp [go_sem]; done) | rfl | (simp [World.setCell, World.alloc]; done)
      rw [hweq] at T6 HM
      clear hweq ck fk n1 n2 n3
      generalize w5.alloc (.cells ((madeCells #[.bool false] N).setIfInBounds k (.bool true)) 4) = w6 at T6 HM ⊢
      generalize w5.heap.size = mb at HM ⊢
      obtain ⟨kc, hkc, hkcm⟩ := mod_small cpu cl (by omega) (by omega)
      have hkc' : kc < cl := by omega
      have hwc : IntKind.u64.wrap (cl : Int) = (cl : Int) := by rw [IntKind.wrap_u64]; omega
      have l1i : (1 : Int) ≤ (cl : Int) := by omega
      have l0i : ¬ (cl = 0) := by omega
      have hkcm2 : IntKind.i64.wrap ((IntKind.u64.wrap cpu).tmod (cl : Int)) = (kc : Int) := by first | exact hkcm | (rw [IntKind.wrap_i64]; exact hkcm) | (rw [IntKind.wrap_i64]; unfold wrap64 at hkcm; exact hkcm)
      have l0b : ((cl : Int) == 0) = false := by simp; omega
      have SB : SB2 w N fr cA cl cC dA dl dC m s nd cpu cur mA mL mC w6 w6.drew := ⟨T6.out.next (Kept.refl [] w6).drew, (Kept.refl [] w6).drew⟩
      obtain ⟨t0, t1, t2, t3⟩ := T6.out.t
      obtain ⟨q0, q1, q2⟩ := T6.out.q
      obtain ⟨a0, a1, a2⟩ := T6.out.a
      have hM9 : ∀ W, SB2 w N fr cA cl cC dA dl dC m s nd cpu cur mA mL mC w6 W → Calls Try.prog 9 #[.agg #[.int .i64 N, .int .i64 fr, .slice cA cl cC, .slice dA dl dC]] W fun e w' => e = .returned (.agg #[.int .i64 N, .int .i64 fr, .slice cA cl cC, .slice dA dl dC]) ∧ Kept [] W w' := fun W _ => machine_any N fr cA cl cC dA dl dC W
      have hM10 : ∀ W, SB2 w N fr cA cl cC dA dl dC m s nd cpu cur mA mL mC w6 W → Calls Try.prog 10 #[.agg #[.int .i64 m, .int .u8 s, .int .i64 nd]] W fun e w' => e = .returned (.agg #[.int .i64 m, .int .u8 s, .int .i64 nd]) ∧ Kept [] W w' := fun W _ => rule_any m s nd W
      have hnode : ∀ W, SB2 w N fr cA cl cC dA dl dC m s nd cpu cur mA mL mC w6 W → Calls Try.prog 8 #[.agg #[.int .i64 N, .int .i64 fr, .slice cA cl cC, .slice dA dl dC], .agg #[.int .i64 m, .int .u8 s, .int .i64 nd], .int .i64 (kc : Int), .int .i64 cur, .slice (some ⟨mb, 0, none⟩) N N] W fun e w'' => ∃ x st cu er, e = .returned (.tuple #[.agg #[.int .i64 x, .int .i64 st, .int .i64 cu], .int .i64 er]) ∧
          NodeIs N fr cl cz dl L Z m s nd kc cur N (fun i => decide (i = k)) x st cu er ∧ Kept [] W w'' := fun W hW => node_any (HA.out.kept hW.st.kept) m s nd kc cur hs (HM.out.kept hW.k6) (by unfold maxLen; omega)
      have HN := hide hnode
      have n1 := World.new_ne w6 _ t0
      have n2 := World.new_ne w6 _ q0
      have n3 := World.new_ne w6 _ a0
      clear hnode
      refine (fun (rest : PLift (?T : Prop)) => ?main) (PLift.up ?rest)
      case main =>
        go_region_held3 (fun w' => w'.cell? ⟨w.heap.size, 0, none⟩ = some (.int .i64 (N : Int)) ∧ w'.cell? ⟨w.heap.size, 1, none⟩ = some (.int .i64 fr) ∧ w'.cell? ⟨w.heap.size, 2, none⟩ = some (.slice cA cl cC) ∧ w'.cell? ⟨w.heap.size, 3, none⟩ = some (.slice dA dl dC) ∧ w'.cell? ⟨w.heap.size + 1, 0, none⟩ = some (.int .i64 m) ∧ w'.cell? ⟨w.heap.size + 1, 1, none⟩ = some (.int .u8 s) ∧ w'.cell? ⟨w.heap.size + 1, 2, none⟩ = some (.int .i64 nd) ∧ w'.cell? ⟨w.heap.size + 1 + 1, 0, none⟩ = some (.int .i64 cpu) ∧ w'.cell? ⟨w.heap.size + 1 + 1, 1, none⟩ = some (.int .i64 cur) ∧ w'.cell? ⟨w.heap.size + 1 + 1, 2, none⟩ = some (.slice mA mL mC)) (go_keep) (first
          | (go_at_call 9; refine (hM9 _ SB).mono ?_; rintro e w7 ⟨rfl, hK7⟩; have S7 := SB.next hK7; obtain ⟨t0', t1', t2', t3'⟩ := S7.st.t; obtain ⟨q0', q1', q2'⟩ := S7.st.q; obtain ⟨a0', a1', a2'⟩ := S7.st.a; have := World.new_ne w7 _ t0'; have := World.new_ne w7 _ q0'; have := World.new_ne w7 _ a0')
          | (go_at_call 9; refine (hM9 _ (SB.alloc _)).mono ?_; rintro e w7 ⟨rfl, hK7⟩; have S7 := (SB.alloc _).next hK7; obtain ⟨t0', t1', t2', t3'⟩ := S7.st.t; obtain ⟨q0', q1', q2'⟩ := S7.st.q; obtain ⟨a0', a1', a2'⟩ := S7.st.a; have := World.new_ne w7 _ t0'; have := World.new_ne w7 _ q0'; have := World.new_ne w7 _ a0'; have hB7 : w7.rowIs w6.heap.size 33 3 (fun _ => .int .i64 0) := hK7.row (row3 w6.drew 33) (by simp))
          | (go_at_call 10; refine (hM10 _ S7).mono ?_; rintro e w8 ⟨rfl, hK8⟩; have S8 := S7.next hK8; obtain ⟨t0'', t1'', t2'', t3''⟩ := S8.st.t; obtain ⟨q0'', q1'', q2''⟩ := S8.st.q; obtain ⟨a0'', a1'', a2''⟩ := S8.st.a; have := World.new_ne w8 _ t0''; have := World.new_ne w8 _ q0''; have := World.new_ne w8 _ a0''; try (have hB8 := hK8.row hB7 (by simp)))
          | (go_at_call 10; refine (hM10 _ (S7.alloc _)).mono ?_; rintro e w8 ⟨rfl, hK8⟩; have S8 := (S7.alloc _).next hK8; obtain ⟨t0'', t1'', t2'', t3''⟩ := S8.st.t; obtain ⟨q0'', q1'', q2''⟩ := S8.st.q; obtain ⟨a0'', a1'', a2''⟩ := S8.st.a; have := World.new_ne w8 _ t0''; have := World.new_ne w8 _ q0''; have := World.new_ne w8 _ a0''; have hB8 := hK8.row (row3 w7 33) (by simp))
          | (go_at_call 8; refine (HN.out _ S8).mono ?_; rintro e w9 ⟨x, st, cu, er, rfl, hNI, hK9⟩; have S9 := S8.next hK9; obtain ⟨u0, u1, u2, u3⟩ := S9.st.t; obtain ⟨v0, v1, v2⟩ := S9.st.q; obtain ⟨x0, x1, x2⟩ := S9.st.a; have := World.new_ne w9 _ u0; have := World.new_ne w9 _ v0; have := World.new_ne w9 _ x0; try (have hB9 := hK9.row hB8 (by simp); have z0 := hB9.cell (i := 0) (by omega); have z1 := hB9.cell (i := 1) (by omega); have z2 := hB9.cell (i := 2) (by omega); have y0 := hB9.frozen 0; have y1 := hB9.frozen 1; have y2 := hB9.frozen 2))
          | (go_at_call 8; refine (HN.out _ (S8.alloc _)).mono ?_; rintro e w9 ⟨x, st, cu, er, rfl, hNI, hK9⟩; have S9 := (S8.alloc _).next hK9; obtain ⟨u0, u1, u2, u3⟩ := S9.st.t; obtain ⟨v0, v1, v2⟩ := S9.st.q; obtain ⟨x0, x1, x2⟩ := S9.st.a; have := World.new_ne w9 _ u0; have := World.new_ne w9 _ v0; have := World.new_ne w9 _ x0; have hB9 := hK9.row (row3 w8 33) (by simp); have z0 := hB9.cell (i := 0) (by omega); have z1 := hB9.cell (i := 1) (by omega); have z2 := hB9.cell (i := 2) (by omega); have y0 := hB9.frozen 0; have y1 := hB9.frozen 1; have y2 := hB9.frozen 2))
        · rename_i hHeld
          clear hHeld
          have S10 := S9.st.alloc (.cells #[.int .i64 x, .int .i64 st, .int .i64 cu] 33)
          obtain ⟨c0, c1, c2⟩ := alloc3 w9 33 (.int .i64 x) (.int .i64 st) (.int .i64 cu)
          generalize (w9.alloc (.cells #[.int .i64 x, .int .i64 st, .int .i64 cu] 33)) = W at S10 c0 c1 c2 ⊢
          generalize w9.heap.size = bc at c0 c1 c2 ⊢
          revert hNI S10 c0 c1 c2
          revert W bc x st cu er
          exact rest.down
        · rename_i hHeld
          clear hHeld
          obtain ⟨S10, c0, c1, c2⟩ := S9.st.put hB9 (by assumption) (by assumption) (by assumption) (by have := SB.st.kept.size; have := S7.st.kept.size; have := S8.st.kept.size; first | omega | (simp at *; omega)) (.int .i64 x) (.int .i64 st) (.int .i64 cu)
          generalize (((w9.setCell ⟨w8.heap.size, 0, none⟩ (.int .i64 x)).setCell ⟨w8.heap.size, 1, none⟩ (.int .i64 st)).setCell ⟨w8.heap.size, 2, none⟩ (.int .i64 cu)) = W at S10 c0 c1 c2 ⊢
          generalize w8.heap.size = bc at c0 c1 c2 ⊢
          revert hNI S10 c0 c1 c2
          revert W bc x st cu er
          exact rest.down
        · rename_i hHeld
          clear hHeld
          obtain ⟨S10, c0, c1, c2⟩ := S9.st.put hB9 (by assumption) (by assumption) (by assumption) (by have := SB.st.kept.size; have := S7.st.kept.size; have := S8.st.kept.size; first | omega | (simp at *; omega)) (.int .i64 x) (.int .i64 st) (.int .i64 cu)
          generalize (((w9.setCell ⟨w7.heap.size, 0, none⟩ (.int .i64 x)).setCell ⟨w7.heap.size, 1, none⟩ (.int .i64 st)).setCell ⟨w7.heap.size, 2, none⟩ (.int .i64 cu)) = W at S10 c0 c1 c2 ⊢
          generalize w7.heap.size = bc at c0 c1 c2 ⊢
          revert hNI S10 c0 c1 c2
          revert W bc x st cu er
          exact rest.down
        · rename_i hHeld
          clear hHeld
          obtain ⟨S10, c0, c1, c2⟩ := S9.st.put hB9 (by assumption) (by assumption) (by assumption) (by have := SB.st.kept.size; have := S7.st.kept.size; have := S8.st.kept.size; first | omega | (simp at *; omega)) (.int .i64 x) (.int .i64 st) (.int .i64 cu)
          generalize (((w9.setCell ⟨w6.heap.size, 0, none⟩ (.int .i64 x)).setCell ⟨w6.heap.size, 1, none⟩ (.int .i64 st)).setCell ⟨w6.heap.size, 2, none⟩ (.int .i64 cu)) = W at S10 c0 c1 c2 ⊢
          generalize w6.heap.size = bc at c0 c1 c2 ⊢
          revert hNI S10 c0 c1 c2
          revert W bc x st cu er
          exact rest.down
      case rest =>
        intro x st cu er W bc hNI S10 c0 c1 c2
        obtain ⟨hok, hp, -, -⟩ := HP.out
        have hps : (if m = 1 then s else ND.run 0 N) = permS m s nd N := by unfold permS; rw [if_pos hp, Int.toNat_natCast]
        have hperm := PR.permitted_ok m s nd N (by omega) n8
        rw [Int.toNat_natCast, hps] at hperm
        have hps2 : permS m s nd N < 256 := by
          rw [← hps]
          split
          · exact hs
          · exact ND.run_lt 0 _ (by omega)
        have hres : x = ((if ND.hasB (permS m s nd N) k = true then k else 0 : Nat) : Int) ∧ er = if ND.hasB (permS m s nd N) k = true then 0 else 5 := by
          rcases hNI with ⟨h, -⟩ | ⟨-, h, -⟩ | ⟨-, kk, -, -, h, -⟩ | ⟨-, kk, -, -, -, a, -, -, -, -, r, hr, hx, he⟩
          · exact absurd hok h
          · omega
          · exact absurd hp h
          · rw [Int.toNat_natCast] at hr
            have hu := hr.unique (only_one (ps := permS m s nd N) hkN')
            rw [hx, he, hu]
            by_cases hb : ND.hasB (permS m s nd N) k = true
            · simp [hb]
            · simp [hb]
        generalize permS m s nd N = ps at hperm hps2 hres
        unfold pol at hperm
        have hhas := NR.has_any ps k hps2
        obtain ⟨t0, t1, t2, t3⟩ := S10.t
        obtain ⟨q0, q1, q2⟩ := S10.q
        have TS := hide S10
        have HPm := hide hperm
        obtain ⟨hx, he⟩ := hres
        clear hNI S10 hok hp hps hperm HN hM9 hM10 SB T6 HM HA HP a0 a1 a2
        cases hb : ND.hasB ps k with
        | true =>
          rw [hb] at hx he hhas
          have hx' : x = (k : Int) := hx
          have he' : er = 0 := he
          clear hx he
          subst hx' he'
          go_wp2_with fail
          refine (HPm.out _).mono ?_
          rintro e w20 ⟨rfl, hK20⟩
          obtain ⟨c0, c1, c2⟩ := cells3 hK20 (by simp) ⟨c0, c1, c2⟩
          have K20 := hide (TS.out.kept.next hK20)
          clear hK20
          go_wp2_with (go_at_call 14; refine (hhas _).mono ?_; rintro e w' ⟨rfl, hw⟩; subst w')
          go_ret
          exact ⟨by simp, K20.out⟩
        | false =>
          rw [hb] at hx he hhas
          have hx' : x = 0 := hx
          have he' : er = 5 := he
          clear hx he
          subst hx' he'
          go_wp2_with fail
          refine (HPm.out _).mono ?_
          rintro e w20 ⟨rfl, hK20⟩
          obtain ⟨c0, c1, c2⟩ := cells3 hK20 (by simp) ⟨c0, c1, c2⟩
          have K20 := hide (TS.out.kept.next hK20)
          clear hK20
          go_wp2_with (go_at_call 14; refine (hhas _).mono ?_; rintro e w' ⟨rfl, hw⟩; subst w')
          go_ret
          exact ⟨by simp, K20.out⟩
    · have hne : (chk m s nd n != 0) = true := by simpa using hp
      generalize chk m s nd n = c at hpc hne
      clear hp
      go_wp2_with fail
      refine (hpc _).mono ?_
      rintro e w5 ⟨rfl, hK5⟩
      have K5 := hide (T4.out.kept.next hK5)
      clear hK5 T4 hpc t0 t1 t2 t3 q0 q1 q2 a0 a1 a2
      go_wp2_with fail
      refine (chooses_true _).mono ?_
      rintro e w6 ⟨rfl, hK6⟩
      have K6 := hide (K5.out.next hK6)
      clear hK6
      go_wp2
      go_ret
      exact ⟨rfl, K6.out⟩
  · have hne : (tchk n fr cl cz dl L Z != 0) = true := by simpa using hok
    generalize tchk n fr cl cz dl L Z = c at hne ⊢
    have K4 := hide T4.out.kept
    clear hok T4 t0 t1 t2 t3 q0 q1 q2 a0 a1 a2
    go_wp2_with fail
    refine (chooses_true _).mono ?_
    rintro e w6 ⟨rfl, hK6⟩
    have K6 := hide (K4.out.next hK6)
    clear hK6
    go_wp2
    go_ret
    exact ⟨rfl, K6.out⟩

theorem own : ownKnob Try.prog.godebug = none := by kernel_rfl
theorem laidOut : laidOutB Try.prog = true := by kernel_rfl

set_option maxRecDepth 100000 in
theorem lifted (os : Os) (started : os.Started) (H : Type) (enc : TypeId × Value → H) :
    ReturnsInHanded {} Try.checked os 6 .any (Rows.chooseOnlySpec.pre6 enc Try.prog Try.f6 Rows.chooseOnlyRow.domain false) (Rows.chooseOnlySpec.post enc Try.prog Try.f6 false true false false) := by
  refine returnsInHanded_of_change (C := Try.checked) own started (by kernel_rfl) Try.func6
    (ChangeSpec.witness6 (enc := enc) (C := Try.checked) false ⟨#[], #[.agg #[.int .i64 0, .int .i64 0, .slice none 0 0, .slice none 0 0], .agg #[.int .i64 0, .int .u8 0, .int .i64 0], .agg #[.int .i64 0, .int .i64 0, .slice none 0 0]], []⟩ 8 (by kernel_rfl) (by kernel_rfl) (by kernel_rfl) (by kernel_rfl)) ?_
  intro W base args ds gs before hval0 hW hcnd _
  have hval : ∀ (j : Nat) t v, Try.f6.params[j]? = some t → args[j]? = some v → Value.okWide Try.prog W .any base t v := hval0
  have hW' := hW
  obtain ⟨p, q, hA0, hV, rfl, hfz, hnd⟩ := hW
  have hA : DataW.TrodAll enc Try.prog W 0 (fun _ => true) true Try.f6.params.toList args.toList ds p := hA0
  have hK := hA
  rw [Try.params6] at hA hval
  obtain ⟨v0, vs0, d0, ds0, p0, q0, hargs, rfl, rfl, h0, r0⟩ := trodAll_cons hA
  obtain ⟨v1, vs1, d1, ds1, p1, q1, rfl, rfl, rfl, h1, r1⟩ := trodAll_cons r0
  obtain ⟨v2, vs2, d2, ds2, p2, q2, rfl, rfl, rfl, h2, r2⟩ := trodAll_cons r1
  obtain ⟨rfl, rfl, rfl⟩ := trodAll_nil r2
  obtain rfl : args = #[v0, v1, v2] := by cases args; simp_all
  obtain ⟨rfl, rfl⟩ := trodVars_none hV
  obtain ⟨n, fr, cA, cL, cC, cz, dA, dL, dC, L, Z, rfl, hc, hd, wn, wfr, hAt⟩ := open_topo (e2 := 3) (e3 := 22) (q3 := 3) Try.underlying25 (by kernel_rfl) rfl rfl rfl rfl (by kernel_rfl) (by kernel_rfl) (by kernel_rfl) (by kernel_rfl) (by kernel_rfl) (by kernel_rfl) (by kernel_rfl) (by kernel_rfl) (by kernel_rfl) (by kernel_rfl) (by kernel_rfl) (by kernel_rfl) (by kernel_rfl) (by kernel_rfl) h0
  obtain ⟨m, s, nd, rfl, wf1a, wf1b, wf1c⟩ := open_agg3 (k0 := .i64) (k1 := .u8) (k2 := .i64) Try.underlying27 (by kernel_rfl) rfl rfl rfl (by kernel_rfl) (by kernel_rfl) (by kernel_rfl) (by kernel_rfl) (by kernel_rfl) (by kernel_rfl) h1
  obtain ⟨sn, rfl⟩ := Int.eq_ofNat_of_zero_le (bounds_u8 wf1b).1
  have hs : sn < 256 := by have := (bounds_u8 wf1b).2; omega
  obtain ⟨cpu, cur, mA, mL, mC, mz, rfl, hm1, hm2, hm3, wc, wcu, hMb⟩ := open_ask (e2 := 4) Try.underlying30 (by kernel_rfl) rfl rfl rfl (by kernel_rfl) (by kernel_rfl) (by kernel_rfl) (by kernel_rfl) (by kernel_rfl) (by kernel_rfl) (by kernel_rfl) (by kernel_rfl) h2
  clear hA0 hval0
  refine (law_any hAt hc hd m sn nd cpu cur hs).mono fun e W' ⟨he, hk⟩ => ?_
  subst he
  exact ⟨_, rfl, _, _, _, [], _, [], hW', trodAll_mk1 (shut_bool Try.underlying4 _), trodAll_below laidOut hk.below _ _ _ _ hK (by kernel_rfl), rfl, hk.below.frame _, fun h => by cases h⟩

theorem said : Rows.ChooseOnlySaid :=
  OpenClaim.holds_of_wide 6 Try.f6 rfl rfl rfl rfl rfl rfl rfl ⟨rfl, rfl, rfl, rfl, rfl⟩ rfl rfl rfl rfl rfl (by kernel_rfl) Try.func6 (by kernel_rfl)
    (of_decide_eq_true (by kernel_rfl)) (by unfold Func.isWrapper; first | (rw [if_pos (by decide +kernel)]; kernel_rfl) | (rw [if_neg (by decide +kernel)]; exact ⟨rfl, rfl⟩))
    (fun os started H enc _ => lifted os started H enc)
end Go.Proofs.Ytpnlialhefknnab.LO
