/-
  The walk of 'messuagelaw11.ChooseTells', and the given statement of it.
-/
import Derived.Test.YtnokpecdkibddacChLaw
import Derived.Test.YtnokpecdkibddacChRef
import Derived.Test.YtnokpecdkibddacPolRef
import Derived.Test.YtnokpecdkibddacTopoRef
import Derived.Test.YtnokpecdkibddacOpenTopo
import Derived.Test.YtnokpecdkibddacRows
import Derived.BigRegion
import Derived.BigQuiet
import Derived.Deep.RegionHeld3
namespace Go.Proofs.Ytnokpecdkibddac.LT
open Go.ChangeShapes Go.WideShapes Go.ChangeAt Go.RowKit TP ZN PO CH
theorem infoB : (Try.prog.info? 4).map (fun i => (i.zero, i.size, i.bytes)) = some (some (.bool false), 1, 1) := by kernel_rfl
theorem at_min {w : World} {cA : Option Addr} {cL : Nat} {cz : Nat → Int} {dA : Option Addr} {dL : Nat} {L : Nat → Nat} {Z : Nat → Nat → Int} (h : At w cA cL cz dA dL L Z) (a b : Nat) : At w cA (min cL a) cz dA (min dL b) L Z :=
  ⟨by have := h.cl; omega, by have := h.dl; omega, fun i hi => h.cpus i (by omega), fun r hr => h.rows r (by omega)⟩
theorem row4 (w : World) (t : TypeId) (a b c d : Value) : (w.alloc (.cells #[a, b, c, d] t)).rowIs w.heap.size t 4 (fun i => (#[a, b, c, d] : Array Value).getD i a) :=
  World.rowIs_alloc w #[a, b, c, d] t _ (by
    intro i hi
    match i, hi with
    | 0, _ => rfl
    | 1, _ => rfl
    | 2, _ => rfl
    | 3, _ => rfl)
theorem put4 {w : World} {b : Nat} {t : TypeId} {g : Nat → Value} (h : w.rowIs b t 4 g) (x y z u : Value) :
    (((((w.setCell ⟨b, 0, none⟩ x).setCell ⟨b, 1, none⟩ y).setCell ⟨b, 2, none⟩ z).setCell ⟨b, 3, none⟩ u).cell? ⟨b, 0, none⟩ = some x ∧ ((((w.setCell ⟨b, 0, none⟩ x).setCell ⟨b, 1, none⟩ y).setCell ⟨b, 2, none⟩ z).setCell ⟨b, 3, none⟩ u).cell? ⟨b, 1, none⟩ = some y ∧
    ((((w.setCell ⟨b, 0, none⟩ x).setCell ⟨b, 1, none⟩ y).setCell ⟨b, 2, none⟩ z).setCell ⟨b, 3, none⟩ u).cell? ⟨b, 2, none⟩ = some z ∧ ((((w.setCell ⟨b, 0, none⟩ x).setCell ⟨b, 1, none⟩ y).setCell ⟨b, 2, none⟩ z).setCell ⟨b, 3, none⟩ u).cell? ⟨b, 3, none⟩ = some u) ∧
    Kept [b] w ((((w.setCell ⟨b, 0, none⟩ x).setCell ⟨b, 1, none⟩ y).setCell ⟨b, 2, none⟩ z).setCell ⟨b, 3, none⟩ u) := by
  have h3 := (((h.set 0 x).set 1 y).set 2 z).set 3 u
  refine ⟨⟨(h3.cell (i := 0) (by omega)).trans (by simp), (h3.cell (i := 1) (by omega)).trans (by simp), (h3.cell (i := 2) (by omega)).trans (by simp), (h3.cell (i := 3) (by omega)).trans (by simp)⟩, ?_⟩
  exact ((((Kept.refl [b] w).setCell (fun _ => by simp) x).setCell (fun _ => by simp) y).setCell (fun _ => by simp) z).setCell (fun _ => by simp) u
/-- Three cells that lie where they lay. -/
theorem cells3 {w w1 : World} {M : List Nat} (hK : Kept M w w1) {b : Nat} {x y z : Value} (hb : b ∉ M) (h : w.cell? ⟨b, 0, none⟩ = some x ∧ w.cell? ⟨b, 1, none⟩ = some y ∧ w.cell? ⟨b, 2, none⟩ = some z) :
    w1.cell? ⟨b, 0, none⟩ = some x ∧ w1.cell? ⟨b, 1, none⟩ = some y ∧ w1.cell? ⟨b, 2, none⟩ = some z :=
  ⟨hK.cell h.1 hb, hK.cell h.2.1 hb, hK.cell h.2.2 hb⟩
theorem cells4 {w w1 : World} {M : List Nat} (hK : Kept M w w1) {b : Nat} {x y z u : Value} (hb : b ∉ M) (h : w.cell? ⟨b, 0, none⟩ = some x ∧ w.cell? ⟨b, 1, none⟩ = some y ∧ w.cell? ⟨b, 2, none⟩ = some z ∧ w.cell? ⟨b, 3, none⟩ = some u) :
    w1.cell? ⟨b, 0, none⟩ = some x ∧ w1.cell? ⟨b, 1, none⟩ = some y ∧ w1.cell? ⟨b, 2, none⟩ = some z ∧ w1.cell? ⟨b, 3, none⟩ = some u :=
  ⟨hK.cell h.1 hb, hK.cell h.2.1 hb, hK.cell h.2.2.1 hb, hK.cell h.2.2.2 hb⟩
theorem alloc3 (w : World) (t : TypeId) (x y z : Value) : (w.alloc (.cells #[x, y, z] t)).cell? ⟨w.heap.size, 0, none⟩ = some x ∧ (w.alloc (.cells #[x, y, z] t)).cell? ⟨w.heap.size, 1, none⟩ = some y ∧ (w.alloc (.cells #[x, y, z] t)).cell? ⟨w.heap.size, 2, none⟩ = some z := by simp
/-- The law's own variables lie where they lay. -/
structure ST (w : World) (n fr : Int) (cA : Option Addr) (cl cC : Nat) (dA : Option Addr) (dl dC : Nat) (m : Int) (s : Nat) (nd cpu cur : Int) (mA : Option Addr) (mL mC : Nat) (W : World) : Prop where
  kept : Kept [] w W
  t : W.cell? ⟨w.heap.size, 0, none⟩ = some (.int .i64 n) ∧ W.cell? ⟨w.heap.size, 1, none⟩ = some (.int .i64 fr) ∧ W.cell? ⟨w.heap.size, 2, none⟩ = some (.slice cA cl cC) ∧ W.cell? ⟨w.heap.size, 3, none⟩ = some (.slice dA dl dC)
  q : W.cell? ⟨w.heap.size + 1, 0, none⟩ = some (.int .i64 m) ∧ W.cell? ⟨w.heap.size + 1, 1, none⟩ = some (.int .u8 s) ∧ W.cell? ⟨w.heap.size + 1, 2, none⟩ = some (.int .i64 nd)
  a : W.cell? ⟨w.heap.size + 1 + 1, 0, none⟩ = some (.int .i64 cpu) ∧ W.cell? ⟨w.heap.size + 1 + 1, 1, none⟩ = some (.int .i64 cur) ∧ W.cell? ⟨w.heap.size + 1 + 1, 2, none⟩ = some (.slice mA mL mC)
theorem ST.next {w : World} {n fr : Int} {cA : Option Addr} {cl cC : Nat} {dA : Option Addr} {dl dC : Nat} {m : Int} {s : Nat} {nd cpu cur : Int} {mA : Option Addr} {mL mC : Nat} {W W' : World} (h : ST w n fr cA cl cC dA dl dC m s nd cpu cur mA mL mC W) (hk : Kept [] W W') : ST w n fr cA cl cC dA dl dC m s nd cpu cur mA mL mC W' :=
  ⟨h.kept.next hk, cells4 hk (by simp) h.t, cells3 hk (by simp) h.q, cells3 hk (by simp) h.a⟩
theorem ST.alloc {w : World} {n fr : Int} {cA : Option Addr} {cl cC : Nat} {dA : Option Addr} {dl dC : Nat} {m : Int} {s : Nat} {nd cpu cur : Int} {mA : Option Addr} {mL mC : Nat} {W : World} (h : ST w n fr cA cl cC dA dl dC m s nd cpu cur mA mL mC W) (o : Obj) : ST w n fr cA cl cC dA dl dC m s nd cpu cur mA mL mC (W.alloc o) :=
  h.next ((Kept.refl [] W).alloc o)
theorem ST.put {w : World} {n fr : Int} {cA : Option Addr} {cl cC : Nat} {dA : Option Addr} {dl dC : Nat} {m : Int} {s : Nat} {nd cpu cur : Int} {mA : Option Addr} {mL mC : Nat} {W : World} (h : ST w n fr cA cl cC dA dl dC m s nd cpu cur mA mL mC W) {bb : Nat} {g : Nat → Value} (hB : W.rowIs bb 33 3 g)
    (h0 : bb ≠ w.heap.size) (h1 : bb ≠ w.heap.size + 1) (h2 : bb ≠ w.heap.size + 1 + 1) (hle : w.heap.size ≤ bb) (x y z : Value) :
    ST w n fr cA cl cC dA dl dC m s nd cpu cur mA mL mC (((W.setCell ⟨bb, 0, none⟩ x).setCell ⟨bb, 1, none⟩ y).setCell ⟨bb, 2, none⟩ z) ∧
    (((W.setCell ⟨bb, 0, none⟩ x).setCell ⟨bb, 1, none⟩ y).setCell ⟨bb, 2, none⟩ z).cell? ⟨bb, 0, none⟩ = some x ∧ (((W.setCell ⟨bb, 0, none⟩ x).setCell ⟨bb, 1, none⟩ y).setCell ⟨bb, 2, none⟩ z).cell? ⟨bb, 1, none⟩ = some y ∧
    (((W.setCell ⟨bb, 0, none⟩ x).setCell ⟨bb, 1, none⟩ y).setCell ⟨bb, 2, none⟩ z).cell? ⟨bb, 2, none⟩ = some z := by
  obtain ⟨r0, r1, r2, hK⟩ := put3 hB x y z
  exact ⟨⟨h.kept.trans hK (fun v hv hl => by simp at hv; omega), cells4 hK (by simp; omega) h.t, cells3 hK (by simp; omega) h.q, cells3 hK (by simp; omega) h.a⟩, r0, r1, r2⟩
/-- Of what Node tells: an error of its own, or a node that was looked for. -/
theorem node_parts {n fr : Int} {cL : Nat} {cz : Nat → Int} {dL : Nat} {L : Nat → Nat} {Z : Nat → Nat → Int} {m : Int} {s : Nat} {nd cpu cur : Int} {mL : Nat} {mz : Nat → Bool} {x st cu e : Int} (h : NodeIs n fr cL cz dL L Z m s nd cpu cur mL mz x st cu e) :
    (e ≠ 0 ∧ e ≠ 5) ∨ (tchk n fr cL cz dL L Z = 0 ∧ chk m s nd n = 0 ∧ ∃ a : Nat, (a : Int) < n ∧ st = a ∧ ∃ r, NearIs (Z a) n.toNat (fun y => ND.hasB (permS m s nd n) y && mayB mL mz y) r ∧ x = (r.getD 0 : Nat) ∧ e = if r.isSome then 0 else 5) := by
  rcases h with ⟨h, -, -, -, e1⟩ | ⟨-, -, -, -, -, e1⟩ | ⟨-, k, -, -, h, -, -, -, e1⟩ | ⟨h1, k, -, -, h2, a, h3, -, h4, -, r, h5, h6, h7⟩
  · left
    refine ⟨by rw [e1]; exact h, ?_⟩
    rw [e1]
    unfold tchk
    repeat' split
    all_goals omega
  · left; omega
  · left
    refine ⟨by rw [e1]; exact h, ?_⟩
    rw [e1]
    unfold chk setE nodeE
    repeat' split
    all_goals omega
  · exact .inr ⟨h1, h2, a, h3, h4, r, h5, h6, h7⟩
/-- .. and the list of who may, too. -/
structure SB2 (w : World) (n fr : Int) (cA : Option Addr) (cl cC : Nat) (dA : Option Addr) (dl dC : Nat) (m : Int) (s : Nat) (nd cpu cur : Int) (mA : Option Addr) (mL mC : Nat) (w6 W : World) : Prop where
  st : ST w n fr cA cl cC dA dl dC m s nd cpu cur mA mL mC W
  k6 : Kept [] w6 W
theorem SB2.next {w : World} {n fr : Int} {cA : Option Addr} {cl cC : Nat} {dA : Option Addr} {dl dC : Nat} {m : Int} {s : Nat} {nd cpu cur : Int} {mA : Option Addr} {mL mC : Nat} {w6 W W' : World} (h : SB2 w n fr cA cl cC dA dl dC m s nd cpu cur mA mL mC w6 W) (hk : Kept [] W W') : SB2 w n fr cA cl cC dA dl dC m s nd cpu cur mA mL mC w6 W' := ⟨h.st.next hk, h.k6.next hk⟩
theorem SB2.alloc {w : World} {n fr : Int} {cA : Option Addr} {cl cC : Nat} {dA : Option Addr} {dl dC : Nat} {m : Int} {s : Nat} {nd cpu cur : Int} {mA : Option Addr} {mL mC : Nat} {w6 W : World} (h : SB2 w n fr cA cl cC dA dl dC m s nd cpu cur mA mL mC w6 W) (o : Obj) : SB2 w n fr cA cl cC dA dl dC m s nd cpu cur mA mL mC w6 (W.alloc o) := h.next ((Kept.refl [] W).alloc o)
theorem SB2.put {w : World} {n fr : Int} {cA : Option Addr} {cl cC : Nat} {dA : Option Addr} {dl dC : Nat} {m : Int} {s : Nat} {nd cpu cur : Int} {mA : Option Addr} {mL mC : Nat} {w6 W : World} (h : SB2 w n fr cA cl cC dA dl dC m s nd cpu cur mA mL mC w6 W) {bb : Nat} {g : Nat → Value} (hB : W.rowIs bb 33 3 g)
    (h0 : bb ≠ w.heap.size) (h1 : bb ≠ w.heap.size + 1) (h2 : bb ≠ w.heap.size + 1 + 1) (hle : w.heap.size ≤ bb) (hle6 : w6.heap.size ≤ bb) (x y z : Value) :
    SB2 w n fr cA cl cC dA dl dC m s nd cpu cur mA mL mC w6 (((W.setCell ⟨bb, 0, none⟩ x).setCell ⟨bb, 1, none⟩ y).setCell ⟨bb, 2, none⟩ z) ∧
    (((W.setCell ⟨bb, 0, none⟩ x).setCell ⟨bb, 1, none⟩ y).setCell ⟨bb, 2, none⟩ z).cell? ⟨bb, 0, none⟩ = some x ∧ (((W.setCell ⟨bb, 0, none⟩ x).setCell ⟨bb, 1, none⟩ y).setCell ⟨bb, 2, none⟩ z).cell? ⟨bb, 1, none⟩ = some y ∧
    (((W.setCell ⟨bb, 0, none⟩ x).setCell ⟨bb, 1, none⟩ y).setCell ⟨bb, 2, none⟩ z).cell? ⟨bb, 2, none⟩ = some z := by
  obtain ⟨s, r0, r1, r2⟩ := h.st.put hB h0 h1 h2 hle x y z
  obtain ⟨-, -, -, hK⟩ := put3 hB x y z
  exact ⟨⟨s, h.k6.trans hK (fun v hv hl => by simp at hv; omega)⟩, r0, r1, r2⟩
theorem eq3 (d : Nat) (a c : Int) (w : World) : (Op.equalIn (d + 1) 3 (.int .i64 a) (.int .i64 c)).run Try.prog w = .ok (a == c) w := by
  simp [Op.equalIn, run_underlying Try.underlying3]
theorem eq43' (d : Nat) (a b c : Int) (w : World) : (Op.equalIn (d + 2) 43 (.agg #[.int .i64 a, .int .i64 b, .int .i64 c]) (.agg #[.int .i64 a, .int .i64 b, .int .i64 c])).run Try.prog w = .ok true w := by
  rw [Op.equalIn]
  simp only [Sem.run_bind, run_underlying Try.underlying43, Result.andThen_ok]
  have h0 : ∀ (x y z : Value) (w : World), (part 3 #[x, y, z] 0).run Try.prog w = .ok x w := fun x y z w => by simp [part, Try.isAgg3]
  have h1 : ∀ (x y z : Value) (w : World), (part 3 #[x, y, z] 1).run Try.prog w = .ok y w := fun x y z w => by simp [part, Try.isAgg3]
  have h2 : ∀ (x y z : Value) (w : World), (part 3 #[x, y, z] 2).run Try.prog w = .ok z w := fun x y z w => by simp [part, Try.isAgg3]
  simp only [Try.sizeOf3, Result.andThen_ok]
  rw [Std.Legacy.Range.forIn_eq_forIn_range']
  simp [List.range', h0, h1, h2, eq3]
theorem eq43 (a b c : Int) (w : World) : (Op.equalIn 10000 43 (.agg #[.int .i64 a, .int .i64 b, .int .i64 c]) (.agg #[.int .i64 a, .int .i64 b, .int .i64 c])).run Try.prog w = .ok true w := eq43' 9998 a b c w
theorem node_unique {n fr : Int} {cL : Nat} {cz : Nat → Int} {dL : Nat} {L : Nat → Nat} {Z : Nat → Nat → Int} {m : Int} {s : Nat} {nd cpu cur : Int} {mL : Nat} {mz : Nat → Bool} {x st cu e x' st' cu' e' : Int} (h : NodeIs n fr cL cz dL L Z m s nd cpu cur mL mz x st cu e) (h' : NodeIs n fr cL cz dL L Z m s nd cpu cur mL mz x' st' cu' e') :
    x = x' ∧ st = st' ∧ cu = cu' ∧ e = e' := by
  rcases h with ⟨h, a1, a2, a3, a4⟩ | ⟨h, h1, a1, a2, a3, a4⟩ | ⟨h, k, hk, hk2, h1, a1, a2, a3, a4⟩ | ⟨h, k, hk, hk2, h1, a, a1, a2, a3, a4, r, a5, a6, a7⟩
  · rcases h' with ⟨g, b1, b2, b3, b4⟩ | ⟨g, -⟩ | ⟨g, -⟩ | ⟨g, -⟩
    · exact ⟨by omega, by omega, by omega, by omega⟩
    · exact absurd g h
    · exact absurd g h
    · exact absurd g h
  · rcases h' with ⟨g, -⟩ | ⟨g, g1, b1, b2, b3, b4⟩ | ⟨g, j, hj, hj2, -⟩ | ⟨g, j, hj, hj2, -⟩
    · exact absurd h g
    · exact ⟨by omega, by omega, by omega, by omega⟩
    · exact absurd ⟨by omega, by omega⟩ h1
    · exact absurd ⟨by omega, by omega⟩ h1
  · rcases h' with ⟨g, -⟩ | ⟨g, g1, -⟩ | ⟨g, j, hj, hj2, g1, b1, b2, b3, b4⟩ | ⟨g, j, hj, hj2, g1, -⟩
    · exact absurd h g
    · exact absurd ⟨by omega, by omega⟩ g1
    · exact ⟨by omega, by omega, by omega, by omega⟩
    · exact absurd g1 h1
  · rcases h' with ⟨g, -⟩ | ⟨g, g1, -⟩ | ⟨g, j, hj, hj2, g1, -⟩ | ⟨g, j, hj, hj2, g1, b, b1, b2, b3, b4, q, b5, b6, b7⟩
    · exact absurd h g
    · exact absurd ⟨by omega, by omega⟩ g1
    · exact absurd h1 g1
    · obtain rfl : k = j := by omega
      obtain rfl : a = b := by omega
      obtain rfl := a5.unique b5
      exact ⟨by omega, by omega, by omega, by omega⟩
set_option maxHeartbeats 4000000 in
set_option maxRecDepth 100000 in
theorem law_any {n fr : Int} {cA : Option Addr} {cL cC : Nat} {cz : Nat → Int} {dA : Option Addr} {dL dC : Nat} {L : Nat → Nat} {Z : Nat → Nat → Int} {w : World} (h : At w cA cL cz dA dL L Z) (hc : cL ≤ cC) (hd : dL ≤ dC)
    (m : Int) (s : Nat) (nd cpu cur : Int) (hs : s < 256) {mA : Option Addr} {mL mC : Nat} {mz : Nat → Bool} (hm : IsBools w mA mL mz) (hml : mL ≤ mC) (_hmc : mC ≤ maxLen) (hmn : mA = none → mC = 0) :
    Calls Try.prog 3 #[tval n fr cA cL cC dA dL dC, pol m s nd, .agg #[.int .i64 cpu, .int .i64 cur, .slice mA mL mC]] w fun e w' => e = .returned (.bool true) ∧ Kept [] w w' := by
  have hT := tame_any n fr cA cL cC dA dL dC hc hd
  obtain ⟨cl, hcl⟩ : ∃ c, c = min cL 20 := ⟨_, rfl⟩
  obtain ⟨dl, hdl⟩ : ∃ c, c = min dL 10 := ⟨_, rfl⟩
  have hA : At w cA cl cz dA dl L Z := by rw [hcl, hdl]; exact at_min h 20 10
  rw [← hcl, ← hdl] at hT
  have hdl2 : dl ≤ dL := by omega
  have HA := hide hA
  obtain ⟨k, hk⟩ : ∃ c, c = min mL 10 := ⟨_, rfl⟩
  obtain ⟨i0, hi, hz0, hz1, hz2⟩ := info_parts infoB
  have hcut := run_cut0 (P := Try.prog) Try.underlying28 infoB mA mL mC .i64 (j := min (mL : Int) 10) k (by omega) (by omega)
  have hkm : k ≤ mL := by omega
  have hk10 : k ≤ 10 := by omega
  unfold maxLen at _hmc
  have HM := hide hm
  have HMN := hide hmn
  clear h hcl hdl hA hk hm hmn
  unfold tval at hT
  unfold tval pol
  go_enter Try.func3, Try.ntmps3
  go_wp2_with fail
  refine (hT _).mono ?_
  rintro e w1 ⟨rfl, hK⟩
  have k3 := (Kept.refl [] (w.alloc (.cells #[.int .i64 n, .int .i64 fr, .slice cA cL cC, .slice dA dL dC] 25)))
  have k2 := k3.alloc (.cells #[.int .i64 m, .int .u8 s, .int .i64 nd] 27)
  have k1 := k2.alloc (.cells #[.int .i64 cpu, .int .i64 cur, .slice mA mL mC] 30)
  have hB := hK.row (k1.row (row4 w 25 _ _ _ _) (by simp)) (by simp)
  have hs1 : ((w.alloc (.cells #[.int .i64 n, .int .i64 fr, .slice cA cL cC, .slice dA dL dC] 25)).alloc (.cells #[.int .i64 m, .int .u8 s, .int .i64 nd] 27)).heap.size = w.heap.size + 1 + 1 := by simp
  have hs0 : (w.alloc (.cells #[.int .i64 n, .int .i64 fr, .slice cA cL cC, .slice dA dL dC] 25)).heap.size = w.heap.size + 1 := by simp
  have qq := cells3 hK (by simp) (cells3 ((Kept.refl [] ((w.alloc (.cells #[.int .i64 n, .int .i64 fr, .slice cA cL cC, .slice dA dL dC] 25)).alloc (.cells #[.int .i64 m, .int .u8 s, .int .i64 nd] 27))).alloc (.cells #[.int .i64 cpu, .int .i64 cur, .slice mA mL mC] 30)) (by simp) (alloc3 (w.alloc (.cells #[.int .i64 n, .int .i64 fr, .slice cA cL cC, .slice dA dL dC] 25)) 27 (.int .i64 m) (.int .u8 s) (.int .i64 nd)))
  have aa := cells3 hK (by simp) (alloc3 ((w.alloc (.cells #[.int .i64 n, .int .i64 fr, .slice cA cL cC, .slice dA dL dC] 25)).alloc (.cells #[.int .i64 m, .int .u8 s, .int .i64 nd] 27)) 30 (.int .i64 cpu) (.int .i64 cur) (.slice mA mL mC))
  rw [hs0] at qq
  rw [hs1] at aa
  have z0 := hB.cell (i := 0) (by omega)
  have z1 := hB.cell (i := 1) (by omega)
  have z2 := hB.cell (i := 2) (by omega)
  have z3 := hB.cell (i := 3) (by omega)
  have y0 := hB.frozen 0
  have y1 := hB.frozen 1
  have y2 := hB.frozen 2
  have y3 := hB.frozen 3
  obtain ⟨tt, hK2⟩ := put4 hB (.int .i64 n) (.int .i64 fr) (.slice cA cl cC) (.slice dA dl dC)
  have qq := cells3 hK2 (b := w.heap.size + 1) (by simp) qq
  have aa := cells3 hK2 (b := w.heap.size + 1 + 1) (by simp; omega) aa
  have hK1 := hide ((((((Kept.refl [] w).alloc (.cells #[.int .i64 n, .int .i64 fr, .slice cA cL cC, .slice dA dL dC] 25)).alloc (.cells #[.int .i64 m, .int .u8 s, .int .i64 nd] 27)).alloc (.cells #[.int .i64 cpu, .int .i64 cur, .slice mA mL mC] 30)).next hK).trans hK2 (fun x hx hl => by simp at hx; omega))
  clear hK hK2 hB hs1 hs0 k1 k2 k3 hT
  obtain ⟨w2, hw2⟩ : ∃ w2, (((w1.setCell ⟨w.heap.size, 0, none⟩ (.int .i64 n)).setCell ⟨w.heap.size, 1, none⟩ (.int .i64 fr)).setCell ⟨w.heap.size, 2, none⟩ (.slice cA cl cC)).setCell ⟨w.heap.size, 3, none⟩ (.slice dA dl dC) = w2 := ⟨_, rfl⟩
  rw [hw2] at tt qq aa hK1
  have S2 : ST w n fr cA cl cC dA dl dC m s nd cpu cur mA mL mC w2 := ⟨hK1.out, tt, qq, aa⟩
  have hka := (Kept.refl [] w2).alloc (.cells #[] 4)
  have SA := S2.next hka
  have HNW := hide (show ∀ j u, ((List.range k).map (fun i => Value.bool (mz i)))[j]? = some u → ∃ ad, mA = some ad ∧ (w2.alloc (.cells #[] 4)).cell? (ad.add j) = some u from by
    intro j u hu
    have hj : j < k := by simpa using getElem?_lt hu
    obtain ⟨b, off, rfl, hcj⟩ := HM.out j (by omega)
    refine ⟨_, rfl, ?_⟩
    rw [add_plain, SA.kept.cell hcj (by simp)]
    simpa [hj] using hu)
  have HNIL := hide (show mA = none → k = 0 ∧ mC = 0 from fun h => by have := HMN.out h; omega)
  obtain ⟨t0, t1, t2, t3⟩ := tt
  obtain ⟨q0, q1, q2⟩ := qq
  obtain ⟨a0, a1, a2⟩ := aa
  obtain ⟨ax0, ax1, ax2⟩ := SA.a
  have T2 := hide S2
  clear S2 SA hka hK1
  go_wp2_with (at_builtin; refine wpList_append_any (by rfl) _ _ 28 (by rfl) w2.heap.size 4 i0 (.bool false) 1 Try.underlying28 hi hz0 hz1 hz2 rfl _ _ _ (by rfl) (World.ownsRow_made w2 #[] 0 (Nat.le_refl _) (by decide) rfl) mA k mC ((List.range k).map (fun i => Value.bool (mz i))) (by rfl) (by simp) HNIL.out HNW.out (by intro u hu; simp at hu; obtain ⟨x, _, rfl⟩ := hu; rfl) (by unfold maxLen; omega) (by omega) (by simp) ?_)
  intro v' w3 hown hgrow
  have hK3 : Kept [] w2 w3 := own_grown (World.ownsRow_made (e := 4) (size := 1) w2 #[] 0 (Nat.le_refl _) (by decide) rfl) hgrow w2 ((Kept.refl [] w2).alloc (.cells #[] 4)) (Nat.le_refl _)
  obtain ⟨ao, cap, rfl, hcap2, hcells⟩ := own_form hown
  have hMb : IsBools w3 ao k mz := by
    intro i hi
    obtain ⟨g, rfl, -, hc⟩ := hcells i (.bool (mz i)) (by simp [hi])
    exact ⟨g, 0, rfl, by rw [Nat.zero_add]; exact hc⟩
  have T3 := hide (T2.out.next hK3)
  have HM3 := hide hMb
  clear hown hgrow hK3 hcells hMb hcut HNW HNIL HM HMN T2 ax0 ax1 ax2 t0 t1 t2 t3 q0 q1 q2 a0 a1 a2 z0 z1 z2 z3 y0 y1 y2 y3 hw2
  have SB : SB2 w n fr cA cl cC dA dl dC m s nd cpu cur mA mL mC w3 w3.drew := ⟨T3.out.next (Kept.refl [] w3).drew, (Kept.refl [] w3).drew⟩
  obtain ⟨t0, t1, t2, t3⟩ := T3.out.t
  obtain ⟨q0, q1, q2⟩ := T3.out.q
  obtain ⟨a0, a1, a2⟩ := T3.out.a
  have hM9 : ∀ W, SB2 w n fr cA cl cC dA dl dC m s nd cpu cur mA mL mC w3 W → Calls Try.prog 8 #[.agg #[.int .i64 n, .int .i64 fr, .slice cA cl cC, .slice dA dl dC]] W fun e w' => e = .returned (.agg #[.int .i64 n, .int .i64 fr, .slice cA cl cC, .slice dA dl dC]) ∧ Kept [] W w' := fun W _ => machine_any n fr cA cl cC dA dl dC W
  have hM10 : ∀ W, SB2 w n fr cA cl cC dA dl dC m s nd cpu cur mA mL mC w3 W → Calls Try.prog 9 #[.agg #[.int .i64 m, .int .u8 s, .int .i64 nd]] W fun e w' => e = .returned (.agg #[.int .i64 m, .int .u8 s, .int .i64 nd]) ∧ Kept [] W w' := fun W _ => rule_any m s nd W
  have hnode : ∀ W, SB2 w n fr cA cl cC dA dl dC m s nd cpu cur mA mL mC w3 W → Calls Try.prog 7 #[.agg #[.int .i64 n, .int .i64 fr, .slice cA cl cC, .slice dA dl dC], .agg #[.int .i64 m, .int .u8 s, .int .i64 nd], .int .i64 cpu, .int .i64 cur, .slice ao k cap] W fun e w'' => ∃ x st cu er, e = .returned (.tuple #[.agg #[.int .i64 x, .int .i64 st, .int .i64 cu], .int .i64 er]) ∧
      NodeIs n fr cl cz dl L Z m s nd cpu cur k mz x st cu er ∧ Kept [] W w'' := fun W hW => node_any (HA.out.kept hW.st.kept) m s nd cpu cur hs (HM3.out.kept hW.k6) (by unfold maxLen; omega)
  have HN := hide hnode
  have n1 := World.new_ne w3 _ t0
  have n2 := World.new_ne w3 _ q0
  have n3 := World.new_ne w3 _ a0
  clear hnode
  go_wp2_with fail
  refine (fun (rest : PLift (?T : Prop)) => ?main) (PLift.up ?rest)
  case main =>
    go_region_held3 (fun w' => w'.cell? ⟨w.heap.size, 0, none⟩ = some (.int .i64 n) ∧ w'.cell? ⟨w.heap.size, 1, none⟩ = some (.int .i64 fr) ∧ w'.cell? ⟨w.heap.size, 2, none⟩ = some (.slice cA cl cC) ∧ w'.cell? ⟨w.heap.size, 3, none⟩ = some (.slice dA dl dC) ∧ w'.cell? ⟨w.heap.size + 1, 0, none⟩ = some (.int .i64 m) ∧ w'.cell? ⟨w.heap.size + 1, 1, none⟩ = some (.int .u8 s) ∧ w'.cell? ⟨w.heap.size + 1, 2, none⟩ = some (.int .i64 nd) ∧ w'.cell? ⟨w.heap.size + 1 + 1, 0, none⟩ = some (.int .i64 cpu) ∧ w'.cell? ⟨w.heap.size + 1 + 1, 1, none⟩ = some (.int .i64 cur) ∧ w'.cell? ⟨w.heap.size + 1 + 1, 2, none⟩ = some (.slice mA mL mC)) (go_keep) (first
      | (go_at_call 8; refine (hM9 _ SB).mono ?_; rintro e w7 ⟨rfl, hK7⟩; have S7 := SB.next hK7; obtain ⟨t0', t1', t2', t3'⟩ := S7.st.t; obtain ⟨q0', q1', q2'⟩ := S7.st.q; obtain ⟨a0', a1', a2'⟩ := S7.st.a; have := World.new_ne w7 _ t0'; have := World.new_ne w7 _ q0'; have := World.new_ne w7 _ a0')
      | (go_at_call 8; refine (hM9 _ (SB.alloc _)).mono ?_; rintro e w7 ⟨rfl, hK7⟩; have S7 := (SB.alloc _).next hK7; obtain ⟨t0', t1', t2', t3'⟩ := S7.st.t; obtain ⟨q0', q1', q2'⟩ := S7.st.q; obtain ⟨a0', a1', a2'⟩ := S7.st.a; have := World.new_ne w7 _ t0'; have := World.new_ne w7 _ q0'; have := World.new_ne w7 _ a0'; have hB7 : w7.rowIs w3.heap.size 33 3 (fun _ => .int .i64 0) := hK7.row (row3 w3.drew 33) (by simp))
      | (go_at_call 9; refine (hM10 _ S7).mono ?_; rintro e w8 ⟨rfl, hK8⟩; have S8 := S7.next hK8; obtain ⟨t0'', t1'', t2'', t3''⟩ := S8.st.t; obtain ⟨q0'', q1'', q2''⟩ := S8.st.q; obtain ⟨a0'', a1'', a2''⟩ := S8.st.a; have := World.new_ne w8 _ t0''; have := World.new_ne w8 _ q0''; have := World.new_ne w8 _ a0''; try (have hB8 := hK8.row hB7 (by simp)))
      | (go_at_call 9; refine (hM10 _ (S7.alloc _)).mono ?_; rintro e w8 ⟨rfl, hK8⟩; have S8 := (S7.alloc _).next hK8; obtain ⟨t0'', t1'', t2'', t3''⟩ := S8.st.t; obtain ⟨q0'', q1'', q2''⟩ := S8.st.q; obtain ⟨a0'', a1'', a2''⟩ := S8.st.a; have := World.new_ne w8 _ t0''; have := World.new_ne w8 _ q0''; have := World.new_ne w8 _ a0''; have hB8 := hK8.row (row3 w7 33) (by simp))
      | (go_at_call 7; refine (HN.out _ S8).mono ?_; rintro e w9 ⟨x, st, cu, er, rfl, hNI, hK9⟩; have S9 := S8.next hK9; obtain ⟨u0, u1, u2, u3⟩ := S9.st.t; obtain ⟨v0, v1, v2⟩ := S9.st.q; obtain ⟨x0, x1, x2⟩ := S9.st.a; have := World.new_ne w9 _ u0; have := World.new_ne w9 _ v0; have := World.new_ne w9 _ x0; try (have hB9 := hK9.row hB8 (by simp); have z0 := hB9.cell (i := 0) (by omega); have z1 := hB9.cell (i := 1) (by omega); have z2 := hB9.cell (i := 2) (by omega); have y0 := hB9.frozen 0; have y1 := hB9.frozen 1; have y2 := hB9.frozen 2))
      | (go_at_call 7; refine (HN.out _ (S8.alloc _)).mono ?_; rintro e w9 ⟨x, st, cu, er, rfl, hNI, hK9⟩; have S9 := (S8.alloc _).next hK9; obtain ⟨u0, u1, u2, u3⟩ := S9.st.t; obtain ⟨v0, v1, v2⟩ := S9.st.q; obtain ⟨x0, x1, x2⟩ := S9.st.a; have := World.new_ne w9 _ u0; have := World.new_ne w9 _ v0; have := World.new_ne w9 _ x0; have hB9 := hK9.row (row3 w8 33) (by simp); have z0 := hB9.cell (i := 0) (by omega); have z1 := hB9.cell (i := 1) (by omega); have z2 := hB9.cell (i := 2) (by omega); have y0 := hB9.frozen 0; have y1 := hB9.frozen 1; have y2 := hB9.frozen 2))
    · rename_i hHeld
      clear hHeld
      have S10 := S9.alloc (.cells #[.int .i64 x, .int .i64 st, .int .i64 cu] 33)
      obtain ⟨c0, c1, c2⟩ := alloc3 w9 33 (.int .i64 x) (.int .i64 st) (.int .i64 cu)
      generalize (w9.alloc (.cells #[.int .i64 x, .int .i64 st, .int .i64 cu] 33)) = W at S10 c0 c1 c2 ⊢
      generalize w9.heap.size = bc at c0 c1 c2 ⊢
      revert hNI S10 c0 c1 c2
      revert W bc x st cu er
      exact rest.down
    · rename_i hHeld
      clear hHeld
      obtain ⟨S10, c0, c1, c2⟩ := S9.put hB9 (by assumption) (by assumption) (by assumption) (by have := SB.st.kept.size; have := S7.st.kept.size; have := S8.st.kept.size; first | omega | (simp at *; omega)) (by have := SB.k6.size; have := S7.k6.size; have := S8.k6.size; first | omega | (simp at *; omega)) (.int .i64 x) (.int .i64 st) (.int .i64 cu)
      generalize (((w9.setCell ⟨w8.heap.size, 0, none⟩ (.int .i64 x)).setCell ⟨w8.heap.size, 1, none⟩ (.int .i64 st)).setCell ⟨w8.heap.size, 2, none⟩ (.int .i64 cu)) = W at S10 c0 c1 c2 ⊢
      generalize w8.heap.size = bc at c0 c1 c2 ⊢
      revert hNI S10 c0 c1 c2
      revert W bc x st cu er
      exact rest.down
    · rename_i hHeld
      clear hHeld
      obtain ⟨S10, c0, c1, c2⟩ := S9.put hB9 (by assumption) (by assumption) (by assumption) (by have := SB.st.kept.size; have := S7.st.kept.size; have := S8.st.kept.size; first | omega | (simp at *; omega)) (by have := SB.k6.size; have := S7.k6.size; have := S8.k6.size; first | omega | (simp at *; omega)) (.int .i64 x) (.int .i64 st) (.int .i64 cu)
      generalize (((w9.setCell ⟨w7.heap.size, 0, none⟩ (.int .i64 x)).setCell ⟨w7.heap.size, 1, none⟩ (.int .i64 st)).setCell ⟨w7.heap.size, 2, none⟩ (.int .i64 cu)) = W at S10 c0 c1 c2 ⊢
      generalize w7.heap.size = bc at c0 c1 c2 ⊢
      revert hNI S10 c0 c1 c2
      revert W bc x st cu er
      exact rest.down
    · rename_i hHeld
      clear hHeld
      obtain ⟨S10, c0, c1, c2⟩ := S9.put hB9 (by assumption) (by assumption) (by assumption) (by have := SB.st.kept.size; have := S7.st.kept.size; have := S8.st.kept.size; first | omega | (simp at *; omega)) (by have := SB.k6.size; have := S7.k6.size; have := S8.k6.size; first | omega | (simp at *; omega)) (.int .i64 x) (.int .i64 st) (.int .i64 cu)
      generalize (((w9.setCell ⟨w3.heap.size, 0, none⟩ (.int .i64 x)).setCell ⟨w3.heap.size, 1, none⟩ (.int .i64 st)).setCell ⟨w3.heap.size, 2, none⟩ (.int .i64 cu)) = W at S10 c0 c1 c2 ⊢
      generalize w3.heap.size = bc at c0 c1 c2 ⊢
      revert hNI S10 c0 c1 c2
      revert W bc x st cu er
      exact rest.down
  case rest =>
    intro x st cu er W bc hNI S10 c0 c1 c2
    have hrn := rnode_any (n := n) (fr := fr) (cC := cC) (dC := dC) (mC := cap) (HA.out.kept S10.st.kept) m s nd cpu cur hs (HM3.out.kept S10.k6)
    unfold tval pol at hrn
    have K10 := hide S10.st.kept
    obtain ⟨t0, t1, t2, t3⟩ := S10.st.t
    obtain ⟨q0, q1, q2⟩ := S10.st.q
    obtain ⟨a0, a1, a2⟩ := S10.st.a
    clear S10 HA HM3 T3 SB hM9 hM10 HN n1 n2 n3
    go_wp2_with fail
    refine hrn.mono ?_
    rintro e W2 ⟨x', st', cu', er', rfl, hN2, hK⟩
    obtain ⟨rfl, rfl, rfl, rfl⟩ := node_unique hNI hN2
    have hka := (Kept.refl [] W2).alloc (.cells #[.int .i64 x, .int .i64 st, .int .i64 cu] 43)
    obtain ⟨c0, c1, c2⟩ := cells3 hka (by simp) (cells3 hK (by simp) ⟨c0, c1, c2⟩)
    obtain ⟨d0, d1, d2⟩ := alloc3 W2 43 (.int .i64 x) (.int .i64 st) (.int .i64 cu)
    have K11 := hide ((K10.out.next hK).next hka)
    clear hNI hN2 hka hK K10 hrn t0 t1 t2 t3 q0 q1 q2 a0 a1 a2
    go_wp2_with fail
    generalize W2.alloc (.cells #[.int .i64 x, .int .i64 st, .int .i64 cu] 43) = W3 at c0 c1 c2 d0 d1 d2 K11 ⊢
    refine (chooses_true _).mono ?_
    rintro e W4 ⟨rfl, hK⟩
    obtain ⟨c0, c1, c2⟩ := cells3 hK (by simp) ⟨c0, c1, c2⟩
    obtain ⟨d0, d1, d2⟩ := cells3 hK (by simp) ⟨d0, d1, d2⟩
    have K12 := hide (K11.out.next hK)
    have heq := eq43 x st cu
    clear K11 hK
    go_wp2
    go_ret
    exact ⟨rfl, K12.out⟩

theorem own : ownKnob Try.prog.godebug = none := by kernel_rfl
theorem laidOut : laidOutB Try.prog = true := by kernel_rfl

set_option maxRecDepth 100000 in
theorem lifted (os : Os) (started : os.Started) (H : Type) (enc : TypeId × Value → H) :
    ReturnsInHanded {} Try.checked os 3 .any (Rows.chooseTellsSpec.pre6 enc Try.prog Try.f3 Rows.chooseTellsRow.domain false) (Rows.chooseTellsSpec.post enc Try.prog Try.f3 false true false false) := by
  refine returnsInHanded_of_change (C := Try.checked) own started (by kernel_rfl) Try.func3
    (ChangeSpec.witness6 (enc := enc) (C := Try.checked) false ⟨#[], #[.agg #[.int .i64 0, .int .i64 0, .slice none 0 0, .slice none 0 0], .agg #[.int .i64 0, .int .u8 0, .int .i64 0], .agg #[.int .i64 0, .int .i64 0, .slice none 0 0]], []⟩ 8 (by kernel_rfl) (by kernel_rfl) (by kernel_rfl) (by kernel_rfl)) ?_
  intro W base args ds gs before hval0 hW hcnd _
  have hval : ∀ (j : Nat) t v, Try.f3.params[j]? = some t → args[j]? = some v → Value.okWide Try.prog W .any base t v := hval0
  have hW' := hW
  obtain ⟨p, q, hA0, hV, rfl, hfz, hnd⟩ := hW
  have hA : DataW.TrodAll enc Try.prog W 0 (fun _ => true) true Try.f3.params.toList args.toList ds p := hA0
  have hK := hA
  rw [Try.params3] at hA hval
  obtain ⟨v0, vs0, d0, ds0, p0, q0, hargs, rfl, rfl, h0, r0⟩ := trodAll_cons hA
  obtain ⟨v1, vs1, d1, ds1, p1, q1, rfl, rfl, rfl, h1, r1⟩ := trodAll_cons r0
  obtain ⟨v2, vs2, d2, ds2, p2, q2, rfl, rfl, rfl, h2, r2⟩ := trodAll_cons r1
  obtain ⟨rfl, rfl, rfl⟩ := trodAll_nil r2
  obtain rfl : args = #[v0, v1, v2] := by cases args; simp_all
  obtain ⟨rfl, rfl⟩ := trodVars_none hV
  obtain ⟨n, fr, cA, cL, cC, cz, dA, dL, dC, L, Z, rfl, hc, hd, wn, wfr, hAt⟩ := open_topo (e2 := 3) (e3 := 22) (q3 := 3) Try.underlying25 (by kernel_rfl) rfl rfl rfl rfl (by kernel_rfl) (by kernel_rfl) (by kernel_rfl) (by kernel_rfl) (by kernel_rfl) (by kernel_rfl) (by kernel_rfl) (by kernel_rfl) (by kernel_rfl) (by kernel_rfl) (by kernel_rfl) (by kernel_rfl) (by kernel_rfl) (by kernel_rfl) h0
  obtain ⟨m, s, nd, rfl, wf1a, wf1b, wf1c⟩ := open_agg3 (k0 := .i64) (k1 := .u8) (k2 := .i64) Try.underlying27 (by kernel_rfl) rfl rfl rfl (by kernel_rfl) (by kernel_rfl) (by kernel_rfl) (by kernel_rfl) (by kernel_rfl) (by kernel_rfl) h1
  obtain ⟨sn, rfl⟩ := Int.eq_ofNat_of_zero_le (bounds_u8 wf1b).1
  have hs : sn < 256 := by have := (bounds_u8 wf1b).2; omega
  obtain ⟨cpu, cur, mA, mL, mC, mz, rfl, hm1, hm2, hm3, wc, wcu, hMb⟩ := open_ask (e2 := 4) Try.underlying30 (by kernel_rfl) rfl rfl rfl (by kernel_rfl) (by kernel_rfl) (by kernel_rfl) (by kernel_rfl) (by kernel_rfl) (by kernel_rfl) (by kernel_rfl) (by kernel_rfl) h2
  clear hA0 hval0
  refine (law_any hAt hc hd m sn nd cpu cur hs hMb hm1 hm2 hm3).mono fun e W' ⟨he, hk⟩ => ?_
  subst he
  exact ⟨_, rfl, _, _, _, [], _, [], hW', trodAll_mk1 (shut_bool Try.underlying4 _), trodAll_below laidOut hk.below _ _ _ _ hK (by kernel_rfl), rfl, hk.below.frame _, fun h => by cases h⟩

theorem said : Rows.ChooseTellsSaid :=
  OpenClaim.holds_of_wide 3 Try.f3 rfl rfl rfl rfl rfl rfl rfl ⟨rfl, rfl, rfl, rfl, rfl⟩ rfl rfl rfl rfl rfl (by kernel_rfl) Try.func3 (by kernel_rfl)
    (of_decide_eq_true (by kernel_rfl)) (by unfold Func.isWrapper; first | (rw [if_pos (by decide +kernel)]; kernel_rfl) | (rw [if_neg (by decide +kernel)]; exact ⟨rfl, rfl⟩))
    (fun os started H enc _ => lifted os started H enc)
end Go.Proofs.Ytnokpecdkibddac.LT
