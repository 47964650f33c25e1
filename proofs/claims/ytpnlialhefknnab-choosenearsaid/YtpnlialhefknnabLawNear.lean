/-
  The walk of 'messuagelaw11.ChooseNear', and the given statement of it.
-/
import Derived.Test.YtpnlialhefknnabChLaw
import Derived.Test.YtpnlialhefknnabPolRef
import Derived.Test.YtpnlialhefknnabOpenTopo
import Derived.Test.YtpnlialhefknnabRows
import Derived.Deep.RegionHeld3
import Derived.BigRegion
namespace Go.Proofs.Ytpnlialhefknnab.LN
open Go.ChangeShapes Go.WideShapes Go.ChangeAt Go.RowKit TP ZN PO CH
theorem at_min {w : World} {cA : Option Addr} {cL : Nat} {cz : Nat → Int} {dA : Option Addr} {dL : Nat} {L : Nat → Nat} {Z : Nat → Nat → Int} (h : At w cA cL cz dA dL L Z) (a b : Nat) : At w cA (min cL a) cz dA (min dL b) L Z :=
  ⟨by have := h.cl; omega, by have := h.dl; omega, fun i hi => h.cpus i (by omega), fun r hr => h.rows r (by omega)⟩
theorem row4 (w : World) (t : TypeId) (a b c d : Value) : (w.alloc (.cells #[a, b, c, d] t)).rowIs w.heap.size t 4 (fun i => (#[a, b, c, d] : Array Value).getD i a) :=
  World.rowIs_alloc w #[a, b, c, d] t _ (by
    intro i hi
    match i, hi with
    | 0, _ => rfl
    | 1, _ => rfl
    | 2, _ => rfl
    | 3, _ => rfl)
theorem put4 {w : World} {b : Nat} {t : TypeId} {g : Nat → Value} (h : w.rowIs b t 4 g) (x y z u : Value) :
    (((((w.setCell ⟨b, 0, none⟩ x).setCell ⟨b, 1, none⟩ y).setCell ⟨b, 2, none⟩ z).setCell ⟨b, 3, none⟩ u).cell? ⟨b, 0, none⟩ = some x ∧ ((((w.setCell ⟨b, 0, none⟩ x).setCell ⟨b, 1, none⟩ y).setCell ⟨b, 2, none⟩ z).setCell ⟨b, 3, none⟩ u).cell? ⟨b, 1, none⟩ = some y ∧
    ((((w.setCell ⟨b, 0, none⟩ x).setCell ⟨b, 1, none⟩ y).setCell ⟨b, 2, none⟩ z).setCell ⟨b, 3, none⟩ u).cell? ⟨b, 2, none⟩ = some z ∧ ((((w.setCell ⟨b, 0, none⟩ x).setCell ⟨b, 1, none⟩ y).setCell ⟨b, 2, none⟩ z).setCell ⟨b, 3, none⟩ u).cell? ⟨b, 3, none⟩ = some u) ∧
    Kept [b] w ((((w.setCell ⟨b, 0, none⟩ x).setCell ⟨b, 1, none⟩ y).setCell ⟨b, 2, none⟩ z).setCell ⟨b, 3, none⟩ u) := by
  have h3 := (((h.set 0 x).set 1 y).set 2 z).set 3 u
  refine ⟨⟨(h3.cell (i := 0) (by omega)).trans (by simp), (h3.cell (i := 1) (by omega)).trans (by simp), (h3.cell (i := 2) (by omega)).trans (by simp), (h3.cell (i := 3) (by omega)).trans (by simp)⟩, ?_⟩
  exact ((((Kept.refl [b] w).setCell (fun _ => by simp) x).setCell (fun _ => by simp) y).setCell (fun _ => by simp) z).setCell (fun _ => by simp) u
/-- Three cells that lie where they lay. -/
theorem cells3 {w w1 : World} {M : List Nat} (hK : Kept M w w1) {b : Nat} {x y z : Value} (hb : b ∉ M) (h : w.cell? ⟨b, 0, none⟩ = some x ∧ w.cell? ⟨b, 1, none⟩ = some y ∧ w.cell? ⟨b, 2, none⟩ = some z) :
    w1.cell? ⟨b, 0, none⟩ = some x ∧ w1.cell? ⟨b, 1, none⟩ = some y ∧ w1.cell? ⟨b, 2, none⟩ = some z :=
  ⟨hK.cell h.1 hb, hK.cell h.2.1 hb, hK.cell h.2.2 hb⟩
theorem cells4 {w w1 : World} {M : List Nat} (hK : Kept M w w1) {b : Nat} {x y z u : Value} (hb : b ∉ M) (h : w.cell? ⟨b, 0, none⟩ = some x ∧ w.cell? ⟨b, 1, none⟩ = some y ∧ w.cell? ⟨b, 2, none⟩ = some z ∧ w.cell? ⟨b, 3, none⟩ = some u) :
    w1.cell? ⟨b, 0, none⟩ = some x ∧ w1.cell? ⟨b, 1, none⟩ = some y ∧ w1.cell? ⟨b, 2, none⟩ = some z ∧ w1.cell? ⟨b, 3, none⟩ = some u :=
  ⟨hK.cell h.1 hb, hK.cell h.2.1 hb, hK.cell h.2.2.1 hb, hK.cell h.2.2.2 hb⟩
theorem alloc3 (w : World) (t : TypeId) (x y z : Value) : (w.alloc (.cells #[x, y, z] t)).cell? ⟨w.heap.size, 0, none⟩ = some x ∧ (w.alloc (.cells #[x, y, z] t)).cell? ⟨w.heap.size, 1, none⟩ = some y ∧ (w.alloc (.cells #[x, y, z] t)).cell? ⟨w.heap.size, 2, none⟩ = some z := by simp
/-- The law's own variables lie where they lay. -/
structure ST (w : World) (n fr : Int) (cA : Option Addr) (cl cC : Nat) (dA : Option Addr) (dl dC : Nat) (m : Int) (s : Nat) (nd cpu cur : Int) (mA : Option Addr) (mL mC : Nat) (W : World) : Prop where
  kept : Kept [] w W
  t : W.cell? ⟨w.heap.size, 0, none⟩ = some (.int .i64 n) ∧ W.cell? ⟨w.heap.size, 1, none⟩ = some (.int .i64 fr) ∧ W.cell? ⟨w.heap.size, 2, none⟩ = some (.slice cA cl cC) ∧ W.cell? ⟨w.heap.size, 3, none⟩ = some (.slice dA dl dC)
  q : W.cell? ⟨w.heap.size + 1, 0, none⟩ = some (.int .i64 m) ∧ W.cell? ⟨w.heap.size + 1, 1, none⟩ = some (.int .u8 s) ∧ W.cell? ⟨w.heap.size + 1, 2, none⟩ = some (.int .i64 nd)
  a : W.cell? ⟨w.heap.size + 1 + 1, 0, none⟩ = some (.int .i64 cpu) ∧ W.cell? ⟨w.heap.size + 1 + 1, 1, none⟩ = some (.int .i64 cur) ∧ W.cell? ⟨w.heap.size + 1 + 1, 2, none⟩ = some (.slice mA mL mC)
theorem ST.next {w : World} {n fr : Int} {cA : Option Addr} {cl cC : Nat} {dA : Option Addr} {dl dC : Nat} {m : Int} {s : Nat} {nd cpu cur : Int} {mA : Option Addr} {mL mC : Nat} {W W' : World} (h : ST w n fr cA cl cC dA dl dC m s nd cpu cur mA mL mC W) (hk : Kept [] W W') : ST w n fr cA cl cC dA dl dC m s nd cpu cur mA mL mC W' :=
  ⟨h.kept.next hk, cells4 hk (by simp) h.t, cells3 hk (by simp) h.q, cells3 hk (by simp) h.a⟩
theorem ST.alloc {w : World} {n fr : Int} {cA : Option Addr} {cl cC : Nat} {dA : Option Addr} {dl dC : Nat} {m : Int} {s : Nat} {nd cpu cur : Int} {mA : Option Addr} {mL mC : Nat} {W : World} (h : ST w n fr cA cl cC dA dl dC m s nd cpu cur mA mL mC W) (o : Obj) : ST w n fr cA cl cC dA dl dC m s nd cpu cur mA mL mC (W.alloc o) :=
  h.next ((Kept.refl [] W).alloc o)
theorem ST.put {w : World} {n fr : Int} {cA : Option Addr} {cl cC : Nat} {dA : Option Addr} {dl dC : Nat} {m : Int} {s : Nat} {nd cpu cur : Int} {mA : Option Addr} {mL mC : Nat} {W : World} (h : ST w n fr cA cl cC dA dl dC m s nd cpu cur mA mL mC W) {bb : Nat} {g : Nat → Value} (hB : W.rowIs bb 33 3 g)
    (h0 : bb ≠ w.heap.size) (h1 : bb ≠ w.heap.size + 1) (h2 : bb ≠ w.heap.size + 1 + 1) (hle : w.heap.size ≤ bb) (x y z : Value) :
    ST w n fr cA cl cC dA dl dC m s nd cpu cur mA mL mC (((W.setCell ⟨bb, 0, none⟩ x).setCell ⟨bb, 1, none⟩ y).setCell ⟨bb, 2, none⟩ z) ∧
    (((W.setCell ⟨bb, 0, none⟩ x).setCell ⟨bb, 1, none⟩ y).setCell ⟨bb, 2, none⟩ z).cell? ⟨bb, 0, none⟩ = some x ∧ (((W.setCell ⟨bb, 0, none⟩ x).setCell ⟨bb, 1, none⟩ y).setCell ⟨bb, 2, none⟩ z).cell? ⟨bb, 1, none⟩ = some y ∧
    (((W.setCell ⟨bb, 0, none⟩ x).setCell ⟨bb, 1, none⟩ y).setCell ⟨bb, 2, none⟩ z).cell? ⟨bb, 2, none⟩ = some z := by
  obtain ⟨r0, r1, r2, hK⟩ := put3 hB x y z
  exact ⟨⟨h.kept.trans hK (fun v hv hl => by simp at hv; omega), cells4 hK (by simp; omega) h.t, cells3 hK (by simp; omega) h.q, cells3 hK (by simp; omega) h.a⟩, r0, r1, r2⟩
/-- Of what Node tells: an error of its own, or a node that was looked for. -/
theorem node_parts {n fr : Int} {cL : Nat} {cz : Nat → Int} {dL : Nat} {L : Nat → Nat} {Z : Nat → Nat → Int} {m : Int} {s : Nat} {nd cpu cur : Int} {mL : Nat} {mz : Nat → Bool} {x st cu e : Int} (h : NodeIs n fr cL cz dL L Z m s nd cpu cur mL mz x st cu e) :
    (e ≠ 0 ∧ e ≠ 5) ∨ (tchk n fr cL cz dL L Z = 0 ∧ chk m s nd n = 0 ∧ ∃ a : Nat, (a : Int) < n ∧ st = a ∧ ∃ r, NearIs (Z a) n.toNat (fun y => ND.hasB (permS m s nd n) y && mayB mL mz y) r ∧ x = (r.getD 0 : Nat) ∧ e = if r.isSome then 0 else 5) := by
  rcases h with ⟨h, -, -, -, e1⟩ | ⟨-, -, -, -, -, e1⟩ | ⟨-, k, -, -, h, -, -, -, e1⟩ | ⟨h1, k, -, -, h2, a, h3, -, h4, -, r, h5, h6, h7⟩
  · left
    refine ⟨by rw [e1]; exact h, ?_⟩
    rw [e1]
    unfold tchk
    repeat' split
    all_goals omega
  · left; omega
  · left
    refine ⟨by rw [e1]; exact h, ?_⟩
    rw [e1]
    unfold chk setE nodeE
    repeat' split
    all_goals omega
  · exact .inr ⟨h1, h2, a, h3, h4, r, h5, h6, h7⟩
set_option maxHeartbeats 4000000 in
set_option maxRecDepth 100000 in
theorem law_any {n fr : Int} {cA : Option Addr} {cL cC : Nat} {cz : Nat → Int} {dA : Option Addr} {dL dC : Nat} {L : Nat → Nat} {Z : Nat → Nat → Int} {w : World} (h : At w cA cL cz dA dL L Z) (hc : cL ≤ cC) (hd : dL ≤ dC)
    (m : Int) (s : Nat) (nd cpu cur : Int) (hs : s < 256) {mA : Option Addr} {mL mC : Nat} {mz : Nat → Bool} (hm : IsBools w mA mL mz) (hml : mL ≤ maxLen) :
    Calls Try.prog 4 #[tval n fr cA cL cC dA dL dC, pol m s nd, .agg #[.int .i64 cpu, .int .i64 cur, .slice mA mL mC]] w fun e w' => e = .returned (.bool true) ∧ Kept [] w w' := by
  have hT := tame_any n fr cA cL cC dA dL dC hc hd
  obtain ⟨cl, hcl⟩ : ∃ c, c = min cL 20 := ⟨_, rfl⟩
  obtain ⟨dl, hdl⟩ : ∃ c, c = min dL 10 := ⟨_, rfl⟩
  have hA : At w cA cl cz dA dl L Z := by rw [hcl, hdl]; exact at_min h 20 10
  rw [← hcl, ← hdl] at hT
  have hdl2 : dl ≤ dL := by omega
  have HA := hide hA
  have HM := hide hm
  clear h hcl hdl hA hm
  unfold tval at hT
  unfold tval pol
  go_enter Try.func4, Try.ntmps4
  go_wp2_with fail
  refine (hT _).mono ?_
  rintro e w1 ⟨rfl, hK⟩
  have k3 := (Kept.refl [] (w.alloc (.cells #[.int .i64 n, .int .i64 fr, .slice cA cL cC, .slice dA dL dC] 25)))
  have k2 := k3.alloc (.cells #[.int .i64 m, .int .u8 s, .int .i64 nd] 27)
  have k1 := k2.alloc (.cells #[.int .i64 cpu, .int .i64 cur, .slice mA mL mC] 30)
  have hB := hK.row (k1.row (row4 w 25 _ _ _ _) (by simp)) (by simp)
  have hs1 : ((w.alloc (.cells #[.int .i64 n, .int .i64 fr, .slice cA cL cC, .slice dA dL dC] 25)).alloc (.cells #[.int .i64 m, .int .u8 s, .int .i64 nd] 27)).heap.size = w.heap.size + 1 + 1 := by simp
  have hs0 : (w.alloc (.cells #[.int .i64 n, .int .i64 fr, .slice cA cL cC, .slice dA dL dC] 25)).heap.size = w.heap.size + 1 := by simp
  have qq := cells3 hK (by simp) (cells3 ((Kept.refl [] ((w.alloc (.cells #[.int .i64 n, .int .i64 fr, .slice cA cL cC, .slice dA dL dC] 25)).alloc (.cells #[.int .i64 m, .int .u8 s, .int .i64 nd] 27))).alloc (.cells #[.int .i64 cpu, .int .i64 cur, .slice mA mL mC] 30)) (by simp) (alloc3 (w.alloc (.cells #[.int .i64 n, .int .i64 fr, .slice cA cL cC, .slice dA dL dC] 25)) 27 (.int .i64 m) (.int .u8 s) (.int .i64 nd)))
  have aa := cells3 hK (by simp) (alloc3 ((w.alloc (.cells #[.int .i64 n, .int .i64 fr, .slice cA cL cC, .slice dA dL dC] 25)).alloc (.cells #[.int .i64 m, .int .u8 s, .int .i64 nd] 27)) 30 (.int .i64 cpu) (.int .i64 cur) (.slice mA mL mC))
  rw [hs0] at qq
  rw [hs1] at aa
  have z0 := hB.cell (i := 0) (by omega)
  have z1 := hB.cell (i := 1) (by omega)
  have z2 := hB.cell (i := 2) (by omega)
  have z3 := hB.cell (i := 3) (by omega)
  have y0 := hB.frozen 0
  have y1 := hB.frozen 1
  have y2 := hB.frozen 2
  have y3 := hB.frozen 3
  obtain ⟨tt, hK2⟩ := put4 hB (.int .i64 n) (.int .i64 fr) (.slice cA cl cC) (.slice dA dl dC)
  have qq := cells3 hK2 (b := w.heap.size + 1) (by simp) qq
  have aa := cells3 hK2 (b := w.heap.size + 1 + 1) (by simp; omega) aa
  have hK1 := hide ((((((Kept.refl [] w).alloc (.cells #[.int .i64 n, .int .i64 fr, .slice cA cL cC, .slice dA dL dC] 25)).alloc (.cells #[.int .i64 m, .int .u8 s, .int .i64 nd] 27)).alloc (.cells #[.int .i64 cpu, .int .i64 cur, .slice mA mL mC] 30)).next hK).trans hK2 (fun x hx hl => by simp at hx; omega))
  clear hK hK2 hB hs1 hs0 k1 k2 k3 hT
  go_wp2_with fail
  generalize (((w1.setCell ⟨w.heap.size, 0, none⟩ (.int .i64 n)).setCell ⟨w.heap.size, 1, none⟩ (.int .i64 fr)).setCell ⟨w.heap.size, 2, none⟩ (.slice cA cl cC)).setCell ⟨w.heap.size, 3, none⟩ (.slice dA dl dC) = w2 at tt qq aa hK1 ⊢
  clear z0 z1 z2 z3 y0 y1 y2 y3
  obtain ⟨t0, t1, t2, t3⟩ := tt
  obtain ⟨q0, q1, q2⟩ := qq
  obtain ⟨a0, a1, a2⟩ := aa
  have hmach := machine_any n fr cA cl cC dA dl dC
  have hrule := rule_any m s nd
  have hnode : ∀ w', Kept [] w w' → Calls Try.prog 8 #[tval n fr cA cl cC dA dl dC, pol m s nd, .int .i64 cpu, .int .i64 cur, .slice mA mL mC] w' fun e w'' => ∃ x st cu er, e = .returned (.tuple #[.agg #[.int .i64 x, .int .i64 st, .int .i64 cu], .int .i64 er]) ∧
      NodeIs n fr cl cz dl L Z m s nd cpu cur mL mz x st cu er ∧ Kept [] w' w'' := fun w' hk => node_any (HA.out.kept hk) m s nd cpu cur hs (HM.out.kept hk) hml
  unfold tval at hmach hnode
  unfold pol at hrule hnode
  have S2 : ST w n fr cA cl cC dA dl dC m s nd cpu cur mA mL mC w2.drew := ⟨hK1.out.drew, ⟨t0, t1, t2, t3⟩, ⟨q0, q1, q2⟩, ⟨a0, a1, a2⟩⟩
  have hM9 : ∀ W, ST w n fr cA cl cC dA dl dC m s nd cpu cur mA mL mC W → Calls Try.prog 9 #[.agg #[.int .i64 n, .int .i64 fr, .slice cA cl cC, .slice dA dl dC]] W fun e w' => e = .returned (.agg #[.int .i64 n, .int .i64 fr, .slice cA cl cC, .slice dA dl dC]) ∧ Kept [] W w' := fun W _ => hmach W
  have hM10 : ∀ W, ST w n fr cA cl cC dA dl dC m s nd cpu cur mA mL mC W → Calls Try.prog 10 #[.agg #[.int .i64 m, .int .u8 s, .int .i64 nd]] W fun e w' => e = .returned (.agg #[.int .i64 m, .int .u8 s, .int .i64 nd]) ∧ Kept [] W w' := fun W _ => hrule W
  have HN := hide hnode
  have n1 := World.new_ne w2 _ t0
  have n2 := World.new_ne w2 _ q0
  have n3 := World.new_ne w2 _ a0
  clear hnode hK1 hmach hrule
  refine (fun (rest : PLift (?T : Prop)) => ?main) (PLift.up ?rest)
  case main =>
    go_region_held3 (fun w' => w'.cell? ⟨w.heap.size, 0, none⟩ = some (.int .i64 n) ∧ w'.cell? ⟨w.heap.size, 1, none⟩ = some (.int .i64 fr) ∧ w'.cell? ⟨w.heap.size, 2, none⟩ = some (.slice cA cl cC) ∧ w'.cell? ⟨w.heap.size, 3, none⟩ = some (.slice dA dl dC) ∧ w'.cell? ⟨w.heap.size + 1, 0, none⟩ = some (.int .i64 m) ∧ w'.cell? ⟨w.heap.size + 1, 1, none⟩ = some (.int .u8 s) ∧ w'.cell? ⟨w.heap.size + 1, 2, none⟩ = some (.int .i64 nd) ∧ w'.cell? ⟨w.heap.size + 1 + 1, 0, none⟩ = some (.int .i64 cpu) ∧ w'.cell? ⟨w.heap.size + 1 + 1, 1, none⟩ = some (.int .i64 cur) ∧ w'.cell? ⟨w.heap.size + 1 + 1, 2, none⟩ = some (.slice mA mL mC)) (go_keep) (first
      | (go_at_call 9; refine (hM9 _ S2).mono ?_; rintro e w3 ⟨rfl, hK3⟩; have S3 := S2.next hK3; obtain ⟨t0', t1', t2', t3'⟩ := S3.t; obtain ⟨q0', q1', q2'⟩ := S3.q; obtain ⟨a0', a1', a2'⟩ := S3.a; have := World.new_ne w3 _ t0'; have := World.new_ne w3 _ q0'; have := World.new_ne w3 _ a0')
      | (go_at_call 9; refine (hM9 _ (S2.alloc _)).mono ?_; rintro e w3 ⟨rfl, hK3⟩; have S3 := (S2.alloc _).next hK3; obtain ⟨t0', t1', t2', t3'⟩ := S3.t; obtain ⟨q0', q1', q2'⟩ := S3.q; obtain ⟨a0', a1', a2'⟩ := S3.a; have := World.new_ne w3 _ t0'; have := World.new_ne w3 _ q0'; have := World.new_ne w3 _ a0'; have hB3 : w3.rowIs w2.heap.size 33 3 (fun _ => .int .i64 0) := hK3.row (row3 w2.drew 33) (by simp))
      | (go_at_call 10; refine (hM10 _ S3).mono ?_; rintro e w4 ⟨rfl, hK4⟩; have S4 := S3.next hK4; obtain ⟨t0'', t1'', t2'', t3''⟩ := S4.t; obtain ⟨q0'', q1'', q2''⟩ := S4.q; obtain ⟨a0'', a1'', a2''⟩ := S4.a; have := World.new_ne w4 _ t0''; have := World.new_ne w4 _ q0''; have := World.new_ne w4 _ a0''; try (have hB4 := hK4.row hB3 (by simp)))
      | (go_at_call 10; refine (hM10 _ (S3.alloc _)).mono ?_; rintro e w4 ⟨rfl, hK4⟩; have S4 := (S3.alloc _).next hK4; obtain ⟨t0'', t1'', t2'', t3''⟩ := S4.t; obtain ⟨q0'', q1'', q2''⟩ := S4.q; obtain ⟨a0'', a1'', a2''⟩ := S4.a; have := World.new_ne w4 _ t0''; have := World.new_ne w4 _ q0''; have := World.new_ne w4 _ a0''; have hB4 := hK4.row (row3 w3 33) (by simp))
      | (go_at_call 8; refine (HN.out _ S4.kept).mono ?_; rintro e w5 ⟨x, st, cu, er, rfl, hNI, hK5⟩; have S5 := S4.next hK5; obtain ⟨u0, u1, u2, u3⟩ := S5.t; obtain ⟨v0, v1, v2⟩ := S5.q; obtain ⟨x0, x1, x2⟩ := S5.a; have := World.new_ne w5 _ u0; have := World.new_ne w5 _ v0; have := World.new_ne w5 _ x0; try (have hB5 := hK5.row hB4 (by simp); have z0 := hB5.cell (i := 0) (by omega); have z1 := hB5.cell (i := 1) (by omega); have z2 := hB5.cell (i := 2) (by omega); have y0 := hB5.frozen 0; have y1 := hB5.frozen 1; have y2 := hB5.frozen 2))
      | (go_at_call 8; refine (HN.out _ (S4.alloc _).kept).mono ?_; rintro e w5 ⟨x, st, cu, er, rfl, hNI, hK5⟩; have S5 := (S4.alloc _).next hK5; obtain ⟨u0, u1, u2, u3⟩ := S5.t; obtain ⟨v0, v1, v2⟩ := S5.q; obtain ⟨x0, x1, x2⟩ := S5.a; have := World.new_ne w5 _ u0; have := World.new_ne w5 _ v0; have := World.new_ne w5 _ x0; have hB5 := hK5.row (row3 w4 33) (by simp); have z0 := hB5.cell (i := 0) (by omega); have z1 := hB5.cell (i := 1) (by omega); have z2 := hB5.cell (i := 2) (by omega); have y0 := hB5.frozen 0; have y1 := hB5.frozen 1; have y2 := hB5.frozen 2))
    · rename_i hHeld
      clear hHeld
      have S6 := S5.alloc (.cells #[.int .i64 x, .int .i64 st, .int .i64 cu] 33)
      obtain ⟨c0, c1, c2⟩ := alloc3 w5 33 (.int .i64 x) (.int .i64 st) (.int .i64 cu)
      generalize (w5.alloc (.cells #[.int .i64 x, .int .i64 st, .int .i64 cu] 33)) = W at S6 c0 c1 c2 ⊢
      generalize w5.heap.size = bc at c0 c1 c2 ⊢
      revert hNI S6 c0 c1 c2
      revert W bc x st cu er
      exact rest.down
    · rename_i hHeld
      clear hHeld
      obtain ⟨S6, c0, c1, c2⟩ := S5.put hB5 (by assumption) (by assumption) (by assumption) (by have := S2.kept.size; have := S3.kept.size; have := S4.kept.size; first | omega | (simp at *; omega)) (.int .i64 x) (.int .i64 st) (.int .i64 cu)
      generalize (((w5.setCell ⟨w4.heap.size, 0, none⟩ (.int .i64 x)).setCell ⟨w4.heap.size, 1, none⟩ (.int .i64 st)).setCell ⟨w4.heap.size, 2, none⟩ (.int .i64 cu)) = W at S6 c0 c1 c2 ⊢
      generalize w4.heap.size = bc at c0 c1 c2 ⊢
      revert hNI S6 c0 c1 c2
      revert W bc x st cu er
      exact rest.down
    · rename_i hHeld
      clear hHeld
      obtain ⟨S6, c0, c1, c2⟩ := S5.put hB5 (by assumption) (by assumption) (by assumption) (by have := S2.kept.size; have := S3.kept.size; have := S4.kept.size; first | omega | (simp at *; omega)) (.int .i64 x) (.int .i64 st) (.int .i64 cu)
      generalize (((w5.setCell ⟨w3.heap.size, 0, none⟩ (.int .i64 x)).setCell ⟨w3.heap.size, 1, none⟩ (.int .i64 st)).setCell ⟨w3.heap.size, 2, none⟩ (.int .i64 cu)) = W at S6 c0 c1 c2 ⊢
      generalize w3.heap.size = bc at c0 c1 c2 ⊢
      revert hNI S6 c0 c1 c2
      revert W bc x st cu er
      exact rest.down
    · rename_i hHeld
      clear hHeld
      obtain ⟨S6, c0, c1, c2⟩ := S5.put hB5 (by assumption) (by assumption) (by assumption) (by have := S2.kept.size; have := S3.kept.size; have := S4.kept.size; first | omega | (simp at *; omega)) (.int .i64 x) (.int .i64 st) (.int .i64 cu)
      generalize (((w5.setCell ⟨w2.heap.size, 0, none⟩ (.int .i64 x)).setCell ⟨w2.heap.size, 1, none⟩ (.int .i64 st)).setCell ⟨w2.heap.size, 2, none⟩ (.int .i64 cu)) = W at S6 c0 c1 c2 ⊢
      generalize w2.heap.size = bc at c0 c1 c2 ⊢
      revert hNI S6 c0 c1 c2
      revert W bc x st cu er
      exact rest.down
  case rest =>
    intro x st cu er W bc hNI S6 c0 c1 c2
    clear t0 t1 t2 t3 q0 q1 q2 a0 a1 a2 S2 hM9 hM10 HN
    rcases node_parts hNI with ⟨e0, e5⟩ | ⟨hok, hp, a, ha, hst, r, hr, hx, he⟩
    · have e0' : (er != 0) = true := by simpa using e0
      have e5' : (er != 5) = true := by simpa using e5
      have K6 := hide S6.kept
      clear S6 c0 c1 c2 hNI HA HM e0 e5
      go_wp2_with fail
      refine (chooses_true _).mono ?_
      rintro e w7 ⟨rfl, hK7⟩
      have K7 := hide (K6.out.next hK7)
      clear hK7
      go_wp2_with fail
      refine (chooses_true _).mono ?_
      rintro e w8 ⟨rfl, hK8⟩
      have K8 := hide (K7.out.next hK8)
      clear hK8
      go_wp2
      go_ret
      exact ⟨rfl, K8.out⟩
    · subst hst
      obtain ⟨⟨⟨n1, n8⟩, -⟩, -, hdp⟩ := tchk_ok hok
      obtain ⟨N, rfl⟩ := Int.eq_ofNat_of_zero_le (show 0 ≤ n by omega)
      rw [Int.toNat_natCast] at hdp hr
      have haN : a < N := by omega
      have hps : (if m = 1 then s else ND.run 0 N) = permS m s nd N := by unfold permS; rw [if_pos hp, Int.toNat_natCast]
      have hperm := PR.permitted_ok m s nd N (by omega) n8
      rw [Int.toNat_natCast, hps] at hperm
      have hps2 : permS m s nd N < 256 := by
        rw [← hps]
        split
        · exact hs
        · exact ND.run_lt 0 _ (by omega)
      generalize permS m s nd N = ps at hperm hps2 hr
      unfold pol at hperm
      obtain ⟨hdl, hLn, -⟩ := hdp
      subst hdl
      obtain ⟨b, off, A, C, hdA, hcell, hC1, hC2, hints⟩ := HA.out.rows a haN
      rw [hLn a haN] at hcell hints hC1
      subst hdA
      have n8' : dl ≤ 8 := by omega
      have haNi : (a : Int) < (dl : Int) := ha
      clear ha
      clear hNI hok hp n1 hps hLn
      cases r with
      | none =>
        have hx0 : x = 0 := hx
        have he5 : er = 5 := he
        clear hx he
        subst hx0 he5
        have HNone := hide (hr.none rfl)
        have HI := hide hints
        clear hr hints
        have T6 := hide S6
        have HP := hide hperm
        have HC := hide hcell
        clear S6 hperm hcell
        go_wp2_with fail
        refine (chooses_true _).mono ?_
        rintro e w7 ⟨rfl, hK7⟩
        have S7 := T6.out.next hK7
        obtain ⟨c0, c1, c2⟩ := cells3 hK7 (by simp) ⟨c0, c1, c2⟩
        obtain ⟨t0, t1, t2, t3⟩ := S7.t
        obtain ⟨q0, q1, q2⟩ := S7.q
        obtain ⟨a0, a1, a2⟩ := S7.a
        have T7 := hide S7
        clear hK7 T6 S7
        go_wp2_with fail
        refine (HP.out _).mono ?_
        rintro e w8 ⟨rfl, hK8⟩
        have S8 := hide (T7.out.next hK8)
        obtain ⟨c0, c1, c2⟩ := cells3 hK8 (by simp) ⟨c0, c1, c2⟩
        obtain ⟨t0, t1, t2, t3⟩ := S8.out.t
        obtain ⟨q0, q1, q2⟩ := S8.out.q
        obtain ⟨a0, a1, a2⟩ := S8.out.a
        have hcell := S8.out.kept.cell HC.out (by simp)
        have HMb := hide (HM.out.kept S8.out.kept)
        clear hK8 T7 HP HC
        go_wp2
        have d1 : decide ((a : Int) < 0) = false := decide_eq_false (by omega)
        have d2 : decide (dl ≤ a) = false := decide_eq_false (by omega)
        try simp only [d1, d2, Bool.or_false]
        clear d1 d2
        go_loopw [11] (fun i wr => ∃ k : Nat, k ≤ dl ∧ i = .int .i64 k ∧ Kept [] w8 wr) (fun i _ => dl - (intOf i).toNat)
        case atStart => exact ⟨0, by omega, rfl, Kept.refl _ _⟩
        case round =>
          obtain ⟨k, hk, rfl, hKk⟩ := hrel
          have S9 := hide (S8.out.next hKk)
          obtain ⟨c0', c1', c2'⟩ := cells3 hKk (by simp) ⟨c0, c1, c2⟩
          obtain ⟨t0', t1', t2', t3'⟩ := S9.out.t
          obtain ⟨a0', a1', a2'⟩ := S9.out.a
          have HK := hide hKk
          clear c0 c1 c2 t0 t1 t2 t3 a0 a1 a2 q0 q1 q2 hKk
          by_cases hkl : k < dl
          · have hki : (k : Int) < (dl : Int) := by omega
            have hhk := NR.has_any ps k hps2
            cases hbk : ND.hasB ps k with
            | false =>
              rw [hbk] at hhk
              go_wp2_with (go_at_call 14; refine (hhk _).mono ?_; rintro e w' ⟨rfl, hw⟩; subst w')
              go_roundw
              case rel => exact ⟨k + 1, by omega, by go_num, HK.out⟩
              case measure => simp [intOf]; omega
            | true =>
              rw [hbk] at hhk
              by_cases hkm : k < mL
              · have hkmi : (k : Int) < (mL : Int) := by omega
                obtain ⟨mb2, mo2, hmA2, hmc2⟩ := (HMb.out.kept HK.out) k hkm
                subst hmA2
                cases hmz : mz k with
                | false =>
                  rw [hmz] at hmc2
                  go_wp2_with (go_at_call 14; refine (hhk _).mono ?_; rintro e w' ⟨rfl, hw⟩; subst w')
                  go_roundw
                  case rel => exact ⟨k + 1, by omega, by go_num, HK.out⟩
                  case measure => simp [intOf]; omega
                | true =>
                  exfalso
                  have h1 := HNone.out k hkl
                  unfold mayB at h1
                  rw [hbk, hmz, decide_eq_true hkm] at h1
                  cases h1
              · have hkmi : ¬ (k : Int) < (mL : Int) := by omega
                go_wp2_with (go_at_call 14; refine (hhk _).mono ?_; rintro e w' ⟨rfl, hw⟩; subst w')
                go_roundw
                case rel => exact ⟨k + 1, by omega, by go_num, HK.out⟩
                case measure => simp [intOf]; omega
          · have e : k = dl := by omega
            subst e
            have hKe := hide (S9.out.kept)
            go_wp2
            go_ret
            exact ⟨rfl, hKe.out⟩
      | some y =>
        have hx0 : x = (y : Int) := hx
        have he5 : er = 0 := he
        clear hx he
        subst hx0 he5
        obtain ⟨hyN, hpy, hmin⟩ := hr.some y rfl
        have HMin := hide hmin
        have HI := hide hints
        have HC := hide hcell
        have HP := hide hperm
        have T6 := hide S6
        simp only [Bool.and_eq_true] at hpy
        obtain ⟨hpy1, hpy2⟩ := hpy
        unfold mayB at hpy2
        simp only [Bool.and_eq_true, decide_eq_true_eq] at hpy2
        obtain ⟨hym, hmy⟩ := hpy2
        have hhas := NR.has_any ps y hps2
        rw [hpy1] at hhas
        clear hr hints hcell hperm S6 hmin hpy1
        go_wp2_with fail
        refine (chooses_true _).mono ?_
        rintro e w7 ⟨rfl, hK7⟩
        have S7 := T6.out.next hK7
        obtain ⟨c0, c1, c2⟩ := cells3 hK7 (by simp) ⟨c0, c1, c2⟩
        obtain ⟨t0, t1, t2, t3⟩ := S7.t
        obtain ⟨q0, q1, q2⟩ := S7.q
        obtain ⟨a0, a1, a2⟩ := S7.a
        have T7 := hide S7
        clear hK7 T6 S7
        go_wp2_with fail
        refine (HP.out _).mono ?_
        rintro e w8 ⟨rfl, hK8⟩
        have S8 := hide (T7.out.next hK8)
        obtain ⟨c0, c1, c2⟩ := cells3 hK8 (by simp) ⟨c0, c1, c2⟩
        obtain ⟨t0, t1, t2, t3⟩ := S8.out.t
        obtain ⟨q0, q1, q2⟩ := S8.out.q
        obtain ⟨a0, a1, a2⟩ := S8.out.a
        have hcell := S8.out.kept.cell HC.out (by simp)
        have HMb := hide (HM.out.kept S8.out.kept)
        obtain ⟨mb, mo, hmA, hmc⟩ := HMb.out y hym
        subst hmA
        rw [hmy] at hmc
        have hymi : (y : Int) < (mL : Int) := by omega
        clear hK8 T7 HP HC
        go_wp2_with (go_at_call 14; refine (hhas _).mono ?_; rintro e w' ⟨rfl, hw⟩; subst w')
        have d1 : decide ((a : Int) < 0) = false := decide_eq_false (by omega)
        have d2 : decide (dl ≤ a) = false := decide_eq_false (by omega)
        try simp only [d1, d2, Bool.or_false, Bool.false_or]
        clear d1 d2
        have d3 : decide ((y : Int) < 0) = false := decide_eq_false (by omega)
        have d4 : decide (mL ≤ y) = false := decide_eq_false (by omega)
        try simp only [d3, d4, Bool.or_false]
        clear d3 d4
        go_loopw [11] (fun i wr => ∃ k : Nat, k ≤ dl ∧ i = .int .i64 k ∧ Kept [] w8 wr) (fun i _ => dl - (intOf i).toNat)
        case atStart => exact ⟨0, by omega, rfl, Kept.refl _ _⟩
        case round =>
          obtain ⟨k, hk, rfl, hKk⟩ := hrel
          have S9 := hide (S8.out.next hKk)
          obtain ⟨c0', c1', c2'⟩ := cells3 hKk (by simp) ⟨c0, c1, c2⟩
          obtain ⟨t0', t1', t2', t3'⟩ := S9.out.t
          obtain ⟨a0', a1', a2'⟩ := S9.out.a
          have HK := hide hKk
          clear c0 c1 c2 t0 t1 t2 t3 a0 a1 a2 q0 q1 q2 hKk
          by_cases hkl : k < dl
          · have hki : (k : Int) < (dl : Int) := by omega
            have hhk := NR.has_any ps k hps2
            cases hbk : ND.hasB ps k with
            | false =>
              rw [hbk] at hhk
              go_wp2_with (go_at_call 14; refine (hhk _).mono ?_; rintro e w' ⟨rfl, hw⟩; subst w')
              go_roundw
              case rel => exact ⟨k + 1, by omega, by go_num, HK.out⟩
              case measure => simp [intOf]; omega
            | true =>
              rw [hbk] at hhk
              by_cases hkm : k < mL
              · have hkmi : (k : Int) < (mL : Int) := by omega
                obtain ⟨mb2, mo2, hmA2, hmc2⟩ := (HMb.out.kept HK.out) k hkm
                obtain ⟨rfl, rfl⟩ : mb = mb2 ∧ mo = mo2 := by simpa using hmA2
                cases hmz : mz k with
                | false =>
                  rw [hmz] at hmc2
                  go_wp2_with (go_at_call 14; refine (hhk _).mono ?_; rintro e w' ⟨rfl, hw⟩; subst w')
                  go_roundw
                  case rel => exact ⟨k + 1, by omega, by go_num, HK.out⟩
                  case measure => simp [intOf]; omega
                | true =>
                  rw [hmz] at hmc2
                  have hmn := HMin.out k hkl (by unfold mayB; rw [hbk, hmz, decide_eq_true hkm]; rfl)
                  obtain ⟨b2, o2, hA2, hck, -⟩ := IsInts.kept HI.out S9.out.kept k hkl
                  subst hA2
                  obtain ⟨b3, o3, hA3, hcy, -⟩ := IsInts.kept HI.out S9.out.kept y hyN
                  obtain ⟨rfl, rfl⟩ : b2 = b3 ∧ o2 = o3 := by simpa using hA3
                  obtain ⟨dk, hdk⟩ : ∃ v, v = Z a k := ⟨_, rfl⟩
                  obtain ⟨dy, hdy⟩ : ∃ v, v = Z a y := ⟨_, rfl⟩
                  unfold nearer at hmn
                  rw [← hdk] at hck
                  rw [← hdy] at hcy
                  have hnl : ¬ dk < dy := by
                    rcases hmn with e | e
                    · subst e; omega
                    · rw [← hdk, ← hdy] at e; omega
                  have hyi : (y : Int) < (dl : Int) := by omega
                  have hy0 : (0 : Int) ≤ (y : Int) := by omega
                  have hk0 : (0 : Int) ≤ (k : Int) := by omega
                  have dlt : decide (dk < dy) = false := decide_eq_false hnl
                  by_cases hde : dk = dy
                  · have hky : ¬ (k : Int) < (y : Int) := by
                      rcases hmn with e | e
                      · subst e; omega
                      · rw [← hdk, ← hdy] at e; omega
                    have dky : decide ((k : Int) < (y : Int)) = false := decide_eq_false hky
                    clear hmn hdk hdy dlt
                    subst hde
                    go_wp2_with (first | (go_at_call 14; refine (hhk _).mono ?_; rintro e w' ⟨rfl, hw⟩; subst w') | fail)
                    go_region_held3 (fun w' => w'.cell? ⟨bc, 0, none⟩ = some (.int .i64 (y : Int)) ∧ w'.cell? ⟨b2, o2 + k, none⟩ = some (.int .i64 dk) ∧ w'.cell? ⟨b2, o2 + y, none⟩ = some (.int .i64 dk)) (go_keep) (fail)
                    go_wp2
                    go_roundw
                    case rel => exact ⟨k + 1, by omega, by go_num, HK.out.drew⟩
                    case measure => simp [intOf]; omega
                  · have hde' : (dk == dy) = false := by simpa using hde
                    clear hmn hdk hdy
                    go_wp2_with (first | (go_at_call 14; refine (hhk _).mono ?_; rintro e w' ⟨rfl, hw⟩; subst w') | fail)
                    go_big_region
                    all_goals go_wp2
                    go_roundw
                    case rel => exact ⟨k + 1, by omega, by go_num, HK.out.drew⟩
                    case measure => simp [intOf]; omega
              · have hkmi : ¬ (k : Int) < (mL : Int) := by omega
                go_wp2_with (go_at_call 14; refine (hhk _).mono ?_; rintro e w' ⟨rfl, hw⟩; subst w')
                go_roundw
                case rel => exact ⟨k + 1, by omega, by go_num, HK.out⟩
                case measure => simp [intOf]; omega
          · have e : k = dl := by omega
            subst e
            have hKe := hide (S9.out.kept)
            go_wp2
            go_ret
            exact ⟨rfl, hKe.out⟩

theorem own : ownKnob Try.prog.godebug = none := by kernel_rfl
theorem laidOut : laidOutB Try.prog = true := by kernel_rfl

set_option maxRecDepth 100000 in
theorem lifted (os : Os) (started : os.Started) (H : Type) (enc : TypeId × Value → H) :
    ReturnsInHanded {} Try.checked os 4 .any (Rows.chooseNearSpec.pre6 enc Try.prog Try.f4 Rows.chooseNearRow.domain false) (Rows.chooseNearSpec.post enc Try.prog Try.f4 false true false false) := by
  refine returnsInHanded_of_change (C := Try.checked) own started (by kernel_rfl) Try.func4
    (ChangeSpec.witness6 (enc := enc) (C := Try.checked) false ⟨#[], #[.agg #[.int .i64 0, .int .i64 0, .slice none 0 0, .slice none 0 0], .agg #[.int .i64 0, .int .u8 0, .int .i64 0], .agg #[.int .i64 0, .int .i64 0, .slice none 0 0]], []⟩ 8 (by kernel_rfl) (by kernel_rfl) (by kernel_rfl) (by kernel_rfl)) ?_
  intro W base args ds gs before hval0 hW hcnd _
  have hval : ∀ (j : Nat) t v, Try.f4.params[j]? = some t → args[j]? = some v → Value.okWide Try.prog W .any base t v := hval0
  have hW' := hW
  obtain ⟨p, q, hA0, hV, rfl, hfz, hnd⟩ := hW
  have hA : DataW.TrodAll enc Try.prog W 0 (fun _ => true) true Try.f4.params.toList args.toList ds p := hA0
  have hK := hA
  rw [Try.params4] at hA hval
  obtain ⟨v0, vs0, d0, ds0, p0, q0, hargs, rfl, rfl, h0, r0⟩ := trodAll_cons hA
  obtain ⟨v1, vs1, d1, ds1, p1, q1, rfl, rfl, rfl, h1, r1⟩ := trodAll_cons r0
  obtain ⟨v2, vs2, d2, ds2, p2, q2, rfl, rfl, rfl, h2, r2⟩ := trodAll_cons r1
  obtain ⟨rfl, rfl, rfl⟩ := trodAll_nil r2
  obtain rfl : args = #[v0, v1, v2] := by cases args; simp_all
  obtain ⟨rfl, rfl⟩ := trodVars_none hV
  obtain ⟨n, fr, cA, cL, cC, cz, dA, dL, dC, L, Z, rfl, hc, hd, wn, wfr, hAt⟩ := open_topo (e2 := 3) (e3 := 22) (q3 := 3) Try.underlying25 (by kernel_rfl) rfl rfl rfl rfl (by kernel_rfl) (by kernel_rfl) (by kernel_rfl) (by kernel_rfl) (by kernel_rfl) (by kernel_rfl) (by kernel_rfl) (by kernel_rfl) (by kernel_rfl) (by kernel_rfl) (by kernel_rfl) (by kernel_rfl) (by kernel_rfl) (by kernel_rfl) h0
  obtain ⟨m, s, nd, rfl, wf1a, wf1b, wf1c⟩ := open_agg3 (k0 := .i64) (k1 := .u8) (k2 := .i64) Try.underlying27 (by kernel_rfl) rfl rfl rfl (by kernel_rfl) (by kernel_rfl) (by kernel_rfl) (by kernel_rfl) (by kernel_rfl) (by kernel_rfl) h1
  obtain ⟨sn, rfl⟩ := Int.eq_ofNat_of_zero_le (bounds_u8 wf1b).1
  have hs : sn < 256 := by have := (bounds_u8 wf1b).2; omega
  obtain ⟨cpu, cur, mA, mL, mC, mz, rfl, hm1, hm2, hm3, wc, wcu, hMb⟩ := open_ask (e2 := 4) Try.underlying30 (by kernel_rfl) rfl rfl rfl (by kernel_rfl) (by kernel_rfl) (by kernel_rfl) (by kernel_rfl) (by kernel_rfl) (by kernel_rfl) (by kernel_rfl) (by kernel_rfl) h2
  clear hA0 hval0
  refine (law_any hAt hc hd m sn nd cpu cur hs hMb (by omega)).mono fun e W' ⟨he, hk⟩ => ?_
  subst he
  exact ⟨_, rfl, _, _, _, [], _, [], hW', trodAll_mk1 (shut_bool Try.underlying4 _), trodAll_below laidOut hk.below _ _ _ _ hK (by kernel_rfl), rfl, hk.below.frame _, fun h => by cases h⟩

theorem said : Rows.ChooseNearSaid :=
  OpenClaim.holds_of_wide 4 Try.f4 rfl rfl rfl rfl rfl rfl rfl ⟨rfl, rfl, rfl, rfl, rfl⟩ rfl rfl rfl rfl rfl (by kernel_rfl) Try.func4 (by kernel_rfl)
    (of_decide_eq_true (by kernel_rfl)) (by unfold Func.isWrapper; first | (rw [if_pos (by decide +kernel)]; kernel_rfl) | (rw [if_neg (by decide +kernel)]; exact ⟨rfl, rfl⟩))
    (fun os started H enc _ => lifted os started H enc)
end Go.Proofs.Ytpnlialhefknnab.LN
