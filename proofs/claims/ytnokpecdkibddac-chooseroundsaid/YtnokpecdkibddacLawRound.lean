/-
  The walk of 'messuagelaw11.ChooseRound', and the given statement of it.
-/
import Derived.Test.YtnokpecdkibddacChLaw
import Derived.Test.YtnokpecdkibddacPolRef
import Derived.Test.YtnokpecdkibddacTopoRef
import Derived.Test.YtnokpecdkibddacOpenTopo
import Derived.Test.YtnokpecdkibddacRows
import Derived.BigRegion
import Derived.BigQuiet
import Derived.Deep.RegionHeld3
namespace Go.Proofs.Ytnokpecdkibddac.LR
open Go.ChangeShapes Go.WideShapes Go.ChangeAt Go.RowKit TP ZN ND PO CH
/-- The node that comes k starts behind the one at place i. -/
def at_ (l : List Int) (i k : Nat) : Int := l.getD ((i + k) % l.length) 0
def vis (l : List Int) (i k : Nat) (y : Int) : Bool := (List.range k).any (fun j => at_ l i j == y)
theorem vis_succ (l : List Int) (i k : Nat) (y : Int) : vis l i (k + 1) y = (vis l i k y || (at_ l i k == y)) := by
  unfold vis; rw [List.range_succ, List.any_append]; simp
theorem cyc : ∀ s, s < 256 → ∀ i, i < (nodes s).length → (nextOf (nodes s) ((nodes s).getD i 0)).1 = (nodes s).getD ((i + 1) % (nodes s).length) 0 := by decide +kernel
theorem lens : ∀ s, s < 256 → Lib.onesCount s = (nodes s).length := by decide +kernel
theorem apart : ∀ s, s < 256 → ∀ i, i < (nodes s).length → ∀ j, j < (nodes s).length → (nodes s).getD i 0 = (nodes s).getD j 0 → i = j := by decide +kernel
theorem mem_get {l : List Int} {i : Nat} (h : i < l.length) : l.getD i 0 ∈ l := by
  rw [List.getD_eq_getElem?_getD, List.getElem?_eq_getElem h]; exact List.getElem_mem h
theorem first (s : Nat) (hs : s ≠ 0) (h2 : s < 256) (cur : Int) : ∃ i, i < (nodes s).length ∧ (nextOf (nodes s) cur).1 = (nodes s).getD i 0 := by
  have hl := (PR.last_max s h2 hs).1
  cases hn : nodes s with
  | nil => rw [hn] at hl; simp at hl
  | cons x r =>
    unfold nextOf
    simp only []
    cases hf : (x :: r).find? (fun y => decide (cur < y)) with
    | none => exact ⟨0, by simp, rfl⟩
    | some y =>
      have hm : y ∈ x :: r := List.mem_of_find?_eq_some hf
      obtain ⟨i, hi, e⟩ := List.getElem_of_mem hm
      refine ⟨i, hi, ?_⟩
      rw [List.getD_eq_getElem?_getD, List.getElem?_eq_getElem hi, e]; rfl
/-- The cursor behind k starts. -/
def cu (l : List Int) (i : Nat) (cur : Int) : Nat → Int
  | 0 => cur
  | k + 1 => at_ l i k
theorem step {s i : Nat} {cur : Int} (hs : s < 256) (h : i < (nodes s).length) (hi : (nextOf (nodes s) cur).1 = (nodes s).getD i 0) (k : Nat) : (nextOf (nodes s) (cu (nodes s) i cur k)).1 = at_ (nodes s) i k := by
  cases k with
  | zero => show (nextOf (nodes s) cur).1 = _; rw [hi]; unfold at_; rw [Nat.add_zero, Nat.mod_eq_of_lt h]
  | succ k =>
    show (nextOf (nodes s) (at_ (nodes s) i k)).1 = _
    unfold at_
    rw [cyc s hs _ (Nat.mod_lt _ (by omega))]
    congr 1
    rw [Nat.mod_add_mod, Nat.add_assoc]
theorem fresh {s i k : Nat} (hs : s < 256) (h : i < (nodes s).length) (hk : k < (nodes s).length) : vis (nodes s) i k (at_ (nodes s) i k) = false := by
  unfold vis
  rw [List.any_eq_false]
  intro j hj he
  have hjk : j < k := List.mem_range.1 hj
  have e : at_ (nodes s) i j = at_ (nodes s) i k := by simpa using he
  have e2 := apart s hs _ (Nat.mod_lt _ (by omega)) _ (Nat.mod_lt _ (by omega)) e
  have hl : 0 < (nodes s).length := by omega
  have a1 := Nat.div_add_mod (i + j) (nodes s).length
  have a2 := Nat.div_add_mod (i + k) (nodes s).length
  rw [e2] at a1
  generalize (nodes s).length = n at *
  generalize (i + k) % n = r at *
  have hd : (i + j) / n = (i + k) / n ∨ (i + j) / n + 1 ≤ (i + k) / n := by
    have := Nat.div_le_div_right (c := n) (show i + j ≤ i + k by omega)
    omega
  rcases hd with hd | hd
  · rw [hd] at a1; omega
  · have := Nat.mul_le_mul_left n hd
    rw [Nat.mul_add] at this
    omega
theorem at_in {s i k : Nat} (_hs : s < 256) (h : i < (nodes s).length) : ∃ x : Nat, at_ (nodes s) i k = x ∧ x < 8 ∧ s.testBit x = true := by
  have hm := pre_mem (mem_get (l := nodes s) (i := (i + k) % (nodes s).length) (Nat.mod_lt _ (by omega)))
  obtain ⟨x, hx⟩ := Int.eq_ofNat_of_zero_le hm.1
  refine ⟨x, hx, ?_, ?_⟩
  · have := hm.2.1; rw [hx] at this; omega
  · have := hm.2.2; rw [hx] at this; simpa using this
theorem at_min {w : World} {cA : Option Addr} {cL : Nat} {cz : Nat → Int} {dA : Option Addr} {dL : Nat} {L : Nat → Nat} {Z : Nat → Nat → Int} (h : At w cA cL cz dA dL L Z) (a b : Nat) : At w cA (min cL a) cz dA (min dL b) L Z :=
  ⟨by have := h.cl; omega, by have := h.dl; omega, fun i hi => h.cpus i (by omega), fun r hr => h.rows r (by omega)⟩
theorem row4 (w : World) (t : TypeId) (a b c d : Value) : (w.alloc (.cells #[a, b, c, d] t)).rowIs w.heap.size t 4 (fun i => (#[a, b, c, d] : Array Value).getD i a) :=
  World.rowIs_alloc w #[a, b, c, d] t _ (by
    intro i hi
    match i, hi with
    | 0, _ => rfl
    | 1, _ => rfl
    | 2, _ => rfl
    | 3, _ => rfl)
theorem put4 {w : World} {b : Nat} {t : TypeId} {g : Nat → Value} (h : w.rowIs b t 4 g) (x y z u : Value) :
    (((((w.setCell ⟨b, 0, none⟩ x).setCell ⟨b, 1, none⟩ y).setCell ⟨b, 2, none⟩ z).setCell ⟨b, 3, none⟩ u).cell? ⟨b, 0, none⟩ = some x ∧ ((((w.setCell ⟨b, 0, none⟩ x).setCell ⟨b, 1, none⟩ y).setCell ⟨b, 2, none⟩ z).setCell ⟨b, 3, none⟩ u).cell? ⟨b, 1, none⟩ = some y ∧
    ((((w.setCell ⟨b, 0, none⟩ x).setCell ⟨b, 1, none⟩ y).setCell ⟨b, 2, none⟩ z).setCell ⟨b, 3, none⟩ u).cell? ⟨b, 2, none⟩ = some z ∧ ((((w.setCell ⟨b, 0, none⟩ x).setCell ⟨b, 1, none⟩ y).setCell ⟨b, 2, none⟩ z).setCell ⟨b, 3, none⟩ u).cell? ⟨b, 3, none⟩ = some u) ∧
    Kept [b] w ((((w.setCell ⟨b, 0, none⟩ x).setCell ⟨b, 1, none⟩ y).setCell ⟨b, 2, none⟩ z).setCell ⟨b, 3, none⟩ u) := by
  have h3 := (((h.set 0 x).set 1 y).set 2 z).set 3 u
  refine ⟨⟨(h3.cell (i := 0) (by omega)).trans (by simp), (h3.cell (i := 1) (by omega)).trans (by simp), (h3.cell (i := 2) (by omega)).trans (by simp), (h3.cell (i := 3) (by omega)).trans (by simp)⟩, ?_⟩
  exact ((((Kept.refl [b] w).setCell (fun _ => by simp) x).setCell (fun _ => by simp) y).setCell (fun _ => by simp) z).setCell (fun _ => by simp) u
/-- Three cells that lie where they lay. -/
theorem cells3 {w w1 : World} {M : List Nat} (hK : Kept M w w1) {b : Nat} {x y z : Value} (hb : b ∉ M) (h : w.cell? ⟨b, 0, none⟩ = some x ∧ w.cell? ⟨b, 1, none⟩ = some y ∧ w.cell? ⟨b, 2, none⟩ = some z) :
    w1.cell? ⟨b, 0, none⟩ = some x ∧ w1.cell? ⟨b, 1, none⟩ = some y ∧ w1.cell? ⟨b, 2, none⟩ = some z :=
  ⟨hK.cell h.1 hb, hK.cell h.2.1 hb, hK.cell h.2.2 hb⟩
theorem cells4 {w w1 : World} {M : List Nat} (hK : Kept M w w1) {b : Nat} {x y z u : Value} (hb : b ∉ M) (h : w.cell? ⟨b, 0, none⟩ = some x ∧ w.cell? ⟨b, 1, none⟩ = some y ∧ w.cell? ⟨b, 2, none⟩ = some z ∧ w.cell? ⟨b, 3, none⟩ = some u) :
    w1.cell? ⟨b, 0, none⟩ = some x ∧ w1.cell? ⟨b, 1, none⟩ = some y ∧ w1.cell? ⟨b, 2, none⟩ = some z ∧ w1.cell? ⟨b, 3, none⟩ = some u :=
  ⟨hK.cell h.1 hb, hK.cell h.2.1 hb, hK.cell h.2.2.1 hb, hK.cell h.2.2.2 hb⟩
theorem alloc3 (w : World) (t : TypeId) (x y z : Value) : (w.alloc (.cells #[x, y, z] t)).cell? ⟨w.heap.size, 0, none⟩ = some x ∧ (w.alloc (.cells #[x, y, z] t)).cell? ⟨w.heap.size, 1, none⟩ = some y ∧ (w.alloc (.cells #[x, y, z] t)).cell? ⟨w.heap.size, 2, none⟩ = some z := by simp
theorem round_chk : ∀ N : Nat, N < 9 → 1 ≤ N → chk 2 (run 0 N) 0 N = 0 := by decide +kernel
theorem round_len : ∀ N : Nat, N < 9 → (nodes (run 0 N)).length = N := by decide +kernel
theorem round_bit : ∀ N : Nat, N < 9 → ∀ x : Nat, x < 8 → (run 0 N).testBit x = true → x < N := by decide +kernel
theorem round_has : ∀ N : Nat, N < 9 → ∀ y : Nat, y < N → hasB (run 0 N) (y : Int) = true := by decide +kernel
theorem round_ne : ∀ N : Nat, N < 9 → 1 ≤ N → run 0 N ≠ 0 := by decide +kernel
/-- Where all may, an Interleave over all nodes chooses where it begins. -/
theorem round_is {N : Nat} {fr : Int} {cl : Nat} {cz : Nat → Int} {dl : Nat} {L : Nat → Nat} {Z : Nat → Nat → Int} {kc : Nat} {cur x st cu e : Int} (h : NodeIs N fr cl cz dl L Z 2 (run 0 N) 0 kc cur 8 (fun _ => true) x st cu e)
    (hok : tchk N fr cl cz dl L Z = 0) (hkc : kc < cl) {X : Nat} (hX : (nextOf (nodes (run 0 N)) cur).1 = X) (hXN : X < N) : x = X ∧ st = X ∧ cu = X ∧ e = 0 := by
  obtain ⟨⟨⟨n1, n8⟩, -⟩, hcp, -, -, hfit⟩ := tchk_ok hok
  rw [Int.toNat_natCast] at hfit
  have hc := round_chk N (by omega) (by omega)
  rcases h with ⟨g, -⟩ | ⟨-, g, -⟩ | ⟨-, k, -, -, g, -⟩ | ⟨-, k, hk, hk2, -, a, ha, a1, a2, a3, r, a4, a5, a6⟩
  · exact absurd hok g
  · exact absurd ⟨by omega, by omega⟩ g
  · exact absurd hc g
  · obtain rfl : kc = k := by omega
    have hs : startOf 2 (run 0 N) 0 N (cz kc) cur = ((nextOf (nodes (run 0 N)) cur).1, (nextOf (nodes (run 0 N)) cur).1, 0) := by
      unfold startOf
      rw [if_pos hc, if_pos (by unfold nodeE; rw [if_pos (hcp kc hkc)]), if_pos rfl]
    rw [hs] at a1 a3
    simp only at a1 a3
    obtain rfl : a = X := by omega
    have hp : permS 2 (run 0 N) 0 N = run 0 N := by unfold permS; rw [if_pos hc, if_neg (by omega), Int.toNat_natCast]
    rw [hp, Int.toNat_natCast] at a4
    have hr : r = some a := a4.unique (by
      refine NearIs.mk (fun x hx => ?_) (fun h => by cases h)
      simp only [Option.some.injEq] at hx
      subst hx
      refine ⟨hXN, ?_, fun y hy _ => ?_⟩
      · show (hasB (run 0 N) (a : Int) && mayB 8 (fun _ => true) a) = true
        rw [round_has N (by omega) a hXN]
        unfold mayB
        simp
        omega
      · by_cases e : y = a
        · exact .inl e
        · right
          left
          have h1 := (hfit a hXN a hXN).1
          have h2 := (hfit a hXN y hy).1
          unfold fitP at h1 h2
          have := h1.1 rfl
          have := h2.2 (fun e' => e e'.symm)
          omega)
    subst hr
    simp at a5 a6
    exact ⟨by omega, by omega, by omega, by omega⟩
structure RT (w wr : World) (n fr : Int) (cA : Option Addr) (cl cC : Nat) (dA : Option Addr) (dl dC : Nat) (pb s : Nat) (W : World) : Prop where
  k : Kept [] wr W
  t : W.cell? ⟨w.heap.size, 0, none⟩ = some (.int .i64 n) ∧ W.cell? ⟨w.heap.size, 1, none⟩ = some (.int .i64 fr) ∧ W.cell? ⟨w.heap.size, 2, none⟩ = some (.slice cA cl cC) ∧ W.cell? ⟨w.heap.size, 3, none⟩ = some (.slice dA dl dC)
  p : W.cell? ⟨pb, 0, none⟩ = some (.int .i64 2) ∧ W.cell? ⟨pb, 1, none⟩ = some (.int .u8 s) ∧ W.cell? ⟨pb, 2, none⟩ = some (.int .i64 0)
theorem RT.next {w wr : World} {n fr : Int} {cA : Option Addr} {cl cC : Nat} {dA : Option Addr} {dl dC : Nat} {pb s : Nat} {W W' : World} (h : RT w wr n fr cA cl cC dA dl dC pb s W) (hk : Kept [] W W') : RT w wr n fr cA cl cC dA dl dC pb s W' :=
  ⟨h.k.next hk, cells4 hk (by simp) h.t, cells3 hk (by simp) h.p⟩
theorem RT.alloc {w wr : World} {n fr : Int} {cA : Option Addr} {cl cC : Nat} {dA : Option Addr} {dl dC : Nat} {pb s : Nat} {W : World} (h : RT w wr n fr cA cl cC dA dl dC pb s W) (o : Obj) : RT w wr n fr cA cl cC dA dl dC pb s (W.alloc o) := h.next ((Kept.refl [] W).alloc o)
theorem RT.put {w wr : World} {n fr : Int} {cA : Option Addr} {cl cC : Nat} {dA : Option Addr} {dl dC : Nat} {pb s : Nat} {W : World} (h : RT w wr n fr cA cl cC dA dl dC pb s W) {bb : Nat} {g : Nat → Value} (hB : W.rowIs bb 33 3 g)
    (h0 : bb ≠ w.heap.size) (h1 : bb ≠ pb) (hle : wr.heap.size ≤ bb) (x y z : Value) :
    RT w wr n fr cA cl cC dA dl dC pb s (((W.setCell ⟨bb, 0, none⟩ x).setCell ⟨bb, 1, none⟩ y).setCell ⟨bb, 2, none⟩ z) ∧
    (((W.setCell ⟨bb, 0, none⟩ x).setCell ⟨bb, 1, none⟩ y).setCell ⟨bb, 2, none⟩ z).cell? ⟨bb, 0, none⟩ = some x ∧ (((W.setCell ⟨bb, 0, none⟩ x).setCell ⟨bb, 1, none⟩ y).setCell ⟨bb, 2, none⟩ z).cell? ⟨bb, 1, none⟩ = some y ∧
    (((W.setCell ⟨bb, 0, none⟩ x).setCell ⟨bb, 1, none⟩ y).setCell ⟨bb, 2, none⟩ z).cell? ⟨bb, 2, none⟩ = some z := by
  obtain ⟨r0, r1, r2, hK⟩ := put3 hB x y z
  exact ⟨⟨h.k.trans hK (fun v hv hl => by simp at hv; omega), cells4 hK (by simp; omega) h.t, cells3 hK (by simp; omega) h.p⟩, r0, r1, r2⟩
set_option maxHeartbeats 4000000 in
set_option maxRecDepth 100000 in
theorem law_any {n fr : Int} {cA : Option Addr} {cL cC : Nat} {cz : Nat → Int} {dA : Option Addr} {dL dC : Nat} {L : Nat → Nat} {Z : Nat → Nat → Int} {w : World} (h : At w cA cL cz dA dL L Z) (hc : cL ≤ cC) (hd : dL ≤ dC) {uA : Option Addr} {uL uC : Nat} {uz : Nat → Int} (hu : IsInts .i64 w uA uL uz) :
    Calls Try.prog 4 #[tval n fr cA cL cC dA dL dC, .slice uA uL uC] w fun e w' => e = .returned (.bool true) ∧ Kept [] w w' := by
  have hT := tame_any n fr cA cL cC dA dL dC hc hd
  obtain ⟨cl, hcl⟩ : ∃ c, c = min cL 20 := ⟨_, rfl⟩
  obtain ⟨dl, hdl⟩ : ∃ c, c = min dL 10 := ⟨_, rfl⟩
  have hA : At w cA cl cz dA dl L Z := by rw [hcl, hdl]; exact at_min h 20 10
  rw [← hcl, ← hdl] at hT
  have HA := hide hA
  clear h hcl hdl hA
  unfold tval at hT
  unfold tval
  have HU := hide hu
  clear hu
  go_enter Try.func4, Try.ntmps4
  go_wp2_with fail
  refine (hT _).mono ?_
  rintro e w1 ⟨rfl, hK⟩
  have hB := hK.row (row4 w 25 _ _ _ _) (by simp)
  have z0 := hB.cell (i := 0) (by omega)
  have z1 := hB.cell (i := 1) (by omega)
  have z2 := hB.cell (i := 2) (by omega)
  have z3 := hB.cell (i := 3) (by omega)
  have y0 := hB.frozen 0
  have y1 := hB.frozen 1
  have y2 := hB.frozen 2
  have y3 := hB.frozen 3
  obtain ⟨tt, hK2⟩ := put4 hB (.int .i64 n) (.int .i64 fr) (.slice cA cl cC) (.slice dA dl dC)
  have K2 := hide ((((Kept.refl [] w).alloc (.cells #[.int .i64 n, .int .i64 fr, .slice cA cL cC, .slice dA dL dC] 25)).next hK).trans hK2 (fun x hx hl => by simp at hx; omega))
  clear hK hK2 hB hT
  go_wp2_with fail
  generalize (((w1.setCell ⟨w.heap.size, 0, none⟩ (.int .i64 n)).setCell ⟨w.heap.size, 1, none⟩ (.int .i64 fr)).setCell ⟨w.heap.size, 2, none⟩ (.slice cA cl cC)).setCell ⟨w.heap.size, 3, none⟩ (.slice dA dl dC) = w2 at tt K2 ⊢
  clear z0 z1 z2 z3 y0 y1 y2 y3
  obtain ⟨t0, t1, t2, t3⟩ := tt
  have hchk : ∀ w', Kept [] w w' → Calls Try.prog 12 #[.agg #[.int .i64 n, .int .i64 fr, .slice cA cl cC, .slice dA dl dC]] w' fun e w'' => e = .returned (.int .i64 (tchk n fr cl cz dl L Z)) ∧ Kept [] w' w'' := fun w' hk => TR.check_any n fr cC dC (HA.out.kept hk)
  refine (chooses_true _).mono ?_
  rintro e w3 ⟨rfl, hK3⟩
  obtain ⟨t0, t1, t2, t3⟩ := cells4 hK3 (by simp) ⟨t0, t1, t2, t3⟩
  have K3 := hide (K2.out.next hK3)
  clear hK3 K2
  by_cases hok : tchk n fr cl cz dl L Z = 0
  · rw [hok] at hchk
    obtain ⟨⟨⟨n1, n8⟩, -, -, l1, l16⟩, -, hdp⟩ := tchk_ok hok
    obtain ⟨N, rfl⟩ := Int.eq_ofNat_of_zero_le (show 0 ≤ n by omega)
    have hN8 : N ≤ 8 := by omega
    have hN1 : 1 ≤ N := by omega
    go_wp2_with fail
    refine (hchk _ K3.out).mono ?_
    rintro e w4 ⟨rfl, hK4⟩
    obtain ⟨t0, t1, t2, t3⟩ := cells4 hK4 (by simp) ⟨t0, t1, t2, t3⟩
    have K4 := hide (K3.out.next hK4)
    clear hK4 hchk K3
    go_wp2_with (go_at_call 13; refine (ND.all_ok N hN8 rfl _).mono ?_; rintro e w' ⟨rfl, hw⟩; subst w')
    have hs256 : run 0 N < 256 := run_lt 0 N (by omega)
    have hs0 := round_ne N (by omega) hN1
    have hlen := round_len N (by omega)
    have hbit := round_bit N (by omega)
    have HIS := hide (show ∀ (kc : Nat) (cur x st cu e : Int), NodeIs N fr cl cz dl L Z 2 (run 0 N) 0 kc cur 8 (fun _ => true) x st cu e → kc < cl → ∀ X : Nat, (nextOf (nodes (run 0 N)) cur).1 = X → X < N → x = X ∧ st = X ∧ cu = X ∧ e = 0 from
      fun kc cur x st cu e h h1 X h2 h3 => round_is h hok h1 h2 h3)
    have k1 := (Kept.refl [] w4).alloc (.cells #[.int .i64 2, .int .u8 (run 0 N : Nat), .int .i64 0] 41)
    have k2 := (Kept.refl [] (w4.alloc (.cells #[.int .i64 2, .int .u8 (run 0 N : Nat), .int .i64 0] 41))).alloc (.cells #[.bool true, .bool true, .bool true, .bool true, .bool true, .bool true, .bool true, .bool true] 4)
    have k3 := (Kept.refl [] ((w4.alloc (.cells #[.int .i64 2, .int .u8 (run 0 N : Nat), .int .i64 0] 41)).alloc (.cells #[.bool true, .bool true, .bool true, .bool true, .bool true, .bool true, .bool true, .bool true] 4))).alloc (.cells #[.bool false, .bool false, .bool false, .bool false, .bool false, .bool false, .bool false, .bool false] 51)
    have z1 : (w4.alloc (.cells #[.int .i64 2, .int .u8 (run 0 N : Nat), .int .i64 0] 41)).heap.size = w4.heap.size + 1 := by simp
    have z2 : ((w4.alloc (.cells #[.int .i64 2, .int .u8 (run 0 N : Nat), .int .i64 0] 41)).alloc (.cells #[.bool true, .bool true, .bool true, .bool true, .bool true, .bool true, .bool true, .bool true] 4)).heap.size = w4.heap.size + 1 + 1 := by simp
    have pp := cells3 k3 (b := w4.heap.size) (by simp) (cells3 k2 (by simp) (alloc3 w4 41 (.int .i64 2) (.int .u8 (run 0 N : Nat)) (.int .i64 0)))
    have tt := cells4 k3 (by simp) (cells4 k2 (by simp) (cells4 k1 (by simp) ⟨t0, t1, t2, t3⟩))
    have hmb : IsBools (((w4.alloc (.cells #[.int .i64 2, .int .u8 (run 0 N : Nat), .int .i64 0] 41)).alloc (.cells #[.bool true, .bool true, .bool true, .bool true, .bool true, .bool true, .bool true, .bool true] 4)).alloc (.cells #[.bool false, .bool false, .bool false, .bool false, .bool false, .bool false, .bool false, .bool false] 51)) (some ⟨w4.heap.size + 1, 0, none⟩) 8 (fun _ => true) := by
      intro i hi
      refine ⟨_, _, rfl, k3.cell ?_ (by simp)⟩
      rw [← z1]
      match i, hi with
      | 0, _ => simp
      | 1, _ => simp
      | 2, _ => simp
      | 3, _ => simp
      | 4, _ => simp
      | 5, _ => simp
      | 6, _ => simp
      | 7, _ => simp
    have V0 := hide (World.rowIs_alloc ((w4.alloc (.cells #[.int .i64 2, .int .u8 (run 0 N : Nat), .int .i64 0] 41)).alloc (.cells #[.bool true, .bool true, .bool true, .bool true, .bool true, .bool true, .bool true, .bool true] 4)) #[.bool false, .bool false, .bool false, .bool false, .bool false, .bool false, .bool false, .bool false] 51 (fun _ => .bool false) (by
      intro i hi
      match i, hi with
      | 0, _ => rfl
      | 1, _ => rfl
      | 2, _ => rfl
      | 3, _ => rfl
      | 4, _ => rfl
      | 5, _ => rfl
      | 6, _ => rfl
      | 7, _ => rfl))
    rw [z2] at V0
    have KA := hide (((K4.out.next k1).next k2).next k3)
    have hszt : w.heap.size < w4.heap.size := World.block_lt_of_cell? w4 _ t0
    generalize (((w4.alloc (.cells #[.int .i64 2, .int .u8 (run 0 N : Nat), .int .i64 0] 41)).alloc (.cells #[.bool true, .bool true, .bool true, .bool true, .bool true, .bool true, .bool true, .bool true] 4)).alloc (.cells #[.bool false, .bool false, .bool false, .bool false, .bool false, .bool false, .bool false, .bool false] 51)) = wA at pp tt hmb V0 KA ⊢
    have HMB := hide hmb
    clear k1 k2 k3 z1 z2 hmb t0 t1 t2 t3 hok K4
    generalize hsr : run 0 N = s at *
    generalize w4.heap.size = pb at *
    have HLN := hide hlen
    have HBT := hide hbit
    have HSS := hide (And.intro hs256 hs0)
    obtain ⟨i0, hi0, hfst⟩ := first s hs0 hs256 0
    have HST := hide (fun k => step hs256 hi0 hfst k)
    have HAI := hide (fun k => at_in (k := k) hs256 hi0)
    have HFR := hide (fun k (hk : k < (nodes s).length) => fresh hs256 hi0 hk)
    have hl0 : ¬ (cl = 0) := by omega
    have hl1 : (1 : Int) ≤ (cl : Int) := by omega
    have hl16 : (cl : Int) ≤ 16 := by omega
    clear hlen hbit hs256 hs0 hfst hsr hi0 hdp n1 n8 l1 l16
    go_loopw [10, 11] (fun c i wr => ∃ k : Nat, k ≤ N ∧ i = .int .i64 k ∧ c = .int .i64 (cu (nodes s) i0 0 k) ∧ wr.rowIs (pb + 1 + 1) 51 8 (fun y => .bool (vis (nodes s) i0 k y)) ∧ Kept [pb + 1 + 1] wA wr) (fun _ i _ => N - (intOf i).toNat)
    case atStart => exact ⟨0, by omega, rfl, rfl, V0.out, Kept.refl _ _⟩
    case round =>
      obtain ⟨k, hk, rfl, rfl, hV, hKk⟩ := hrel
      obtain ⟨t0, t1, t2, t3⟩ := cells4 hKk (by simp; omega) tt
      have hpp := cells3 hKk (b := pb) (by simp; omega) pp
      have HV := hide hV
      have HK := hide hKk
      have hMr : IsBools wr (some ⟨pb + 1, 0, none⟩) 8 (fun _ => true) := by
        intro i hi
        obtain ⟨b, o, e, hc⟩ := HMB.out i hi
        cases e
        exact ⟨_, _, rfl, hKk.cell hc (by simp)⟩
      have HMR := hide hMr
      have hKw : Kept [] w wr := KA.out.trans hKk (fun x hx hl => by simp at hx; omega)
      have KW := hide hKw
      clear V0 hV hKk hMr
      by_cases hkl : k < N
      · have hki : (k : Int) < (N : Int) := by omega
        obtain ⟨x, hx, hx8, hbx⟩ := HAI.out k
        have hxN := HBT.out x hx8 hbx
        have hstp := HST.out k
        have hfr := HFR.out k (by have := HLN.out; omega)
        rw [hx] at hstp hfr
        have hvs : ∀ y, vis (nodes s) i0 (k + 1) y = (vis (nodes s) i0 k y || ((x : Int) == y)) := fun y => by rw [vis_succ, hx]
        have hcs : cu (nodes s) i0 0 (k + 1) = (x : Int) := hx
        have HVS := hide (And.intro hvs hcs)
        generalize hcc : cu (nodes s) i0 0 k = cc at hstp ⊢
        clear hx hbx hvs hcs hcc tt pp
        have hnode : ∀ (kc : Nat), kc < cl → ∀ W, Kept [] wr W → Calls Try.prog 7 #[.agg #[.int .i64 N, .int .i64 fr, .slice cA cl cC, .slice dA dl dC], .agg #[.int .i64 2, .int .u8 s, .int .i64 0], .int .i64 kc, .int .i64 cc, .slice (some ⟨pb + 1, 0, none⟩) 8 8] W fun e w'' => e = .returned (.tuple #[.agg #[.int .i64 x, .int .i64 x, .int .i64 x], .int .i64 0]) ∧ Kept [] W w'' := by
          intro kc hkc W hW
          refine (node_any (HA.out.kept (KW.out.next hW)) 2 s 0 kc cc HSS.out.1 (HMR.out.kept hW) (by unfold maxLen; omega)).mono ?_
          rintro e w' ⟨a, b, c, d, rfl, hNI, hK⟩
          obtain ⟨rfl, rfl, rfl, rfl⟩ := HIS.out kc cc a b c d hNI hkc x hstp hxN
          exact ⟨rfl, hK⟩
        have HND := hide hnode
        have hmach := fun W => machine_any N fr cA cl cC dA dl dC W
        unfold tval at hmach
        have HMC := hide hmach
        have d1 : decide ((x : Int) < 0) = false := decide_eq_false (by omega)
        have d2 : decide ((7 : Int) < (x : Int)) = false := decide_eq_false (by omega)
        have d3 : decide (7 < x) = false := decide_eq_false (by omega)
        clear hnode hmach hstp
        by_cases hku : k < uL
        · obtain ⟨ub, uo, huA, hcu, -⟩ := (IsInts.kept HU.out hKw) k hku
          subst huA
          have hkui : (k : Int) < (uL : Int) := by omega
          obtain ⟨kc, hkc, hkcm⟩ := mod_small (uz k) cl (by omega) (by omega)
          have hkc' : kc < cl := by omega
          have hwc : IntKind.u64.wrap (cl : Int) = (cl : Int) := by rw [IntKind.wrap_u64]; omega
          have hkcm2 : IntKind.i64.wrap ((IntKind.u64.wrap (uz k)).tmod (cl : Int)) = (kc : Int) := by first | exact hkcm | (rw [IntKind.wrap_i64]; exact hkcm) | (rw [IntKind.wrap_i64]; unfold wrap64 at hkcm; exact hkcm)
          have l0b : ((cl : Int) == 0) = false := by simp; omega
          clear hKw
          go_wp2_with fail
          go_quiet (fail)
          obtain ⟨wq, hwq⟩ : ∃ wq, wq = wr.drewN nq := ⟨_, rfl⟩
          have hKq : Kept [] wr wq := by rw [hwq]; exact (Kept.refl [] wr).drewN nq
          rw [← hwq]
          clear hwq hcu hkcm hkcm2 hwc l0b
          go_wp2_with fail
          have hM : ∀ W, RT w wr N fr cA cl cC dA dl dC pb s W → Calls Try.prog 8 #[.agg #[.int .i64 N, .int .i64 fr, .slice cA cl cC, .slice dA dl dC]] W fun e w' => e = .returned (.agg #[.int .i64 N, .int .i64 fr, .slice cA cl cC, .slice dA dl dC]) ∧ Kept [] W w' := fun W _ => HMC.out W
          have hN : ∀ W, RT w wr N fr cA cl cC dA dl dC pb s W → Calls Try.prog 7 #[.agg #[.int .i64 N, .int .i64 fr, .slice cA cl cC, .slice dA dl dC], .agg #[.int .i64 2, .int .u8 s, .int .i64 0], .int .i64 kc, .int .i64 cc, .slice (some ⟨pb + 1, 0, none⟩) 8 8] W fun e w'' => e = .returned (.tuple #[.agg #[.int .i64 x, .int .i64 x, .int .i64 x], .int .i64 0]) ∧ Kept [] W w'' := fun W hW => HND.out kc hkc' W hW.k
          have RQ : RT w wr N fr cA cl cC dA dl dC pb s wq.drew := ⟨hKq.drew, cells4 hKq (by simp) ⟨t0, t1, t2, t3⟩, cells3 hKq (by simp) hpp⟩
          obtain ⟨t0, t1, t2, t3⟩ := cells4 hKq (by simp) ⟨t0, t1, t2, t3⟩
          obtain ⟨p0, p1, p2⟩ := cells3 hKq (b := pb) (by simp) hpp
          clear hpp
          have n1 := World.new_ne wq _ t0
          have n2 := World.new_ne wq _ p0
          refine (fun (rest : PLift (?T : Prop)) => ?main) (PLift.up ?rest)
          case main =>
            go_region_held3 (fun w' => w'.cell? ⟨w.heap.size, 0, none⟩ = some (.int .i64 N) ∧ w'.cell? ⟨w.heap.size, 1, none⟩ = some (.int .i64 fr) ∧ w'.cell? ⟨w.heap.size, 2, none⟩ = some (.slice cA cl cC) ∧ w'.cell? ⟨w.heap.size, 3, none⟩ = some (.slice dA dl dC) ∧ w'.cell? ⟨pb, 0, none⟩ = some (.int .i64 2) ∧ w'.cell? ⟨pb, 1, none⟩ = some (.int .u8 s) ∧ w'.cell? ⟨pb, 2, none⟩ = some (.int .i64 0)) (go_keep) (first
              | (go_at_call 8; refine (hM _ RQ).mono ?_; rintro e w7 ⟨rfl, hK7⟩; have S7 := RQ.next hK7; obtain ⟨t0', t1', t2', t3'⟩ := S7.t; obtain ⟨p0', p1', p2'⟩ := S7.p; have := World.new_ne w7 _ t0'; have := World.new_ne w7 _ p0')
              | (go_at_call 8; refine (hM _ (RQ.alloc _)).mono ?_; rintro e w7 ⟨rfl, hK7⟩; have S7 := (RQ.alloc _).next hK7; obtain ⟨t0', t1', t2', t3'⟩ := S7.t; obtain ⟨p0', p1', p2'⟩ := S7.p; have := World.new_ne w7 _ t0'; have := World.new_ne w7 _ p0'; have hB7 : w7.rowIs wq.heap.size 33 3 (fun _ => .int .i64 0) := hK7.row (row3 wq.drew 33) (by simp))
              | (go_at_call 7; refine (hN _ S7).mono ?_; rintro e w9 ⟨rfl, hK9⟩; have S9 := S7.next hK9; obtain ⟨u0, u1, u2, u3⟩ := S9.t; obtain ⟨v0, v1, v2⟩ := S9.p; have := World.new_ne w9 _ u0; have := World.new_ne w9 _ v0; try (have hB9 := hK9.row hB7 (by simp); have z0 := hB9.cell (i := 0) (by omega); have z1 := hB9.cell (i := 1) (by omega); have z2 := hB9.cell (i := 2) (by omega); have y0 := hB9.frozen 0; have y1 := hB9.frozen 1; have y2 := hB9.frozen 2))
              | (go_at_call 7; refine (hN _ (S7.alloc _)).mono ?_; rintro e w9 ⟨rfl, hK9⟩; have S9 := (S7.alloc _).next hK9; obtain ⟨u0, u1, u2, u3⟩ := S9.t; obtain ⟨v0, v1, v2⟩ := S9.p; have := World.new_ne w9 _ u0; have := World.new_ne w9 _ v0; have hB9 := hK9.row (row3 w7 33) (by simp); have z0 := hB9.cell (i := 0) (by omega); have z1 := hB9.cell (i := 1) (by omega); have z2 := hB9.cell (i := 2) (by omega); have y0 := hB9.frozen 0; have y1 := hB9.frozen 1; have y2 := hB9.frozen 2))
            · rename_i hHeld
              clear hHeld
              have S10 := S9.alloc (.cells #[.int .i64 x, .int .i64 x, .int .i64 x] 33)
              have cc3 := alloc3 w9 33 (.int .i64 x) (.int .i64 x) (.int .i64 x)
              have hbl : wr.heap.size ≤ w9.heap.size := S9.k.size
              generalize (w9.alloc (.cells #[.int .i64 x, .int .i64 x, .int .i64 x] 33)) = W at S10 cc3 ⊢
              generalize w9.heap.size = bc at cc3 hbl ⊢
              revert S10 cc3 hbl
              revert W bc
              exact rest.down
            · rename_i hHeld
              clear hHeld
              have hbl : wr.heap.size ≤ w7.heap.size := S7.k.size
              obtain ⟨S10, cc3⟩ := S9.put hB9 (by assumption) (by assumption) hbl (.int .i64 x) (.int .i64 x) (.int .i64 x)
              generalize (((w9.setCell ⟨w7.heap.size, 0, none⟩ (.int .i64 x)).setCell ⟨w7.heap.size, 1, none⟩ (.int .i64 x)).setCell ⟨w7.heap.size, 2, none⟩ (.int .i64 x)) = W at S10 cc3 ⊢
              generalize w7.heap.size = bc at cc3 hbl ⊢
              revert S10 cc3 hbl
              revert W bc
              exact rest.down
            · rename_i hHeld
              clear hHeld
              have hbl : wr.heap.size ≤ wq.heap.size := RQ.k.size
              obtain ⟨S10, cc3⟩ := S9.put hB9 (by assumption) (by assumption) hbl (.int .i64 x) (.int .i64 x) (.int .i64 x)
              generalize (((w9.setCell ⟨wq.heap.size, 0, none⟩ (.int .i64 x)).setCell ⟨wq.heap.size, 1, none⟩ (.int .i64 x)).setCell ⟨wq.heap.size, 2, none⟩ (.int .i64 x)) = W at S10 cc3 ⊢
              exact rest.down W _ S10 cc3 hbl
          case rest =>
            intro W bc S10 cc3 hbl
            obtain ⟨c0, c1, c2⟩ := cc3
            obtain ⟨t0, t1, t2, t3⟩ := S10.t
            have VW := hide (S10.k.row HV.out (by simp))
            have KW2 := hide S10.k
            have cv := VW.out.cell (i := x) hx8
            have fv := VW.out.frozen x
            rw [hfr] at cv
            have hbs : pb + 1 + 1 < bc := Nat.lt_of_lt_of_le HV.out.lt hbl
            have hbc : bc ≠ pb + 1 + 1 := by omega
            clear hM hN RQ n1 n2 HMC HND S10 hKq
            go_wp2
            go_roundw
            case rel =>
              refine ⟨k + 1, by omega, by go_num, by rw [HVS.out.2], ?_, ?_⟩
              · refine (VW.out.set x (.bool true)).congr (fun y hy => ?_)
                rw [HVS.out.1]
                by_cases hxy : y = x
                · subst hxy; simp
                · have : ¬ ((x : Int) = y) := by omega
                  simp [hxy, this]
              · exact (HK.out.next KW2.out).setCell (fun _ => by simp) _
            case measure => simp [intOf]; omega
        · have hkui : ¬ (k : Int) < (uL : Int) := by omega
          have hkc' : 0 < cl := by omega
          have hKq : Kept [] wr wr := Kept.refl _ _
          clear hKw
          go_wp2_with fail
          have hM : ∀ W, RT w wr N fr cA cl cC dA dl dC pb s W → Calls Try.prog 8 #[.agg #[.int .i64 N, .int .i64 fr, .slice cA cl cC, .slice dA dl dC]] W fun e w' => e = .returned (.agg #[.int .i64 N, .int .i64 fr, .slice cA cl cC, .slice dA dl dC]) ∧ Kept [] W w' := fun W _ => HMC.out W
          have hN : ∀ W, RT w wr N fr cA cl cC dA dl dC pb s W → Calls Try.prog 7 #[.agg #[.int .i64 N, .int .i64 fr, .slice cA cl cC, .slice dA dl dC], .agg #[.int .i64 2, .int .u8 s, .int .i64 0], .int .i64 0, .int .i64 cc, .slice (some ⟨pb + 1, 0, none⟩) 8 8] W fun e w'' => e = .returned (.tuple #[.agg #[.int .i64 x, .int .i64 x, .int .i64 x], .int .i64 0]) ∧ Kept [] W w'' := fun W hW => HND.out 0 hkc' W hW.k
          have RQ : RT w wr N fr cA cl cC dA dl dC pb s wr.drew := ⟨hKq.drew, cells4 hKq (by simp) ⟨t0, t1, t2, t3⟩, cells3 hKq (by simp) hpp⟩
          obtain ⟨t0, t1, t2, t3⟩ := cells4 hKq (by simp) ⟨t0, t1, t2, t3⟩
          obtain ⟨p0, p1, p2⟩ := cells3 hKq (b := pb) (by simp) hpp
          clear hpp
          have n1 := World.new_ne wr _ t0
          have n2 := World.new_ne wr _ p0
          refine (fun (rest : PLift (?T2 : Prop)) => ?main2) (PLift.up ?rest2)
          case main2 =>
            go_region_held3 (fun w' => w'.cell? ⟨w.heap.size, 0, none⟩ = some (.int .i64 N) ∧ w'.cell? ⟨w.heap.size, 1, none⟩ = some (.int .i64 fr) ∧ w'.cell? ⟨w.heap.size, 2, none⟩ = some (.slice cA cl cC) ∧ w'.cell? ⟨w.heap.size, 3, none⟩ = some (.slice dA dl dC) ∧ w'.cell? ⟨pb, 0, none⟩ = some (.int .i64 2) ∧ w'.cell? ⟨pb, 1, none⟩ = some (.int .u8 s) ∧ w'.cell? ⟨pb, 2, none⟩ = some (.int .i64 0)) (go_keep) (first
              | (go_at_call 8; refine (hM _ RQ).mono ?_; rintro e w7 ⟨rfl, hK7⟩; have S7 := RQ.next hK7; obtain ⟨t0', t1', t2', t3'⟩ := S7.t; obtain ⟨p0', p1', p2'⟩ := S7.p; have := World.new_ne w7 _ t0'; have := World.new_ne w7 _ p0')
              | (go_at_call 8; refine (hM _ (RQ.alloc _)).mono ?_; rintro e w7 ⟨rfl, hK7⟩; have S7 := (RQ.alloc _).next hK7; obtain ⟨t0', t1', t2', t3'⟩ := S7.t; obtain ⟨p0', p1', p2'⟩ := S7.p; have := World.new_ne w7 _ t0'; have := World.new_ne w7 _ p0'; have hB7 : w7.rowIs wr.heap.size 33 3 (fun _ => .int .i64 0) := hK7.row (row3 wr.drew 33) (by simp))
              | (go_at_call 7; refine (hN _ S7).mono ?_; rintro e w9 ⟨rfl, hK9⟩; have S9 := S7.next hK9; obtain ⟨u0, u1, u2, u3⟩ := S9.t; obtain ⟨v0, v1, v2⟩ := S9.p; have := World.new_ne w9 _ u0; have := World.new_ne w9 _ v0; try (have hB9 := hK9.row hB7 (by simp); have z0 := hB9.cell (i := 0) (by omega); have z1 := hB9.cell (i := 1) (by omega); have z2 := hB9.cell (i := 2) (by omega); have y0 := hB9.frozen 0; have y1 := hB9.frozen 1; have y2 := hB9.frozen 2))
              | (go_at_call 7; refine (hN _ (S7.alloc _)).mono ?_; rintro e w9 ⟨rfl, hK9⟩; have S9 := (S7.alloc _).next hK9; obtain ⟨u0, u1, u2, u3⟩ := S9.t; obtain ⟨v0, v1, v2⟩ := S9.p; have := World.new_ne w9 _ u0; have := World.new_ne w9 _ v0; have hB9 := hK9.row (row3 w7 33) (by simp); have z0 := hB9.cell (i := 0) (by omega); have z1 := hB9.cell (i := 1) (by omega); have z2 := hB9.cell (i := 2) (by omega); have y0 := hB9.frozen 0; have y1 := hB9.frozen 1; have y2 := hB9.frozen 2))
            · rename_i hHeld
              clear hHeld
              have S10 := S9.alloc (.cells #[.int .i64 x, .int .i64 x, .int .i64 x] 33)
              have cc3 := alloc3 w9 33 (.int .i64 x) (.int .i64 x) (.int .i64 x)
              have hbl : wr.heap.size ≤ w9.heap.size := S9.k.size
              generalize (w9.alloc (.cells #[.int .i64 x, .int .i64 x, .int .i64 x] 33)) = W at S10 cc3 ⊢
              generalize w9.heap.size = bc at cc3 hbl ⊢
              revert S10 cc3 hbl
              revert W bc
              exact rest.down
            · rename_i hHeld
              clear hHeld
              have hbl : wr.heap.size ≤ w7.heap.size := S7.k.size
              obtain ⟨S10, cc3⟩ := S9.put hB9 (by assumption) (by assumption) hbl (.int .i64 x) (.int .i64 x) (.int .i64 x)
              generalize (((w9.setCell ⟨w7.heap.size, 0, none⟩ (.int .i64 x)).setCell ⟨w7.heap.size, 1, none⟩ (.int .i64 x)).setCell ⟨w7.heap.size, 2, none⟩ (.int .i64 x)) = W at S10 cc3 ⊢
              generalize w7.heap.size = bc at cc3 hbl ⊢
              revert S10 cc3 hbl
              revert W bc
              exact rest.down
            · rename_i hHeld
              clear hHeld
              have hbl : wr.heap.size ≤ wr.heap.size := RQ.k.size
              obtain ⟨S10, cc3⟩ := S9.put hB9 (by assumption) (by assumption) hbl (.int .i64 x) (.int .i64 x) (.int .i64 x)
              generalize (((w9.setCell ⟨wr.heap.size, 0, none⟩ (.int .i64 x)).setCell ⟨wr.heap.size, 1, none⟩ (.int .i64 x)).setCell ⟨wr.heap.size, 2, none⟩ (.int .i64 x)) = W at S10 cc3 ⊢
              exact rest.down W _ S10 cc3 hbl
          case rest2 =>
            intro W bc S10 cc3 hbl
            obtain ⟨c0, c1, c2⟩ := cc3
            obtain ⟨t0, t1, t2, t3⟩ := S10.t
            have VW := hide (S10.k.row HV.out (by simp))
            have KW2 := hide S10.k
            have cv := VW.out.cell (i := x) hx8
            have fv := VW.out.frozen x
            rw [hfr] at cv
            have hbs : pb + 1 + 1 < bc := Nat.lt_of_lt_of_le HV.out.lt hbl
            have hbc : bc ≠ pb + 1 + 1 := by omega
            clear hM hN RQ n1 n2 HMC HND S10 hKq
            go_wp2
            go_roundw
            case rel =>
              refine ⟨k + 1, by omega, by go_num, by rw [HVS.out.2], ?_, ?_⟩
              · refine (VW.out.set x (.bool true)).congr (fun y hy => ?_)
                rw [HVS.out.1]
                by_cases hxy : y = x
                · subst hxy; simp
                · have : ¬ ((x : Int) = y) := by omega
                  simp [hxy, this]
              · exact (HK.out.next KW2.out).setCell (fun _ => by simp) _
            case measure => simp [intOf]; omega
      · have e : k = N := by omega
        subst e
        have hki : ¬ (k : Int) < (k : Int) := by omega
        clear hKw
        go_wp2
        go_ret
        exact ⟨rfl, KW.out⟩
  · have hne : (tchk n fr cl cz dl L Z != 0) = true := by simpa using hok
    generalize tchk n fr cl cz dl L Z = q at *
    clear hok HA
    go_wp2_with fail
    refine (hchk _ K3.out).mono ?_
    rintro e w4 ⟨rfl, hK4⟩
    have K4 := hide (K3.out.next hK4)
    clear hK4 hchk K3
    go_wp2_with fail
    refine (chooses_true _).mono ?_
    rintro e w5 ⟨rfl, hK5⟩
    have K5 := hide (K4.out.next hK5)
    clear hK5 K4
    go_wp2
    go_ret
    exact ⟨rfl, K5.out⟩

theorem own : ownKnob Try.prog.godebug = none := by kernel_rfl
theorem laidOut : laidOutB Try.prog = true := by kernel_rfl

set_option maxRecDepth 100000 in
theorem lifted (os : Os) (started : os.Started) (H : Type) (enc : TypeId × Value → H) :
    ReturnsInHanded {} Try.checked os 4 .any (Rows.chooseRoundSpec.pre6 enc Try.prog Try.f4 Rows.chooseRoundRow.domain false) (Rows.chooseRoundSpec.post enc Try.prog Try.f4 false true false false) := by
  refine returnsInHanded_of_change (C := Try.checked) own started (by kernel_rfl) Try.func4
    (ChangeSpec.witness6 (enc := enc) (C := Try.checked) false ⟨#[], #[.agg #[.int .i64 0, .int .i64 0, .slice none 0 0, .slice none 0 0], .slice none 0 0], []⟩ 8 (by kernel_rfl) (by kernel_rfl) (by kernel_rfl) (by kernel_rfl)) ?_
  intro W base args ds gs before hval0 hW hcnd _
  have hval : ∀ (j : Nat) t v, Try.f4.params[j]? = some t → args[j]? = some v → Value.okWide Try.prog W .any base t v := hval0
  have hW' := hW
  obtain ⟨p, q, hA0, hV, rfl, hfz, hnd⟩ := hW
  have hA : DataW.TrodAll enc Try.prog W 0 (fun _ => true) true Try.f4.params.toList args.toList ds p := hA0
  have hK := hA
  rw [Try.params4] at hA hval
  obtain ⟨v0, vs0, d0, ds0, p0, q0, hargs, rfl, rfl, h0, r0⟩ := trodAll_cons hA
  obtain ⟨v1, vs1, d1, ds1, p1, q1, rfl, rfl, rfl, h1, r1⟩ := trodAll_cons r0
  obtain ⟨rfl, rfl, rfl⟩ := trodAll_nil r1
  obtain rfl : args = #[v0, v1] := by cases args; simp_all
  obtain ⟨rfl, rfl⟩ := trodVars_none hV
  obtain ⟨n, fr, cA, cL, cC, cz, dA, dL, dC, L, Z, rfl, hc, hd, wn, wfr, hAt⟩ := open_topo (e2 := 3) (e3 := 22) (q3 := 3) Try.underlying25 (by kernel_rfl) rfl rfl rfl rfl (by kernel_rfl) (by kernel_rfl) (by kernel_rfl) (by kernel_rfl) (by kernel_rfl) (by kernel_rfl) (by kernel_rfl) (by kernel_rfl) (by kernel_rfl) (by kernel_rfl) (by kernel_rfl) (by kernel_rfl) (by kernel_rfl) (by kernel_rfl) h0
  obtain ⟨a1, len1, cap1, zs1, rfl, hl1, hm1, hn1, hT1⟩ := open_list Try.underlying22 Try.underlying3 (by kernel_rfl) (okWide_slice Try.underlying22 (hval 1 22 v1 rfl rfl)) h1
  clear hA0 hval0
  refine (law_any hAt hc hd hT1).mono fun e W' ⟨he, hk⟩ => ?_
  subst he
  exact ⟨_, rfl, _, _, _, [], _, [], hW', trodAll_mk1 (shut_bool Try.underlying4 _), trodAll_below laidOut hk.below _ _ _ _ hK (by kernel_rfl), rfl, hk.below.frame _, fun h => by cases h⟩

theorem said : Rows.ChooseRoundSaid :=
  OpenClaim.holds_of_wide 4 Try.f4 rfl rfl rfl rfl rfl rfl rfl ⟨rfl, rfl, rfl, rfl, rfl⟩ rfl rfl rfl rfl rfl (by kernel_rfl) Try.func4 (by kernel_rfl)
    (of_decide_eq_true (by kernel_rfl)) (by unfold Func.isWrapper; first | (rw [if_pos (by decide +kernel)]; kernel_rfl) | (rw [if_neg (by decide +kernel)]; exact ⟨rfl, rfl⟩))
    (fun os started H enc _ => lifted os started H enc)
end Go.Proofs.Ytnokpecdkibddac.LR
