
/-
  No statement of the program: what the laws of layer 4 call beside package zone (to, tame, zones, same), over this seat's translation.
-/
import Derived.Test.YtnokpecdkibddabZone5
import Derived.Test.YtnokpecdkibddabHeap3
import Derived.Test.YtnokpecdkibddabOpenAgg
namespace Go.Proofs.Ytnokpecdkibddab.ZN
open Go.RowKit TP

set_option maxHeartbeats 1000000 in
theorem to_any (n fr : Int) (cA : Option Addr) (cL cC : Nat) (dA : Option Addr) (dL dC : Nat) (w : World) :
    Calls Try.prog 8 #[tval n fr cA cL cC dA dL dC] w fun e w' => e = .returned (tval n fr cA cL cC dA dL dC) ∧ Kept [] w w' := by
  unfold tval
  go_enter Try.func8, Try.ntmps8
  go_wp2
  go_returns
  refine ⟨rfl, ?_⟩
  repeat (first | exact Kept.refl _ _ | refine Kept.alloc ?_ _ | refine Kept.setCell ?_ (fun h => absurd h (by simp)) _)
theorem infoIL : (Try.prog.info? 22).map (fun i => (i.zero, i.size, i.bytes)) = some (some (.slice none 0 0), 1, 24) := by kernel_rfl
set_option maxHeartbeats 1000000 in
theorem tame_any (n fr : Int) (cA : Option Addr) (cL cC : Nat) (dA : Option Addr) (dL dC : Nat) (hc : cL ≤ cC) (hd : dL ≤ dC) (w : World) :
    Calls Try.prog 6 #[tval n fr cA cL cC dA dL dC] w fun e w' => e = .returned (tval n fr cA (min cL 20) cC dA (min dL 10) dC) ∧ Kept [] w w' := by
  unfold tval
  have h1 := run_cut0 (P := Try.prog) Try.underlying22 ND.info3 cA cL cC .i64 (j := min (cL : Int) 20) (min cL 20) (by omega) (by omega)
  have h2 := run_cut0 (P := Try.prog) Try.underlying23 infoIL dA dL dC .i64 (j := min (dL : Int) 10) (min dL 10) (by omega) (by omega)
  go_enter Try.func6, Try.ntmps6
  go_wp2
  go_returns
  refine ⟨rfl, ?_⟩
  repeat (first | exact Kept.refl _ _ | refine Kept.alloc ?_ _ | refine Kept.setCell ?_ (fun h => absurd h (by simp)) _)

def Z2 (a b : Nat) : Int := if a = b then 10 else 20
theorem chk2 : tchk 2 4 1 (fun _ => 0) 2 (fun _ => 2) Z2 = 0 := by decide +kernel
def first (i : Nat) : Bool := i == 0
theorem near2 : NearIs (Z2 1) 2 (fun y => ND.hasB 3 y && mayB 2 first y) (some 0) := by
  refine ⟨fun x hx => ?_, fun h => by cases h⟩
  simp only [Option.some.injEq] at hx
  subst hx
  refine ⟨by omega, by decide, fun y hy hp => ?_⟩
  match y, hy with
  | 0, _ => left; rfl
  | 1, _ => exact absurd hp (by decide)
theorem f_is {f : Nat → Nat} (hP : PermF 2 f) (hS : SortedF (Z2 1) 2 f) : f 0 = 1 ∧ f 1 = 0 := by
  have h := hS 0 1 (by omega) (by omega)
  have a := hP.lt 0 (by omega)
  have b := hP.lt 1 (by omega)
  have c : f 0 ≠ f 1 := fun e => by have := hP.inj 0 1 (by omega) (by omega) e; omega
  unfold nearer Z2 at h
  generalize f 0 = x at *
  generalize f 1 = y at *
  match x, y with
  | 0, 0 => exact absurd rfl c
  | 0, 1 => simp at h
  | 1, 0 => exact ⟨rfl, rfl⟩
  | 1, 1 => exact absurd rfl c
  | 0, n + 2 => omega
  | 1, n + 2 => omega
  | n + 2, _ => omega
theorem pw_unique {R : Nat → Nat → Prop} (hR : ∀ x y, R x y → ¬ R y x) : ∀ l m : List Nat, l.Pairwise R → m.Pairwise R → (∀ x, x ∈ l ↔ x ∈ m) → l = m := by
  intro l
  induction l with
  | nil =>
    intro m _ _ h
    cases m with
    | nil => rfl
    | cons b m => exact absurd ((h b).2 (by simp)) (by simp)
  | cons a l ih =>
    intro m hl hm h
    cases m with
    | nil => exact absurd ((h a).1 (by simp)) (by simp)
    | cons b m =>
      rw [List.pairwise_cons] at hl hm
      have hab : a = b := by
        by_cases e : a = b
        · exact e
        · have h1 : a ∈ m := by
            rcases List.mem_cons.1 ((h a).1 (by simp)) with e2 | e2
            · exact absurd e2 e
            · exact e2
          have h2 : b ∈ l := by
            rcases List.mem_cons.1 ((h b).2 (by simp)) with e2 | e2
            · exact absurd e2.symm e
            · exact e2
          exact absurd (hm.1 a h1) (hR _ _ (hl.1 b h2))
      subst hab
      rw [ih m hl.2 hm.2 (fun x => ?_)]
      constructor
      · intro hx
        rcases List.mem_cons.1 ((h x).1 (List.mem_cons_of_mem _ hx)) with e | e
        · subst e; exact absurd (hl.1 x hx) (hR _ _ (hl.1 x hx))
        · exact e
      · intro hx
        rcases List.mem_cons.1 ((h x).2 (List.mem_cons_of_mem _ hx)) with e | e
        · subst e; exact absurd (hm.1 x hx) (hR _ _ (hm.1 x hx))
        · exact e
theorem hasB_all {x : Nat} (hx : x < 8) : ND.hasB 255 x = true := by
  have : ∀ y : Fin 8, ND.hasB 255 y.val = true := by decide
  exact this ⟨x, hx⟩
theorem hasB_zero (x : Nat) : ND.hasB 0 x = false := by unfold ND.hasB; simp
theorem wl_all {n : Nat} {f : Nat → Nat} (hn : n ≤ 8) (h : PermF n f) : wl f 255 n = (List.range n).map f := by
  unfold wl
  rw [List.filter_eq_self]
  intro x hx
  obtain ⟨i, hi, rfl⟩ := List.mem_map.1 hx
  exact hasB_all (by have := h.lt i (by simpa using hi); omega)
theorem wl_none (n : Nat) (f : Nat → Nat) : wl f 0 n = [] := by
  unfold wl
  rw [List.filter_eq_nil_iff]
  intro x _
  simp [hasB_zero]
/-- An order is one alone. -/
theorem wl_one {D : Nat → Int} {n s : Nat} {f g : Nat → Nat} (hf : PermF n f) (sf : SortedF D n f) (hg : PermF n g) (sg : SortedF D n g) : wl f s n = wl g s n :=
  pw_unique (R := nearer D) (fun _ _ h => nearer_irr h) _ _ (wl_pair sf) (wl_pair sg) (fun x => by rw [wl_mem hf, wl_mem hg])
theorem map_one {D : Nat → Int} {n : Nat} {f g : Nat → Nat} (hn : n ≤ 8) (hf : PermF n f) (sf : SortedF D n f) (hg : PermF n g) (sg : SortedF D n g) : ∀ i, i < n → f i = g i := by
  have h := wl_one (s := 255) hf sf hg sg
  rw [wl_all hn hf, wl_all hn hg] at h
  intro i hi
  have h2 : ((List.range n).map f)[i]? = ((List.range n).map g)[i]? := by rw [h]
  simpa [hi] using h2
theorem row4 (w : World) (t : TypeId) (a b c d : Value) : (w.alloc (.cells #[a, b, c, d] t)).rowIs w.heap.size t 4 (fun i => (#[a, b, c, d] : Array Value).getD i a) :=
  World.rowIs_alloc w #[a, b, c, d] t _ (by
    intro i hi
    match i, hi with
    | 0, _ => rfl
    | 1, _ => rfl
    | 2, _ => rfl
    | 3, _ => rfl)
theorem put4 {w : World} {b : Nat} {t : TypeId} {g : Nat → Value} (h : w.rowIs b t 4 g) (x y z u : Value) :
    (((((w.setCell ⟨b, 0, none⟩ x).setCell ⟨b, 1, none⟩ y).setCell ⟨b, 2, none⟩ z).setCell ⟨b, 3, none⟩ u).cell? ⟨b, 0, none⟩ = some x ∧ ((((w.setCell ⟨b, 0, none⟩ x).setCell ⟨b, 1, none⟩ y).setCell ⟨b, 2, none⟩ z).setCell ⟨b, 3, none⟩ u).cell? ⟨b, 1, none⟩ = some y ∧
    ((((w.setCell ⟨b, 0, none⟩ x).setCell ⟨b, 1, none⟩ y).setCell ⟨b, 2, none⟩ z).setCell ⟨b, 3, none⟩ u).cell? ⟨b, 2, none⟩ = some z ∧ ((((w.setCell ⟨b, 0, none⟩ x).setCell ⟨b, 1, none⟩ y).setCell ⟨b, 2, none⟩ z).setCell ⟨b, 3, none⟩ u).cell? ⟨b, 3, none⟩ = some u) ∧
    Kept [b] w ((((w.setCell ⟨b, 0, none⟩ x).setCell ⟨b, 1, none⟩ y).setCell ⟨b, 2, none⟩ z).setCell ⟨b, 3, none⟩ u) := by
  have h3 := (((h.set 0 x).set 1 y).set 2 z).set 3 u
  refine ⟨⟨(h3.cell (i := 0) (by omega)).trans (by simp), (h3.cell (i := 1) (by omega)).trans (by simp), (h3.cell (i := 2) (by omega)).trans (by simp), (h3.cell (i := 3) (by omega)).trans (by simp)⟩, ?_⟩
  exact ((((Kept.refl [b] w).setCell (fun _ => by simp) x).setCell (fun _ => by simp) y).setCell (fun _ => by simp) z).setCell (fun _ => by simp) u
theorem cells4 {w w1 : World} {M : List Nat} (hK : Kept M w w1) {b : Nat} {x y z u : Value} (hb : b ∉ M) (h : w.cell? ⟨b, 0, none⟩ = some x ∧ w.cell? ⟨b, 1, none⟩ = some y ∧ w.cell? ⟨b, 2, none⟩ = some z ∧ w.cell? ⟨b, 3, none⟩ = some u) :
    w1.cell? ⟨b, 0, none⟩ = some x ∧ w1.cell? ⟨b, 1, none⟩ = some y ∧ w1.cell? ⟨b, 2, none⟩ = some z ∧ w1.cell? ⟨b, 3, none⟩ = some u :=
  ⟨hK.cell h.1 hb, hK.cell h.2.1 hb, hK.cell h.2.2.1 hb, hK.cell h.2.2.2 hb⟩
theorem at_min {w : World} {cA : Option Addr} {cL : Nat} {cz : Nat → Int} {dA : Option Addr} {dL : Nat} {L : Nat → Nat} {Z : Nat → Nat → Int} (h : At w cA cL cz dA dL L Z) (a b : Nat) : At w cA (min cL a) cz dA (min dL b) L Z :=
  ⟨by have := h.cl; omega, by have := h.dl; omega, fun i hi => h.cpus i (by omega), fun r hr => h.rows r (by omega)⟩
/-- Two lists of the same numbers are the same. -/
theorem same4_true {a1 a2 : Option Addr} {n c1 c2 : Nat} {z : Nat → Int} {w : World} (hn : n ≤ maxLen) (h1 : IsInts .i64 w a1 n z) (h2 : IsInts .i64 w a2 n z) :
    Calls Try.prog 14 #[.slice a1 n c1, .slice a2 n c2] w fun e w' => e = .returned (.bool true) ∧ Kept [] w w' := by
  unfold maxLen at hn
  have H1 := hide h1
  have H2 := hide h2
  clear h1 h2
  go_enter Try.func14, Try.ntmps14
  go_wp2
  go_loopw [5] (fun i wr => ∃ k q : Nat, k ≤ n ∧ i = .int .i64 k ∧ wr = w.drewN q) (fun i _ => n - (intOf i).toNat)
  case atStart => exact ⟨0, 0, by omega, rfl, rfl⟩
  case round =>
    obtain ⟨k, q, hk, rfl, rfl⟩ := hrel
    by_cases hkn : k < n
    · obtain ⟨b1, o1, e1, g1, -⟩ := H1.out k hkn
      obtain ⟨b2, o2, e2, g2, -⟩ := H2.out k hkn
      subst e1 e2
      go_wp2
      go_region
      all_goals go_wp2
      all_goals go_roundw
      case rel => exact ⟨k + 1, q + 1, by omega, by go_num, rfl⟩
      case measure => simp [intOf]; omega
    · go_wp2
      go_ret
      exact ⟨rfl, (Kept.refl [] w).drewN _⟩
set_option maxHeartbeats 1000000 in
theorem within_bad {n fr : Int} {cA : Option Addr} {cL cC : Nat} {dA : Option Addr} {dL dC : Nat} {w : World} {c : Int} (hc : c ≠ 0) (a : Int) (s : Nat)
    (hord : ∀ w', Kept [] w w' → Calls Try.prog 7 #[tval n fr cA cL cC dA dL dC, .int .i64 a] w' fun e w'' => e = .returned (.tuple #[.slice none 0 0, .int .i64 c]) ∧ Kept [] w' w'') :
    Calls Try.prog 9 #[tval n fr cA cL cC dA dL dC, .int .i64 a, .int .u8 s] w fun e w' => e = .returned (.tuple #[.slice none 0 0, .int .i64 c]) ∧ Kept [] w w' := by
  have hK0 := (Kept.refl [] w).alloc (.cells #[.int .i64 n, .int .i64 fr, .slice cA cL cC, .slice dA dL dC] 33)
  have hord := hord _ hK0
  have HK0 := hide hK0
  have hne : (c != 0) = true := by simpa using hc
  clear hK0 hc
  unfold tval at hord ⊢
  go_enter Try.func9, Try.ntmps9
  go_wp2_with fail
  refine hord.mono ?_
  rintro e w1 ⟨rfl, hK⟩
  have K1 := hide (HK0.out.next hK)
  clear hK hord
  go_wp2
  go_ret2
  exact ⟨rfl, K1.out⟩
set_option maxHeartbeats 1000000 in
theorem nearest_bad {n fr : Int} {cA : Option Addr} {cL cC : Nat} {dA : Option Addr} {dL dC : Nat} {w : World} {c : Int} (hc : c ≠ 0) (a : Int) (s : Nat) (mA : Option Addr) (mL mC : Nat)
    (hord : ∀ w', Kept [] w w' → Calls Try.prog 7 #[tval n fr cA cL cC dA dL dC, .int .i64 a] w' fun e w'' => e = .returned (.tuple #[.slice none 0 0, .int .i64 c]) ∧ Kept [] w' w'') :
    Calls Try.prog 10 #[tval n fr cA cL cC dA dL dC, .int .i64 a, .int .u8 s, .slice mA mL mC] w fun e w' => e = .returned (.tuple #[.int .i64 0, .bool false]) ∧ Kept [] w w' := by
  have hK0 := (Kept.refl [] w).alloc (.cells #[.int .i64 n, .int .i64 fr, .slice cA cL cC, .slice dA dL dC] 33)
  have hwi := within_bad (s := s) hc a (fun w' hk => hord w' (hK0.next hk))
  have HK0 := hide hK0
  clear hK0 hc hord
  unfold tval at hwi ⊢
  go_enter Try.func10, Try.ntmps10
  go_wp2_with fail
  refine hwi.mono ?_
  rintro e w1 ⟨rfl, hK⟩
  have K1 := hide (HK0.out.next hK)
  clear hK hwi
  go_wp2
  go_loopw [23] (fun i wr => i = .int .i64 0 ∧ wr = w1) (fun i _ => 0)
  case atStart => exact ⟨rfl, rfl⟩
  case round =>
    obtain ⟨rfl, rfl⟩ := hrel
    go_wp2
    go_ret2
    exact ⟨rfl, K1.out⟩
set_option maxHeartbeats 2000000 in
set_option maxRecDepth 20000 in
theorem zones_true (w : World) : Calls Try.prog 11 #[] w fun e w' => e = .returned (.bool true) ∧ Kept [] w w' := by
  go_enter Try.func11, Try.ntmps11
  go_wp2_with fail
  obtain ⟨w0, hw0⟩ : ∃ w0, w0 = w.alloc (.cells #[.int .i64 0] 3) := ⟨_, rfl⟩
  obtain ⟨w1, hw1⟩ : ∃ w1, w1 = w0.alloc (.cells #[.int .i64 10, .int .i64 20] 3) := ⟨_, rfl⟩
  obtain ⟨w2, hw2⟩ : ∃ w2, w2 = w1.alloc (.cells #[.int .i64 20, .int .i64 10] 3) := ⟨_, rfl⟩
  obtain ⟨w3, hw3⟩ : ∃ w3, w3 = w2.alloc (.cells #[.slice (some ⟨w.heap.size + 1, 0, none⟩) 2 2, .slice (some ⟨w.heap.size + 1 + 1, 0, none⟩) 2 2] 22) := ⟨_, rfl⟩
  obtain ⟨w5, hw5⟩ : ∃ w5, w5 = w3.alloc (.cells #[.int .i64 2, .int .i64 4, .slice (some ⟨w.heap.size, 0, none⟩) 1 1, .slice (some ⟨w.heap.size + 1 + 1 + 1, 0, none⟩) 2 2] 33) := ⟨_, rfl⟩
  have s0 : w0.heap.size = w.heap.size + 1 := by rw [hw0]; simp
  have s1 : w1.heap.size = w.heap.size + 1 + 1 := by rw [hw1]; simp [s0]
  have s2 : w2.heap.size = w.heap.size + 1 + 1 + 1 := by rw [hw2]; simp [s1]
  have s3 : w3.heap.size = w.heap.size + 1 + 1 + 1 + 1 := by rw [hw3]; simp [s2]
  have e0 : Kept [] w w0 := by rw [hw0]; exact (Kept.refl [] w).alloc _
  have e1 : Kept [] w0 w1 := by rw [hw1]; exact (Kept.refl [] w0).alloc _
  have e2 : Kept [] w1 w2 := by rw [hw2]; exact (Kept.refl [] w1).alloc _
  have e3 : Kept [] w2 w3 := by rw [hw3]; exact (Kept.refl [] w2).alloc _
  have e5 : Kept [] w3 w5 := by rw [hw5]; exact (Kept.refl [] w3).alloc _
  have f2 := (e2.next e3).next e5
  have f1 := e1.next f2
  have f3 := e3.next e5
  have c00 : w5.cell? ⟨w.heap.size, 0, none⟩ = some (.int .i64 0) := f1.cell (by rw [hw0]; simp) (by simp)
  have c10 : w5.cell? ⟨w.heap.size + 1, 0, none⟩ = some (.int .i64 10) := f2.cell (by rw [hw1, ← s0]; simp) (by simp)
  have c11 : w5.cell? ⟨w.heap.size + 1, 1, none⟩ = some (.int .i64 20) := f2.cell (by rw [hw1, ← s0]; simp) (by simp)
  have c20 : w5.cell? ⟨w.heap.size + 1 + 1, 0, none⟩ = some (.int .i64 20) := f3.cell (by rw [hw2, ← s1]; simp) (by simp)
  have c21 : w5.cell? ⟨w.heap.size + 1 + 1, 1, none⟩ = some (.int .i64 10) := f3.cell (by rw [hw2, ← s1]; simp) (by simp)
  have c30 : w5.cell? ⟨w.heap.size + 1 + 1 + 1, 0, none⟩ = some (.slice (some ⟨w.heap.size + 1, 0, none⟩) 2 2) := e5.cell (by rw [hw3, ← s2]; simp) (by simp)
  have c31 : w5.cell? ⟨w.heap.size + 1 + 1 + 1, 1, none⟩ = some (.slice (some ⟨w.heap.size + 1 + 1, 0, none⟩) 2 2) := e5.cell (by rw [hw3, ← s2]; simp) (by simp)
  have t0 : w5.cell? ⟨w.heap.size + 1 + 1 + 1 + 1, 0, none⟩ = some (.int .i64 2) := by rw [hw5, ← s3]; simp
  have t1 : w5.cell? ⟨w.heap.size + 1 + 1 + 1 + 1, 1, none⟩ = some (.int .i64 4) := by rw [hw5, ← s3]; simp
  have t2 : w5.cell? ⟨w.heap.size + 1 + 1 + 1 + 1, 2, none⟩ = some (.slice (some ⟨w.heap.size, 0, none⟩) 1 1) := by rw [hw5, ← s3]; simp
  have t3 : w5.cell? ⟨w.heap.size + 1 + 1 + 1 + 1, 3, none⟩ = some (.slice (some ⟨w.heap.size + 1 + 1 + 1, 0, none⟩) 2 2) := by rw [hw5, ← s3]; simp
  have hrow : ∀ (b : Nat) (x y : Int), w5.cell? ⟨b, 0, none⟩ = some (.int .i64 x) → w5.cell? ⟨b, 1, none⟩ = some (.int .i64 y) → (0 ≤ x ∧ x ≤ 255) → (0 ≤ y ∧ y ≤ 255) → ∀ z : Nat → Int, z 0 = x → z 1 = y → IsInts .i64 w5 (some ⟨b, 0, none⟩) 2 z := by
    intro b x y hx hy h1 h2 z hz0 hz1 i hi
    match i, hi with
    | 0, _ => exact ⟨b, 0, rfl, by rw [hz0]; exact hx, WalkArith.wf_i64 (by omega)⟩
    | 1, _ => exact ⟨b, 0, rfl, by rw [hz1]; exact hy, WalkArith.wf_i64 (by omega)⟩
  have hAt : At w5 (some ⟨w.heap.size, 0, none⟩) 1 (fun _ => 0) (some ⟨w.heap.size + 1 + 1 + 1, 0, none⟩) 2 (fun _ => 2) Z2 := by
    refine ⟨by unfold maxLen; omega, by unfold maxLen; omega, fun i hi => ?_, fun r hr => ?_⟩
    · match i, hi with
      | 0, _ => exact ⟨_, _, rfl, c00, by decide⟩
    · match r, hr with
      | 0, _ => exact ⟨_, _, _, _, rfl, c30, by omega, by unfold maxLen; omega, hrow _ 10 20 c10 c11 (by omega) (by omega) (Z2 0) rfl rfl⟩
      | 1, _ => exact ⟨_, _, _, _, rfl, c31, by omega, by unfold maxLen; omega, hrow _ 20 10 c20 c21 (by omega) (by omega) (Z2 1) rfl rfl⟩
  have K5 := hide ((e0.next e1).next f2)
  have hn1 := order_ok (n := 2) (fr := 4) (cC := 1) (dC := 2) hAt chk2 1 (by omega)
  have hn2 : ∀ w' mb, Kept [] w5 w' → IsBools w' (some ⟨mb, 0, none⟩) 2 first → Calls Try.prog 10 #[.agg #[.int .i64 2, .int .i64 4, .slice (some ⟨w.heap.size, 0, none⟩) 1 1, .slice (some ⟨w.heap.size + 1 + 1 + 1, 0, none⟩) 2 2], .int .i64 1, .int .u8 3, .slice (some ⟨mb, 0, none⟩) 2 2] w' fun e w'' => e = .returned (.tuple #[.int .i64 0, .bool true]) ∧ Kept [] w' w'' := by
    intro w' mb hk hb
    refine (nearest_ok (n := 2) (fr := 4) (cC := 1) (dC := 2) (mC := 2) (hAt.kept hk) chk2 1 (by omega) 3 (by omega) hb (by unfold maxLen; omega)).mono ?_
    rintro e w'' ⟨r, rfl, hN, hK⟩
    rw [hN.unique near2]
    exact ⟨rfl, hK⟩
  unfold tval at hn1
  rw [← hw0, ← hw1, ← hw2, ← hw3, ← hw5]
  clear hAt hrow c00 c10 c11 c20 c21 c30 c31 f1 f2 f3 e0 e1 e2 e3 e5 s0 s1 s2 s3 hw0 hw1 hw2 hw3 hw5
  refine hn1.mono ?_
  rintro e w6 ⟨nb, f, rfl, hP, hS, hR, hnb, hK6⟩
  obtain ⟨f0, f1⟩ := f_is hP hS
  have l0 := hR.cell (i := 0) (by omega)
  have l1 := hR.cell (i := 1) (by omega)
  unfold nums at l0 l1
  rw [f0] at l0
  rw [f1] at l1
  have t0 := hK6.cell t0 (by simp)
  have t1 := hK6.cell t1 (by simp)
  have t2 := hK6.cell t2 (by simp)
  have t3 := hK6.cell t3 (by simp)
  have ka := (Kept.refl [] w6).alloc (.cells #[.bool true, .bool false] 4)
  have hb : IsBools (w6.alloc (.cells #[.bool true, .bool false] 4)) (some ⟨w6.heap.size, 0, none⟩) 2 first := by
    intro i hi
    match i, hi with
    | 0, _ => exact ⟨_, _, rfl, by simp [first]⟩
    | 1, _ => exact ⟨_, _, rfl, by simp [first]⟩
  have hn3 := hn2 _ _ (hK6.next ka) hb
  have l0 := ka.cell l0 (by simp)
  have l1 := ka.cell l1 (by simp)
  have HK := hide (K5.out.next (hK6.next ka))
  clear hn1 hn2 hK6 ka hP hS hR hnb f0 f1 hb
  go_wp2_with fail
  refine hn3.mono ?_
  rintro e w8 ⟨rfl, hK8⟩
  have l0 := hK8.cell l0 (by simp)
  have l1 := hK8.cell l1 (by simp)
  have K9 := hide (HK.out.next hK8)
  clear hn3 hK8 t0 t1 t2 t3
  go_wp2
  go_ret
  exact ⟨rfl, K9.out⟩
end Go.Proofs.Ytnokpecdkibddab.ZN
