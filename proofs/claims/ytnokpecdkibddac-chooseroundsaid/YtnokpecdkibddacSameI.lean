
/-
  No statement of the program: the contract of (*Grid).Same at one type of things (numbers), over this seat's translation.
-/
import Derived.Test.YtnokpecdkibddacEqualI
import Derived.Deep.RegionHeld3
import Derived.Defers
import Derived.Recover
import Derived.BigRegion
namespace Go.Proofs.Ytnokpecdkibddac.GI
open Go.RowKit

theorem catch_idle (p : Addr) (w : World) :
    CallsD Try.prog 52 #[.pointer (some p)] .returning w fun e u' w' => e = .returned (.tuple #[]) ∧ u' = .returning ∧ w' = w := by
  refine callsD_of_wpS Try.func52 rfl fun c₀ cs hu => ?_
  apply wpS_seq
  apply wpS_region
  simp [wpOpsS, go_sem, recoverD, hu, Try.ntmps52, Exit.thenS]
  refine wpS_cond (t := false) (by simp [Act.eval, Array.replicate]) ?_
  simp only [Bool.false_eq_true, if_false]
  refine wpS_of_wp (wp_skip ?_)
  cases c₀
  simp_all [bodyPostS, results, Try.results52]

theorem own_cell {w : World} {p : Addr} {x : Value} (h : w.cell? p = some x) (o : Obj) (q : Nat) (v : Value) : (((w.alloc o).drewN q).setCell ⟨w.heap.size, 0, none⟩ v).cell? p = some x :=
  ((((Kept.refl [] w).alloc o).drewN q).setCell (fun hh => absurd hh (Nat.lt_irrefl _)) v).cell h (by simp)

/-- Same, to a table that is none, of one that is. -/
def SameIs (b : Bool) (m n : Nat) (f : Nat → Int) (m' n' : Nat) (f' : Nat → Int) : Prop := b = true ↔ m = m' ∧ n = n' ∧ ∀ i, i < m * n → f i = f' i

set_option maxHeartbeats 1000000 in
theorem same_ok {g c m n g' c' m' n' : Nat} {f f' : Nat → Int} {w : World} (h : GridAt w g c m n f) (h' : GridAt w g' c' m' n' f') :
    Calls Try.prog 42 #[.pointer (some ⟨g, 0, none⟩), .pointer (some ⟨g', 0, none⟩)] w fun e w' => ∃ b : Bool, e = .returned (.bool b) ∧ SameIs b m n f m' n' f' ∧ Kept [] w w' := by
  have hmf : ∀ (fn : Fn) (first cap : Array Value) (w : World), (Instr.makeFunc fn first cap).run Try.prog w = .ok (.func fn first cap) w := fun _ _ _ _ => rfl
  have a0 := h.c0
  have a1 := h.c1
  have a2 := h.c2
  have b0 := h'.c0
  have b1 := h'.c1
  have b2 := h'.c2
  have hg := h.glt
  have hg' := h'.glt
  have H := hide h
  have H' := hide h'
  clear h h'
  rcases (show m ≠ m' ∨ (m = m' ∧ n ≠ n') ∨ (m = m' ∧ n = n') from by omega) with hm | ⟨rfl, hn⟩ | ⟨rfl, rfl⟩
  · have t1 : ((m : Int) == (m' : Int)) = false := by rw [beq_eq_false_iff_ne]; omega
    have HM := hide hm
    clear hm
    go_enter_defers Try.func42, Try.ntmps42
    go_wp2
    go_big_region
    all_goals go_wp2
    refine leaves_cons (f := 52) (args := #[.pointer (some ⟨w.heap.size, 0, none⟩)]) (by simp) (by simp [go_sem]) ?_
    refine (catch_idle ⟨w.heap.size, 0, none⟩ _).mono ?_
    rintro e u' w'' ⟨rfl, rfl, rfl⟩
    simp [Leaves, settle, results, Try.results42, go_sem]
    exact ⟨⟨fun h => by simp at h, fun h => absurd h.1 HM.out⟩, ((Kept.refl _ _).alloc _).drew⟩
  · have t1 : ((n : Int) == (n' : Int)) = false := by rw [beq_eq_false_iff_ne]; omega
    have HM := hide hn
    clear hn
    go_enter_defers Try.func42, Try.ntmps42
    go_wp2
    go_big_region
    all_goals go_wp2
    refine leaves_cons (f := 52) (args := #[.pointer (some ⟨w.heap.size, 0, none⟩)]) (by simp) (by simp [go_sem]) ?_
    refine (catch_idle ⟨w.heap.size, 0, none⟩ _).mono ?_
    rintro e u' w'' ⟨rfl, rfl, rfl⟩
    simp [Leaves, settle, results, Try.results42, go_sem]
    exact ⟨⟨fun h => by simp at h, fun h => absurd h.2.1 HM.out⟩, ((Kept.refl _ _).alloc _).drew⟩
  · have hb := pos_le (Nat.le_refl m) H.out.m64 H.out.n64
    go_enter_defers Try.func42, Try.ntmps42
    go_wp2
    go_region_held3 (fun w' => w'.cell? ⟨g, 0, none⟩ = some (.int .i64 m) ∧ w'.cell? ⟨g', 0, none⟩ = some (.int .i64 m) ∧ w'.cell? ⟨g, 1, none⟩ = some (.int .i64 n) ∧ w'.cell? ⟨g', 1, none⟩ = some (.int .i64 n) ∧ w'.cell? ⟨g, 2, none⟩ = some (.slice (some ⟨c, 0, none⟩) (m * n) (m * n)) ∧ w'.cell? ⟨g', 2, none⟩ = some (.slice (some ⟨c', 0, none⟩) (m * n) (m * n))) (first | go_keep | exact ⟨own_cell a0 _ _ _, own_cell b0 _ _ _, own_cell a1 _ _ _, own_cell b1 _ _ _, own_cell a2 _ _ _, own_cell b2 _ _ _⟩)
      ((go_at_call 53; refine (equal_ok (((H.out.row.alloc _)).drew) (((H'.out.row.alloc _)).drew) (Nat.le_refl _) (Nat.le_refl _) hb hb).mono ?_; rintro e w5 ⟨b, rfl, hE, q, rfl⟩; have HE := hide hE; clear hE))
    all_goals go_wp2
    all_goals
      refine leaves_cons (f := 52) (args := #[.pointer (some ⟨w.heap.size, 0, none⟩)]) (by simp) (by simp [go_sem]) ?_
      refine (catch_idle ⟨w.heap.size, 0, none⟩ _).mono ?_
      rintro e u' w'' ⟨rfl, rfl, rfl⟩
      have hcell : (((w.alloc (.cells #[.bool false] 4)).drewN (1 + q)).setCell ⟨w.heap.size, 0, none⟩ (.bool b)).cell? ⟨w.heap.size, 0, none⟩ = some (.bool b) := World.cell?_setCell_same _ _ _ (u := .bool false) (by simp)
      have hS : SameIs b m n f m n f' := ⟨fun hb => ⟨rfl, rfl, (HE.out.1 hb).2⟩, fun hb => HE.out.2 ⟨rfl, hb.2.2⟩⟩
      have hK : Kept [] w (((w.alloc (.cells #[.bool false] 4)).drewN (1 + q)).setCell ⟨w.heap.size, 0, none⟩ (.bool b)) := (((Kept.refl [] w).alloc _).drewN _).setCell (fun hh => absurd hh (Nat.lt_irrefl _)) _
      simp [Leaves, settle, results, Try.results42, go_sem, hcell]
      cases b
      · exact .inl ⟨rfl, hS, hK⟩
      · exact .inr ⟨rfl, hS, hK⟩
end Go.Proofs.Ytnokpecdkibddac.GI
