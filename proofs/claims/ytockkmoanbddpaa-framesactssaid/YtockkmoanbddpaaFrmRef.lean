/-
  No statement of the program: the contracts of the reference's store of frames, over this seat's translation.
-/
import Derived.Test.YtockkmoanbddpaaFrm4
import Derived.Deep.RegionHeld3
namespace Go.Proofs.Ytockkmoanbddpaa.Rf
open Go.RowKit

/-- The reference's store: block g holds its counts and its bytes' slice, block c its bytes. -/
structure RefAt (w : World) (g c n e t : Nat) (f : Nat → UInt8) : Prop where
  obj : w.heap[g]? = some (.cells #[.int .i64 n, .int .i64 e, .slice (some ⟨c, 0, none⟩) (t * 64) (t * 64)] 45 (0, 0))
  row : w.rowIs c 5 (t * 64) (fun i => bv (f i))
  all : n * e = t
  n8 : n ≤ 8
  e1024 : e ≤ 1024
namespace RefAt
variable {w w' : World} {g c n e t : Nat} {f : Nat → UInt8} {L : List Nat}
theorem c0 (h : RefAt w g c n e t f) : w.cell? ⟨g, 0, none⟩ = some (.int .i64 n) := blk_cell h.obj 0 rfl
theorem c1 (h : RefAt w g c n e t f) : w.cell? ⟨g, 1, none⟩ = some (.int .i64 e) := blk_cell h.obj 1 rfl
theorem c2 (h : RefAt w g c n e t f) : w.cell? ⟨g, 2, none⟩ = some (.slice (some ⟨c, 0, none⟩) (t * 64) (t * 64)) := blk_cell h.obj 2 rfl
theorem kept (h : RefAt w g c n e t f) (k : Kept L w w') (hg : g ∉ L) (hc : c ∉ L) : RefAt w' g c n e t f :=
  ⟨k.blk h.obj hg, k.row h.row hc, h.all, h.n8, h.e1024⟩
theorem kept0 (h : RefAt w g c n e t f) (k : Kept [] w w') : RefAt w' g c n e t f := h.kept k (by simp) (by simp)
theorem ne (h : RefAt w g c n e t f) : g ≠ c := by
  rintro rfl
  obtain ⟨d, hb, -, -⟩ := h.row
  have h2 := h.obj
  rw [hb] at h2
  simp at h2
theorem glt (h : RefAt w g c n e t f) : g < w.heap.size := lt_of_blk h.obj
theorem clt (h : RefAt w g c n e t f) : c < w.heap.size := h.row.lt
theorem congr (h : RefAt w g c n e t f) {f' : Nat → UInt8} (q : ∀ i, i < t * 64 → f i = f' i) : RefAt w g c n e t f' :=
  ⟨h.obj, h.row.congr (fun i hi => by rw [q i hi]), h.all, h.n8, h.e1024⟩
theorem set (h : RefAt w g c n e t f) (i : Nat) (x : UInt8) : RefAt (w.setCell ⟨c, i, none⟩ (bv x)) g c n e t (fun j => if j = i then x else f j) :=
  ⟨(heap_setCell_other w _ g _ h.ne).trans h.obj, (h.row.set i (bv x)).congr (fun j _ => by by_cases e : j = i <;> simp [e]), h.all, h.n8, h.e1024⟩
theorem t8192 (h : RefAt w g c n e t f) : t ≤ 8192 := by
  rw [← h.all]; exact Nat.le_trans (Nat.mul_le_mul h.n8 h.e1024) (by decide)
theorem mul (h : RefAt w g c n e t f) : (n : Int) * (e : Int) = (t : Int) := by rw [← Int.natCast_mul, h.all]
end RefAt

set_option maxHeartbeats 400000 in
theorem new_walk (n e : Nat) (w : World) (hn8 : n ≤ 8) (he2 : e ≤ 1024) (t : Nat) (ht : n * e = t) :
    Calls Try.prog 23 #[.int .i64 n, .int .i64 e] w fun r w' => r = .returned (.pointer (some ⟨w.heap.size + 1, 0, none⟩)) ∧
      w' = (w.alloc (.cells (madeCells #[.int .u8 0] (t * 64)) 5)).alloc (.cells #[.int .i64 n, .int .i64 e, .slice (some ⟨w.heap.size, 0, none⟩) (t * 64) (t * 64)] 45) := by
  have ht2 : t ≤ 8192 := by rw [← ht]; exact Nat.le_trans (Nat.mul_le_mul hn8 he2) (by decide)
  have hm : 64 * (n : Int) * (e : Int) = ((t * 64 : Nat) : Int) := by rw [← ht, Int.mul_assoc, ← Int.natCast_mul, Int.mul_comm]; simp
  have hmk := run_make_row' (P := Try.prog) 23 5 (.int .u8 0) 1 Try.underlying23 Fr.info rfl .i64 .i64 (t * 64) (by omega) (by omega)
  have hq2 : t * 64 ≤ 524288 := by omega
  generalize t * 64 = q at hm hmk hq2 ⊢
  clear ht
  have hq : 0 ≤ (q : Int) := Int.natCast_nonneg q
  go_enter Try.func23, Try.ntmps23
  go_wp2
  go_ret
  exact ⟨rfl, rfl⟩
theorem new_ok (n e : Nat) {w : World} (hn8 : n ≤ 8) (he2 : e ≤ 1024) (t : Nat) (ht : n * e = t) :
    Calls Try.prog 23 #[.int .i64 n, .int .i64 e] w fun r w' => ∃ g c : Nat, r = .returned (.pointer (some ⟨g, 0, none⟩)) ∧ RefAt w' g c n e t (fun _ => 0) ∧ w.heap.size ≤ g ∧ w.heap.size ≤ c ∧ Kept [] w w' := by
  refine (new_walk n e w hn8 he2 t ht).mono ?_
  rintro r w' ⟨rfl, rfl⟩
  refine ⟨w.heap.size + 1, w.heap.size, rfl, ⟨?_, ?_, ht, hn8, he2⟩, by omega, by omega, ((Kept.refl _ _).alloc _).alloc _⟩
  · exact heap_alloc2_new _ _ _
  · exact (World.rowIs_made w (.int .u8 0) (t * 64) 5).alloc _

set_option maxHeartbeats 400000 in
theorem has_any {w : World} {g c n e t : Nat} {f : Nat → UInt8} (k : Int) (h : RefAt w g c n e t f) :
    Calls Try.prog 26 #[.pointer (some ⟨g, 0, none⟩), .int .i64 k] w fun r w' => r = .returned (.bool (Fr.hasB t k)) ∧ Kept [] w w' := by
  have h0 := h.c0
  have h1 := h.c1
  have hm := h.mul
  have ht := h.t8192
  clear h
  rcases (show k < 0 ∨ (0 ≤ k ∧ (t : Int) ≤ k) ∨ (0 ≤ k ∧ k < t) from by omega) with h | ⟨ha, hb⟩ | ⟨ha, hb⟩
  · have E := hide (Fr.hasB_false (t := t) (k := k) (by omega))
    have hd : decide (0 ≤ k) = false := by simpa using h
    go_enter Try.func26, Try.ntmps26
    go_wp2_with fail
    go_big_region
    all_goals go_wp2
    all_goals go_ret
    all_goals
      rw [E.out]
      exact ⟨rfl, by first | exact (Kept.refl _ _).drew | exact Kept.refl _ _⟩
  · have E := hide (Fr.hasB_false (t := t) (k := k) (by omega))
    go_enter Try.func26, Try.ntmps26
    go_wp2_with fail
    go_region
    all_goals go_wp2
    all_goals go_ret
    all_goals
      rw [E.out]
      exact ⟨ret_bool (decide_eq_false (by omega)), (Kept.refl _ _).drew⟩
  · have E := hide (Fr.hasB_true (t := t) (k := k) (by omega))
    go_enter Try.func26, Try.ntmps26
    go_wp2_with fail
    go_region
    all_goals go_wp2
    all_goals go_ret
    all_goals
      rw [E.out]
      exact ⟨by first | rfl | exact ret_bool (decide_eq_true (by omega)), (Kept.refl _ _).drew⟩
end Go.Proofs.Ytockkmoanbddpaa.Rf
