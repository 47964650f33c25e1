
/-
  No statement of the program: the contracts of package grid at one type of things (numbers), over this seat's translation.
-/
import Derived.Test.YtnokpecdkibddacHeap
import Derived.Test.YtnokpecdkibddacRows
namespace Go.Proofs.Ytnokpecdkibddac.GI
open Go.RowKit

/-- A table in memory: block g holds its sides and its cells' slice, block c its cells. -/
structure GridAt (w : World) (g c m n : Nat) (f : Nat → Int) : Prop where
  obj : w.heap[g]? = some (.cells #[.int .i64 m, .int .i64 n, .slice (some ⟨c, 0, none⟩) (m * n) (m * n)] 99 (0, 0))
  row : w.rowIs c 3 (m * n) (fun i => .int .i64 (f i))
  m64 : m ≤ 64
  n64 : n ≤ 64

namespace GridAt
variable {w w' : World} {g c m n : Nat} {f : Nat → Int} {L : List Nat}
theorem c0 (h : GridAt w g c m n f) : w.cell? ⟨g, 0, none⟩ = some (.int .i64 m) := blk_cell h.obj 0 rfl
theorem c1 (h : GridAt w g c m n f) : w.cell? ⟨g, 1, none⟩ = some (.int .i64 n) := blk_cell h.obj 1 rfl
theorem c2 (h : GridAt w g c m n f) : w.cell? ⟨g, 2, none⟩ = some (.slice (some ⟨c, 0, none⟩) (m * n) (m * n)) := blk_cell h.obj 2 rfl
theorem kept (h : GridAt w g c m n f) (k : Kept L w w') (hg : g ∉ L) (hc : c ∉ L) : GridAt w' g c m n f :=
  ⟨k.blk h.obj hg, k.row h.row hc, h.m64, h.n64⟩
theorem ne (h : GridAt w g c m n f) : g ≠ c := by
  rintro rfl
  obtain ⟨d, hb, -, -⟩ := h.row
  have h2 := h.obj
  rw [hb] at h2
  simp at h2
theorem glt (h : GridAt w g c m n f) : g < w.heap.size := lt_of_blk h.obj
theorem clt (h : GridAt w g c m n f) : c < w.heap.size := h.row.lt
theorem congr (h : GridAt w g c m n f) {f' : Nat → Int} (e : ∀ i, i < m * n → f i = f' i) : GridAt w g c m n f' :=
  ⟨h.obj, h.row.congr (fun i hi => by rw [e i hi]), h.m64, h.n64⟩
theorem set (h : GridAt w g c m n f) (i : Nat) (x : Int) : GridAt (w.setCell ⟨c, i, none⟩ (.int .i64 x)) g c m n (fun j => if j = i then x else f j) :=
  ⟨(heap_setCell_other w _ g _ h.ne).trans h.obj, (h.row.set i (.int .i64 x)).congr (fun j _ => by by_cases e : j = i <;> simp [e]), h.m64, h.n64⟩
end GridAt

theorem pos_lt {r k m n : Nat} (hr : r < m) (hk : k < n) : r * n + k < m * n := by
  have : (r + 1) * n ≤ m * n := Nat.mul_le_mul_right n hr
  rw [Nat.add_mul] at this; omega
theorem pos_le {r m n : Nat} (hr : r ≤ m) (hm : m ≤ 64) (hn : n ≤ 64) : r * n ≤ 4096 :=
  Nat.le_trans (Nat.mul_le_mul (Nat.le_trans hr hm) hn) (by decide : 64 * 64 ≤ 4096)

/-- Is there such a place? -/
def hasB (m n r c : Int) : Bool := decide (0 ≤ r ∧ r < m ∧ 0 ≤ c ∧ c < n)
theorem hasB_true {m n r c : Int} (h : 0 ≤ r ∧ r < m ∧ 0 ≤ c ∧ c < n) : hasB m n r c = true := decide_eq_true h
theorem hasB_false {m n r c : Int} (h : ¬ (0 ≤ r ∧ r < m ∧ 0 ≤ c ∧ c < n)) : hasB m n r c = false := decide_eq_false h
/-- May it be a side? -/
def sideB (n : Int) : Bool := decide (0 ≤ n ∧ n ≤ 64)
theorem sideB_true {n : Int} (h : 0 ≤ n ∧ n ≤ 64) : sideB n = true := decide_eq_true h
theorem sideB_false {n : Int} (h : ¬ (0 ≤ n ∧ n ≤ 64)) : sideB n = false := decide_eq_false h

set_option maxHeartbeats 400000 in
theorem side_any (n : Int) (w : World) :
    Calls Try.prog 50 #[.int .i64 n] w fun e w' => e = .returned (.bool (sideB n)) ∧ w' = w := by
  rcases (show n < 0 ∨ (0 ≤ n ∧ 64 < n) ∨ (0 ≤ n ∧ n ≤ 64) from by omega) with h | ⟨ha, hb⟩ | ⟨ha, hb⟩
  all_goals
    go_enter Try.func50, Try.ntmps50
    go_wp2
    go_ret
  · exact ⟨ret_bool (sideB_false (by omega)).symm, rfl⟩
  · exact ⟨ret_bool ((decide_eq_false (by omega)).trans (sideB_false (by omega)).symm), rfl⟩
  · exact ⟨ret_bool (sideB_true (by omega)).symm, rfl⟩

set_option maxHeartbeats 400000 in
theorem rows_any (g : Nat) (m : Int) (w : World) (h : w.cell? ⟨g, 0, none⟩ = some (.int .i64 m)) :
    Calls Try.prog 63 #[.pointer (some ⟨g, 0, none⟩)] w fun e w' => e = .returned (.int .i64 m) ∧ w' = w := by
  go_enter Try.func63, Try.ntmps63
  go_wp2
  go_ret
  exact ⟨rfl, rfl⟩
set_option maxHeartbeats 400000 in
theorem rows_nil (w : World) :
    Calls Try.prog 63 #[.pointer none] w fun e w' => e = .returned (.int .i64 0) ∧ w' = w := by
  go_enter Try.func63, Try.ntmps63
  go_wp2
  go_ret
  exact ⟨rfl, rfl⟩
set_option maxHeartbeats 400000 in
theorem cols_any (g : Nat) (m : Int) (w : World) (h : w.cell? ⟨g, 1, none⟩ = some (.int .i64 m)) :
    Calls Try.prog 64 #[.pointer (some ⟨g, 0, none⟩)] w fun e w' => e = .returned (.int .i64 m) ∧ w' = w := by
  go_enter Try.func64, Try.ntmps64
  go_wp2
  go_ret
  exact ⟨rfl, rfl⟩
set_option maxHeartbeats 400000 in
theorem cols_nil (w : World) :
    Calls Try.prog 64 #[.pointer none] w fun e w' => e = .returned (.int .i64 0) ∧ w' = w := by
  go_enter Try.func64, Try.ntmps64
  go_wp2
  go_ret
  exact ⟨rfl, rfl⟩

set_option maxHeartbeats 400000 in
theorem has_any (g : Nat) (m n r c : Int) (w : World) (h0 : w.cell? ⟨g, 0, none⟩ = some (.int .i64 m)) (h1 : w.cell? ⟨g, 1, none⟩ = some (.int .i64 n)) :
    Calls Try.prog 51 #[.pointer (some ⟨g, 0, none⟩), .int .i64 r, .int .i64 c] w fun e w' => e = .returned (.bool (hasB m n r c)) ∧ w' = w := by
  rcases (show r < 0 ∨ (0 ≤ r ∧ m ≤ r) ∨ (0 ≤ r ∧ r < m ∧ c < 0) ∨ (0 ≤ r ∧ r < m ∧ 0 ≤ c ∧ n ≤ c) ∨ (0 ≤ r ∧ r < m ∧ 0 ≤ c ∧ c < n) from by omega) with h | ⟨ha, hb⟩ | ⟨ha, hb, hc⟩ | ⟨ha, hb, hc, hd⟩ | ⟨ha, hb, hc, hd⟩
  all_goals
    go_enter Try.func51, Try.ntmps51
    go_wp2
    go_ret
  · exact ⟨ret_bool (hasB_false (by omega)).symm, rfl⟩
  · exact ⟨ret_bool (hasB_false (by omega)).symm, rfl⟩
  · exact ⟨ret_bool (hasB_false (by omega)).symm, rfl⟩
  · exact ⟨ret_bool ((decide_eq_false (by omega)).trans (hasB_false (by omega)).symm), rfl⟩
  · exact ⟨ret_bool (hasB_true (by omega)).symm, rfl⟩

set_option maxHeartbeats 400000 in
/-- Put, at a place that there is. -/
theorem put_walk (g c m n : Nat) (f : Nat → Int) (r k : Nat) (x : Int) (w : World) (h : GridAt w g c m n f) (hr : r < m) (hk : k < n) :
    Calls Try.prog 41 #[.pointer (some ⟨g, 0, none⟩), .int .i64 r, .int .i64 k, .int .i64 x] w fun e w' => e = .returned (.int .i64 0) ∧ w' = (w.setCell ⟨c, r * n + k, none⟩ (.int .i64 x)).drew := by
  have h0 := h.c0
  have h1 := h.c1
  have h2 := h.c2
  have hin := pos_lt hr hk
  have hb := pos_le (Nat.le_of_lt hr) h.m64 h.n64
  have hk64 : k < 64 := Nat.lt_of_lt_of_le hk h.n64
  have hc := h.row.cell hin
  have hf := h.row.frozen (r * n + k)
  have hB : hasB m n r k = true := hasB_true (by omega)
  clear h
  go_enter Try.func41, Try.ntmps41
  go_wp2_with (go_at_call 51; refine (has_any g m n r k _ h0 h1).mono ?_; rintro e w' ⟨rfl, rfl⟩; rw [hB])
  go_region
  all_goals go_wp2
  all_goals go_ret
  all_goals exact ⟨rfl, rfl⟩
theorem put_ok {g c m n : Nat} {f : Nat → Int} (r k : Nat) (x : Int) {w : World} (h : GridAt w g c m n f) (hr : r < m) (hk : k < n) :
    Calls Try.prog 41 #[.pointer (some ⟨g, 0, none⟩), .int .i64 r, .int .i64 k, .int .i64 x] w fun e w' => e = .returned (.int .i64 0) ∧ GridAt w' g c m n (fun j => if j = r * n + k then x else f j) ∧ Kept [c] w w' := by
  refine (put_walk g c m n f r k x w h hr hk).mono ?_
  rintro e w' ⟨rfl, rfl⟩
  have hk2 : Kept [c] w (w.setCell ⟨c, r * n + k, none⟩ (.int .i64 x)) := (Kept.refl _ _).setCell (fun _ => by simp) _
  exact ⟨rfl, (h.set (r * n + k) x).kept ((Kept.refl [] _).drew) (by simp) (by simp), hk2.drew⟩
theorem put_at {g c m n : Nat} {f : Nat → Int} {ri ki : Int} (r k : Nat) (er : ri = r) (ek : ki = k) (x : Int) {w : World} (h : GridAt w g c m n f) (hr : r < m) (hk : k < n) :
    Calls Try.prog 41 #[.pointer (some ⟨g, 0, none⟩), .int .i64 ri, .int .i64 ki, .int .i64 x] w fun e w' => e = .returned (.int .i64 0) ∧ GridAt w' g c m n (fun j => if j = r * n + k then x else f j) ∧ Kept [c] w w' := by
  subst er ek
  exact put_ok r k x h hr hk
set_option maxHeartbeats 400000 in
/-- Put, at another one: ErrArg. -/
theorem put_bad {g : Nat} {m n : Int} (r k : Int) (x : Int) {w : World} (h0 : w.cell? ⟨g, 0, none⟩ = some (.int .i64 m)) (h1 : w.cell? ⟨g, 1, none⟩ = some (.int .i64 n)) (hB : hasB m n r k = false) :
    Calls Try.prog 41 #[.pointer (some ⟨g, 0, none⟩), .int .i64 r, .int .i64 k, .int .i64 x] w fun e w' => e = .returned (.int .i64 1) ∧ w' = w := by
  go_enter Try.func41, Try.ntmps41
  go_wp2_with (go_at_call 51; refine (has_any g m n r k _ h0 h1).mono ?_; rintro e w' ⟨rfl, rfl⟩; rw [hB])
  go_ret
  exact ⟨rfl, rfl⟩

theorem info : (Try.prog.info? 3).map (fun i => (i.zero, i.size, i.bytes)) = some (some (.int .i64 0), 1, 8) := by kernel_rfl

set_option maxHeartbeats 400000 in
/-- New, of sides that may be. -/
theorem new_walk (m n : Nat) (w : World) (hm : m ≤ 64) (hn : n ≤ 64) :
    Calls Try.prog 39 #[.int .i64 m, .int .i64 n] w fun e w' => e = .returned (.tuple #[.pointer (some ⟨w.heap.size + 1, 0, none⟩), .int .i64 0]) ∧
      w' = (w.alloc (.cells (madeCells #[.int .i64 0] (m * n)) 3)).alloc (.cells #[.int .i64 m, .int .i64 n, .slice (some ⟨w.heap.size, 0, none⟩) (m * n) (m * n)] 99) := by
  have hb := pos_le (Nat.le_refl m) hm hn
  have hmk := run_make_row' (P := Try.prog) 22 3 (.int .i64 0) 8 Try.underlying22 info rfl .i64 .i64 (m * n) (by omega) (by omega)
  rw [show (((m * n : Nat)) : Int) = (m : Int) * (n : Int) from Int.natCast_mul m n] at hmk
  have s1 : sideB m = true := sideB_true (by omega)
  have s2 : sideB n = true := sideB_true (by omega)
  go_enter Try.func39, Try.ntmps39
  go_wp2_with (first | (go_at_call_of 50 (Value.int .i64 (m : Int)); refine (side_any m _).mono ?_; rintro e w' ⟨rfl, rfl⟩; rw [s1]) | (go_at_call_of 50 (Value.int .i64 (n : Int)); refine (side_any n _).mono ?_; rintro e w' ⟨rfl, rfl⟩; rw [s2]))
  go_ret2
  exact ⟨rfl, rfl⟩
theorem new_ok (m n : Nat) {w : World} (hm : m ≤ 64) (hn : n ≤ 64) :
    Calls Try.prog 39 #[.int .i64 m, .int .i64 n] w fun e w' => ∃ g c : Nat, e = .returned (.tuple #[.pointer (some ⟨g, 0, none⟩), .int .i64 0]) ∧ GridAt w' g c m n (fun _ => 0) ∧ w.heap.size ≤ g ∧ w.heap.size ≤ c ∧ Kept [] w w' := by
  refine (new_walk m n w hm hn).mono ?_
  rintro e w' ⟨rfl, rfl⟩
  refine ⟨w.heap.size + 1, w.heap.size, rfl, ⟨?_, ?_, hm, hn⟩, by omega, by omega, ((Kept.refl _ _).alloc _).alloc _⟩
  · exact heap_alloc2_new _ _ _
  · exact (World.rowIs_made w (.int .i64 0) (m * n) 3).alloc _
set_option maxHeartbeats 400000 in
/-- New, of others: ErrCount. -/
theorem new_bad (m n : Int) {w : World} (hB : sideB m = false ∨ sideB m = true ∧ sideB n = false) :
    Calls Try.prog 39 #[.int .i64 m, .int .i64 n] w fun e w' => e = .returned (.tuple #[.pointer none, .int .i64 3]) ∧ w' = w := by
  rcases hB with s1 | ⟨s1, s2⟩
  · go_enter Try.func39, Try.ntmps39
    go_wp2_with (go_at_call 50; refine (side_any m _).mono ?_; rintro e w' ⟨rfl, rfl⟩; rw [s1])
    go_ret2
    exact ⟨rfl, rfl⟩
  · go_enter Try.func39, Try.ntmps39
    go_wp2_with fail
    refine (side_any m _).mono ?_; rintro e w' ⟨rfl, rfl⟩; rw [s1]
    go_wp2_with fail
    refine (side_any n _).mono ?_; rintro e w' ⟨rfl, rfl⟩; rw [s2]
    go_wp2_with fail
    go_ret2
    exact ⟨rfl, rfl⟩
end Go.Proofs.Ytnokpecdkibddac.GI
