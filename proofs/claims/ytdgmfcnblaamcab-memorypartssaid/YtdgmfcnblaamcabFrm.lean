
/-
  No statement of the program: the contracts of package frames, over this seat's translation (what reads; New).
-/
import Derived.Test.YtdgmfcnblaamcabBytes
import Derived.Test.YtdgmfcnblaamcabRows
namespace Go.Proofs.Ytdgmfcnblaamcab.Fr
open Go.RowKit

/-- A store in memory: block g holds its counts and its bytes' slice, block c its bytes: n nodes, e frames each, t frames. -/
structure StoreAt (w : World) (g c n e t : Nat) (f : Nat → UInt8) : Prop where
  obj : w.heap[g]? = some (.cells #[.int .i64 n, .int .i64 e, .slice (some ⟨c, 0, none⟩) (t * 64) (t * 64)] 39 (0, 0))
  row : w.rowIs c 5 (t * 64) (fun i => bv (f i))
  all : n * e = t
  n8 : n ≤ 8
  n1 : 1 ≤ n
  e1 : 1 ≤ e
  e1024 : e ≤ 1024

namespace StoreAt
variable {w w' : World} {g c n e t : Nat} {f : Nat → UInt8} {L : List Nat}
theorem c0 (h : StoreAt w g c n e t f) : w.cell? ⟨g, 0, none⟩ = some (.int .i64 n) := blk_cell h.obj 0 rfl
theorem c1 (h : StoreAt w g c n e t f) : w.cell? ⟨g, 1, none⟩ = some (.int .i64 e) := blk_cell h.obj 1 rfl
theorem c2 (h : StoreAt w g c n e t f) : w.cell? ⟨g, 2, none⟩ = some (.slice (some ⟨c, 0, none⟩) (t * 64) (t * 64)) := blk_cell h.obj 2 rfl
theorem kept (h : StoreAt w g c n e t f) (k : Kept L w w') (hg : g ∉ L) (hc : c ∉ L) : StoreAt w' g c n e t f :=
  ⟨k.blk h.obj hg, k.row h.row hc, h.all, h.n8, h.n1, h.e1, h.e1024⟩
theorem kept0 (h : StoreAt w g c n e t f) (k : Kept [] w w') : StoreAt w' g c n e t f := h.kept k (by simp) (by simp)
theorem ne (h : StoreAt w g c n e t f) : g ≠ c := by
  rintro rfl
  obtain ⟨d, hb, -, -⟩ := h.row
  have h2 := h.obj
  rw [hb] at h2
  simp at h2
theorem glt (h : StoreAt w g c n e t f) : g < w.heap.size := lt_of_blk h.obj
theorem clt (h : StoreAt w g c n e t f) : c < w.heap.size := h.row.lt
theorem congr (h : StoreAt w g c n e t f) {f' : Nat → UInt8} (q : ∀ i, i < t * 64 → f i = f' i) : StoreAt w g c n e t f' :=
  ⟨h.obj, h.row.congr (fun i hi => by rw [q i hi]), h.all, h.n8, h.n1, h.e1, h.e1024⟩
theorem write (h : StoreAt w g c n e t f) {f' : Nat → UInt8} (k : Kept [c] w w') (r : w'.rowIs c 5 (t * 64) (fun i => bv (f' i))) : StoreAt w' g c n e t f' :=
  ⟨k.blk h.obj (by simp [h.ne]), r, h.all, h.n8, h.n1, h.e1, h.e1024⟩
theorem t8192 (h : StoreAt w g c n e t f) : t ≤ 8192 := by
  rw [← h.all]; exact Nat.le_trans (Nat.mul_le_mul h.n8 h.e1024) (by decide)
theorem mul (h : StoreAt w g c n e t f) : (n : Int) * (e : Int) = (t : Int) := by rw [← Int.natCast_mul, h.all]
end StoreAt

theorem info : (Try.prog.info? 5).map (fun i => (i.zero, i.size, i.bytes)) = some (some (.int .u8 0), 1, 1) := by kernel_rfl
theorem size1 : (Try.prog.info? 5).map (·.size) = some 1 := by kernel_rfl

/-- Is there such a frame? -/
def hasB (t : Nat) (k : Int) : Bool := decide (0 ≤ k ∧ k < t)
theorem hasB_true {t : Nat} {k : Int} (h : 0 ≤ k ∧ k < t) : hasB t k = true := decide_eq_true h
theorem hasB_false {t : Nat} {k : Int} (h : ¬ (0 ≤ k ∧ k < t)) : hasB t k = false := decide_eq_false h

set_option maxHeartbeats 400000 in
theorem len_any {w : World} {g c n e t : Nat} {f : Nat → UInt8} (h : StoreAt w g c n e t f) :
    Calls Try.prog 23 #[.pointer (some ⟨g, 0, none⟩)] w fun r w' => r = .returned (.int .i64 t) ∧ Kept [] w w' := by
  have h0 := h.c0
  have h1 := h.c1
  have hm := h.mul
  have ht := h.t8192
  clear h
  go_enter Try.func23, Try.ntmps23
  go_wp2
  go_region
  all_goals go_wp2
  all_goals go_ret
  all_goals exact ⟨rfl, (Kept.refl _ _).drew⟩
set_option maxHeartbeats 400000 in
theorem len_nil (w : World) : Calls Try.prog 23 #[.pointer none] w fun r w' => r = .returned (.int .i64 0) ∧ w' = w := by
  go_enter Try.func23, Try.ntmps23
  go_wp2
  go_ret
  exact ⟨rfl, rfl⟩

set_option maxHeartbeats 400000 in
theorem has_any {w : World} {g c n e t : Nat} {f : Nat → UInt8} (k : Int) (h : StoreAt w g c n e t f) :
    Calls Try.prog 32 #[.pointer (some ⟨g, 0, none⟩), .int .i64 k] w fun r w' => r = .returned (.bool (hasB t k)) ∧ Kept [] w w' := by
  have H := hide h
  clear h
  rcases (show k < 0 ∨ (0 ≤ k ∧ (t : Int) ≤ k) ∨ (0 ≤ k ∧ k < t) from by omega) with h | ⟨ha, hb⟩ | ⟨ha, hb⟩
  · have E := hide (hasB_false (t := t) (k := k) (by omega))
    go_enter Try.func32, Try.ntmps32
    go_wp2
    go_ret
    rw [E.out]
    exact ⟨rfl, Kept.refl _ _⟩
  · have E := hide (hasB_false (t := t) (k := k) (by omega))
    go_enter Try.func32, Try.ntmps32
    go_wp2_with (go_at_call 23; refine (len_any H.out).mono ?_; rintro r w1 ⟨rfl, k1⟩)
    go_ret
    rw [E.out]
    exact ⟨by simp; omega, k1⟩
  · have E := hide (hasB_true (t := t) (k := k) (by omega))
    go_enter Try.func32, Try.ntmps32
    go_wp2_with (go_at_call 23; refine (len_any H.out).mono ?_; rintro r w1 ⟨rfl, k1⟩)
    go_ret
    rw [E.out]
    exact ⟨rfl, k1⟩
set_option maxHeartbeats 400000 in
theorem has_nil (k : Int) (w : World) : Calls Try.prog 32 #[.pointer none, .int .i64 k] w fun r w' => r = .returned (.bool false) ∧ w' = w := by
  rcases (show k < 0 ∨ 0 ≤ k from by omega) with h | h
  · go_enter Try.func32, Try.ntmps32
    go_wp2
    go_ret
    exact ⟨rfl, rfl⟩
  · go_enter Try.func32, Try.ntmps32
    go_wp2_with (go_at_call 23; refine (len_nil _).mono ?_; rintro r w1 ⟨rfl, rfl⟩)
    go_ret
    exact ⟨ret_bool (decide_eq_false (by omega)), rfl⟩

/-- What check answers. -/
def chk (t : Nat) (k at_ n : Int) : Int := if hasB t k then if 0 ≤ at_ ∧ 0 ≤ n ∧ at_ + n ≤ 64 then 0 else 7 else 1
theorem chk_arg {t : Nat} {k at_ n : Int} (h : hasB t k = false) : chk t k at_ n = 1 := by simp [chk, h]
theorem chk_bound {t : Nat} {k at_ n : Int} (h : hasB t k = true) (h2 : ¬ (0 ≤ at_ ∧ 0 ≤ n ∧ at_ + n ≤ 64)) : chk t k at_ n = 7 := by unfold chk; rw [h]; simp only [if_true]; rw [if_neg h2]
theorem chk_ok {t : Nat} {k at_ n : Int} (h : hasB t k = true) (h2 : 0 ≤ at_ ∧ 0 ≤ n ∧ at_ + n ≤ 64) : chk t k at_ n = 0 := by unfold chk; rw [h]; simp only [if_true]; rw [if_pos h2]
set_option maxHeartbeats 400000 in
theorem check_any {w : World} {g c n e t : Nat} {f : Nat → UInt8} (k at_ m : Int) (h : StoreAt w g c n e t f) (hm : m ≤ 9223372036854775807) :
    Calls Try.prog 29 #[.pointer (some ⟨g, 0, none⟩), .int .i64 k, .int .i64 at_, .int .i64 m] w fun r w' => r = .returned (.int .i64 (chk t k at_ m)) ∧ Kept [] w w' := by
  have H := hide h
  clear h
  cases hB : hasB t k with
  | false =>
    have E := hide (chk_arg (at_ := at_) (n := m) hB)
    go_enter Try.func29, Try.ntmps29
    go_wp2_with (go_at_call 32; refine (has_any k H.out).mono ?_; rintro r w1 ⟨rfl, k1⟩; rw [hB])
    go_ret
    rw [E.out]
    exact ⟨rfl, k1⟩
  | true =>
    rcases (show at_ < 0 ∨ (0 ≤ at_ ∧ m < 0) ∨ (0 ≤ at_ ∧ 0 ≤ m ∧ 64 < at_) ∨ (0 ≤ at_ ∧ 0 ≤ m ∧ at_ ≤ 64 ∧ 64 - at_ < m) ∨ (0 ≤ at_ ∧ 0 ≤ m ∧ at_ ≤ 64 ∧ m ≤ 64 - at_) from by omega) with h | ⟨ha, hb⟩ | ⟨ha, hb, hc⟩ | ⟨ha, hb, hc, hd⟩ | ⟨ha, hb, hc, hd⟩
    iterate 4
      · have E := hide (chk_bound (at_ := at_) (n := m) hB (by omega))
        go_enter Try.func29, Try.ntmps29
        go_wp2_with (go_at_call 32; refine (has_any k H.out).mono ?_; rintro r w1 ⟨rfl, k1⟩; rw [hB])
        go_ret
        rw [E.out]
        exact ⟨rfl, k1⟩
    · have E := hide (chk_ok (at_ := at_) (n := m) hB (by omega))
      go_enter Try.func29, Try.ntmps29
      go_wp2_with (go_at_call 32; refine (has_any k H.out).mono ?_; rintro r w1 ⟨rfl, k1⟩; rw [hB])
      go_ret
      rw [E.out]
      exact ⟨rfl, k1⟩
set_option maxHeartbeats 400000 in
theorem check_nil (k at_ m : Int) (w : World) :
    Calls Try.prog 29 #[.pointer none, .int .i64 k, .int .i64 at_, .int .i64 m] w fun r w' => r = .returned (.int .i64 1) ∧ w' = w := by
  go_enter Try.func29, Try.ntmps29
  go_wp2_with (go_at_call 32; refine (has_nil k _).mono ?_; rintro r w1 ⟨rfl, rfl⟩)
  go_ret
  exact ⟨rfl, rfl⟩

set_option maxHeartbeats 400000 in
/-- The bytes of a frame that there is. -/
theorem all_ok {w : World} {g c n e t : Nat} {f : Nat → UInt8} (k : Nat) (h : StoreAt w g c n e t f) (hk : k < t) :
    Calls Try.prog 30 #[.pointer (some ⟨g, 0, none⟩), .int .i64 k] w fun r w' => r = .returned (.slice (some ⟨c, k * 64, none⟩) 64 (t * 64 - k * 64)) ∧ w' = w := by
  have h2 := h.c2
  have ht := h.t8192
  have hcut := run_cut Try.underlying23 info (some ⟨c, 0, none⟩) (t * 64) (t * 64) .i64 .i64 (i := (k : Int) * 64) (j := (k : Int) * 64 + 64) (k * 64) (k * 64 + 64) (by omega) (by omega) (by omega) (by omega)
  rw [cutA_lt (by omega), Option.map_some, add_plain, Nat.zero_add, Nat.add_sub_cancel_left] at hcut
  clear h
  go_enter Try.func30, Try.ntmps30
  go_wp2
  go_ret
  exact ⟨rfl, rfl⟩

set_option maxHeartbeats 400000 in
/-- New, of counts that may be. -/
theorem new_walk (n e : Nat) (w : World) (hn : 1 ≤ n) (hn8 : n ≤ 8) (he : 1 ≤ e) (he2 : e ≤ 1024) (t : Nat) (ht : n * e = t) :
    Calls Try.prog 4 #[.int .i64 n, .int .i64 e] w fun r w' => r = .returned (.tuple #[.pointer (some ⟨w.heap.size + 1, 0, none⟩), .int .i64 0]) ∧
      w' = (w.alloc (.cells (madeCells #[.int .u8 0] (t * 64)) 5)).alloc (.cells #[.int .i64 n, .int .i64 e, .slice (some ⟨w.heap.size, 0, none⟩) (t * 64) (t * 64)] 39) := by
  have ht2 : t ≤ 8192 := by rw [← ht]; exact Nat.le_trans (Nat.mul_le_mul hn8 he2) (by decide)
  have hm : (n : Int) * (e : Int) = (t : Int) := by rw [← Int.natCast_mul, ht]
  have hmk := run_make_row' (P := Try.prog) 23 5 (.int .u8 0) 1 Try.underlying23 info rfl .i64 .i64 (t * 64) (by omega) (by omega)
  rw [show (((t * 64 : Nat)) : Int) = (t : Int) * 64 from Int.natCast_mul t 64] at hmk
  clear ht
  go_enter Try.func4, Try.ntmps4
  go_wp2
  go_ret2
  exact ⟨rfl, rfl⟩
theorem new_ok (n e : Nat) {w : World} (hn : 1 ≤ n) (hn8 : n ≤ 8) (he : 1 ≤ e) (he2 : e ≤ 1024) (t : Nat) (ht : n * e = t) :
    Calls Try.prog 4 #[.int .i64 n, .int .i64 e] w fun r w' => ∃ g c : Nat, r = .returned (.tuple #[.pointer (some ⟨g, 0, none⟩), .int .i64 0]) ∧ StoreAt w' g c n e t (fun _ => 0) ∧ w.heap.size ≤ g ∧ w.heap.size ≤ c ∧ Kept [] w w' := by
  refine (new_walk n e w hn hn8 he he2 t ht).mono ?_
  rintro r w' ⟨rfl, rfl⟩
  refine ⟨w.heap.size + 1, w.heap.size, rfl, ⟨?_, ?_, ht, hn8, hn, he, he2⟩, by omega, by omega, ((Kept.refl _ _).alloc _).alloc _⟩
  · exact heap_alloc2_new _ _ _
  · exact (World.rowIs_made w (.int .u8 0) (t * 64) 5).alloc _
set_option maxHeartbeats 400000 in
/-- New, of others: ErrCount. -/
theorem new_bad (n e : Int) {w : World} (h : ¬ (1 ≤ n ∧ n ≤ 8 ∧ 1 ≤ e ∧ e ≤ 1024)) :
    Calls Try.prog 4 #[.int .i64 n, .int .i64 e] w fun r w' => r = .returned (.tuple #[.pointer none, .int .i64 3]) ∧ w' = w := by
  rcases (show n < 1 ∨ (1 ≤ n ∧ 8 < n) ∨ (1 ≤ n ∧ n ≤ 8 ∧ e < 1) ∨ (1 ≤ n ∧ n ≤ 8 ∧ 1 ≤ e ∧ 1024 < e) from by omega) with h | ⟨h1, h2⟩ | ⟨h1, h2, h3⟩ | ⟨h1, h2, h3, h4⟩
  all_goals
    go_enter Try.func4, Try.ntmps4
    go_wp2
    go_ret2
    exact ⟨rfl, rfl⟩
end Go.Proofs.Ytdgmfcnblaamcab.Fr
