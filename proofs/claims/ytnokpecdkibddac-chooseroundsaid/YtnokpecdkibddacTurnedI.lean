
/-
  No statement of the program: the contract of (*Grid).Turned at one type of things (numbers), over this seat's translation.
-/
import Derived.Test.YtnokpecdkibddacGridI
namespace Go.Proofs.Ytnokpecdkibddac.GI
open Go.RowKit

/-- What stands at place j of the table turned, of one with m rows and n columns. -/
def turn (m n : Nat) (f : Nat → Int) (j : Nat) : Int := f (j % m * n + j / m)
/-- .. so far: rows below r are done, and of row r the columns below k. -/
def turnTo (m n : Nat) (f : Nat → Int) (r k j : Nat) : Int := if j % m < r ∨ j % m = r ∧ j / m < k then turn m n f j else 0

theorem turnTo_start (m n : Nat) (f : Nat → Int) (j : Nat) : turnTo m n f 0 0 j = 0 := by
  unfold turnTo; rw [if_neg (by rintro (h | ⟨_, h⟩) <;> exact absurd h (Nat.not_lt_zero _))]
theorem turnTo_step (m n : Nat) (f : Nat → Int) (r k j : Nat) (hr : r < m) :
    (if j = k * m + r then f (r * n + k) else turnTo m n f r k j) = turnTo m n f r (k + 1) j := by
  have hm : 0 < m := by omega
  have hj : j = m * (j / m) + j % m := (Nat.div_add_mod j m).symm
  by_cases e : j = k * m + r
  · subst e
    have h1 : (k * m + r) % m = r := by rw [Nat.add_comm, Nat.add_mul_mod_self_right]; exact Nat.mod_eq_of_lt hr
    have h2 : (k * m + r) / m = k := by rw [Nat.add_comm, Nat.add_mul_div_right _ _ hm, Nat.div_eq_of_lt hr]; omega
    rw [if_pos rfl]; unfold turnTo turn; rw [h1, h2, if_pos (by omega)]
  · rw [if_neg e]
    unfold turnTo
    by_cases h : j % m < r ∨ j % m = r ∧ j / m < k
    · rw [if_pos h, if_pos (by omega)]
    · rw [if_neg h, if_neg]
      rintro (h1 | ⟨h1, h2⟩)
      · exact h (.inl h1)
      · have h3 : j / m = k := by
          by_cases h4 : j / m < k
          · exact absurd (.inr ⟨h1, h4⟩) h
          · omega
        rw [h1, h3, Nat.mul_comm] at hj; exact e hj
theorem turnTo_next (m n : Nat) (f : Nat → Int) (r j : Nat) (hj : j < n * m) : turnTo m n f r n j = turnTo m n f (r + 1) 0 j := by
  have h : j / m < n := Nat.div_lt_of_lt_mul (by rw [Nat.mul_comm]; exact hj)
  unfold turnTo
  generalize turn m n f j = x
  generalize j / m = q at *
  generalize j % m = p at *
  by_cases h1 : p < r + 1
  · rw [if_pos (by omega), if_pos (by omega)]
  · rw [if_neg (by omega), if_neg (by omega)]
theorem turnTo_end (m n : Nat) (f : Nat → Int) (j : Nat) (hj : j < n * m) : turnTo m n f m 0 j = turn m n f j := by
  have hm : 0 < m := Nat.pos_of_ne_zero (by rintro rfl; simp at hj)
  unfold turnTo; rw [if_pos (.inl (Nat.mod_lt _ hm))]

/-- The loops' state: the table as it is, and the new one so far. -/
structure Mid (w : World) (g c m n : Nat) (f : Nat → Int) (r k : Nat) (wr : World) : Prop where
  old : GridAt wr g c m n f
  new : GridAt wr (w.heap.size + 1) w.heap.size n m (turnTo m n f r k)
  kept : Kept [] w wr
theorem Mid.start {w : World} {g c m n : Nat} {f : Nat → Int} (h : GridAt w g c m n f) :
    Mid w g c m n f 0 0 ((w.alloc (.cells (madeCells #[.int .i64 0] (m * n)) 3)).alloc (.cells #[.int .i64 n, .int .i64 m, .slice (some ⟨w.heap.size, 0, none⟩) (m * n) (m * n)] 99)).drew := by
  have k : Kept [] w ((w.alloc (.cells (madeCells #[.int .i64 0] (m * n)) 3)).alloc (.cells #[.int .i64 n, .int .i64 m, .slice (some ⟨w.heap.size, 0, none⟩) (m * n) (m * n)] 99)).drew := (((Kept.refl _ _).alloc _).alloc _).drew
  refine ⟨h.kept k (by simp) (by simp), ⟨?_, ?_, h.n64, h.m64⟩, k⟩
  · rw [Nat.mul_comm n m]; exact heap_alloc2_new _ _ _
  · rw [Nat.mul_comm n m]
    refine World.rowIs.congr (World.rowIs.drew ((World.rowIs_made w (.int .i64 0) (m * n) 3).alloc _)) (fun i _ => ?_)
    rw [turnTo_start]
theorem Mid.step {w wr : World} {g c m n : Nat} {f : Nat → Int} {r k : Nat} (hg : g < w.heap.size) (hc : c < w.heap.size) (h : Mid w g c m n f r k wr) (hr : r < m) :
    Mid w g c m n f r (k + 1) (wr.setCell ⟨w.heap.size, k * m + r, none⟩ (.int .i64 (f (r * n + k)))).drew := by
  have k1 : Kept [w.heap.size] wr (wr.setCell ⟨w.heap.size, k * m + r, none⟩ (.int .i64 (f (r * n + k)))).drew := ((Kept.refl _ _).setCell (fun _ => by simp) _).drew
  refine ⟨h.old.kept k1 (by simp; omega) (by simp; omega), ?_, h.kept.trans k1 (by intro x hx hl; simp at hx; omega)⟩
  exact ((h.new.set (k * m + r) (f (r * n + k))).congr (fun i _ => turnTo_step m n f r k i hr)).kept (Kept.refl [] _).drew (by simp) (by simp)
theorem Mid.next {w wr : World} {g c m n : Nat} {f : Nat → Int} {r : Nat} (h : Mid w g c m n f r n wr) : Mid w g c m n f (r + 1) 0 wr :=
  ⟨h.old, h.new.congr (fun i hi => turnTo_next m n f r i hi), h.kept⟩

set_option maxHeartbeats 1000000 in
theorem turned_ok {g c m n : Nat} {f : Nat → Int} {w : World} (h : GridAt w g c m n f) :
    Calls Try.prog 43 #[.pointer (some ⟨g, 0, none⟩)] w fun e w' => ∃ g' c' : Nat, e = .returned (.pointer (some ⟨g', 0, none⟩)) ∧ GridAt w' g' c' n m (turn m n f) ∧ w.heap.size ≤ g' ∧ w.heap.size ≤ c' ∧ Kept [] w w' := by
  have h0 := h.c0
  have h1 := h.c1
  have h2 := h.c2
  have hg := h.glt
  have hc := h.clt
  have hm64 := h.m64
  have hn64 := h.n64
  have hb := pos_le (Nat.le_refl m) h.m64 h.n64
  have hmk := run_make_row' (P := Try.prog) 22 3 (.int .i64 0) 8 Try.underlying22 info rfl .i64 .i64 (m * n) (by omega) (by omega)
  rw [show (((m * n : Nat)) : Int) = (m : Int) * (n : Int) from Int.natCast_mul m n] at hmk
  have H := hide h
  clear h
  go_enter Try.func43, Try.ntmps43
  go_wp2
  go_region
  all_goals go_wp2
  clear hmk hb
  go_loopw [28] (fun i wr => ∃ r : Nat, r ≤ m ∧ i = .int .i64 r ∧ Mid w g c m n f r 0 wr) (fun i _ => m - (intOf i).toNat)
  case atStart => exact ⟨0, Nat.zero_le _, rfl, Mid.start H.out⟩
  case round =>
    obtain ⟨r, hr, rfl, hmid⟩ := hrel
    by_cases hlt : r < m
    · have o1 := hmid.old.c1
      have M := hide hmid
      clear hmid h0 h1 h2
      go_wp2
      go_loopw [35] (fun i wi => ∃ k : Nat, k ≤ n ∧ i = .int .i64 k ∧ Mid w g c m n f r k wi) (fun i _ => n - (intOf i).toNat)
      case atStart => exact ⟨0, Nat.zero_le _, rfl, M.out⟩
      case round =>
        obtain ⟨k, hk, rfl, hmid⟩ := hrel
        by_cases hkn : k < n
        · have o0 := hmid.old.c0
          have o1 := hmid.old.c1
          have o2 := hmid.old.c2
          have n2 := hmid.new.c2
          have hin := pos_lt hlt hkn
          have hin2 := pos_lt hkn hlt
          have hb1 := pos_le hr hm64 hn64
          have hb2 := pos_le hk hn64 hm64
          have oc := hmid.old.row.cell hin
          have nc := hmid.new.row.cell hin2
          have nf := hmid.new.row.frozen (k * m + r)
          have hst := hide (hmid.step hg hc hlt)
          clear hmid
          go_wp2
          go_region
          all_goals go_wp2
          all_goals go_roundw
          case rel => exact ⟨k + 1, by omega, by go_num, hst.out⟩
          case measure => simp [intOf]; omega
        · have e : k = n := by omega
          subst e
          have hst := hide hmid.next
          clear hmid
          go_wp2
          go_roundw
          case rel => exact ⟨r + 1, by omega, by go_num, hst.out⟩
          case measure => simp [intOf]; omega
    · have e : r = m := by omega
      subst e
      have hst := hide hmid
      clear hmid
      go_wp2
      go_ret
      exact ⟨_, _, rfl, hst.out.new.congr (fun i hi => turnTo_end r n f i hi), by omega, by omega, hst.out.kept⟩
end Go.Proofs.Ytnokpecdkibddac.GI
