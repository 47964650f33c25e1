/-
  No statement of the program: the contracts of slices.Clone and of (*Grid).Row at one type of things (numbers), over this seat's translation.
-/
import Derived.Test.YtjcghcibligioabGridI
import Derived.Deep.RegionHeld3
namespace Go.Proofs.Ytjcghcibligioab.GI
open Go.RowKit

set_option maxHeartbeats 400000 in
theorem clone_ok (x : Addr) (n cap : Nat) (z : Nat → Int) {w : World} (hn : n ≤ 4096) (hz : ∀ i, i < n → w.cell? (x.add i) = some (.int .i64 (z i))) :
    Calls Try.prog 29 #[.slice (some x) n cap] w fun e w' => ∃ (b cap : Nat) (h : Nat → Value), e = .returned (.slice (some ⟨b, 0, none⟩) n cap) ∧ w.heap.size ≤ b ∧ n ≤ cap ∧ w'.rowIs b 3 cap h ∧ (∀ i, i < n → h i = .int .i64 (z i)) ∧ Kept [] w w' := by
  have hsn := fun w => Lib.run_eql_slice_nil (P := Try.prog) w 31 3 (some x) n cap 0 0 Try.underlying31
  obtain ⟨i0, hi, hz0, hz1, hz2⟩ := info_parts info
  have HZ := hide hz
  clear hz
  go_enter Try.func29, Try.ntmps29
  go_wp2_with (at_builtin; refine wpList_append_own _ rfl _ _ 31 rfl w.heap.size 3 i0 (.int .i64 0) 1 8 Try.underlying31 hi hz0 hz1 hz2 rfl (by decide) _ _ _ rfl (World.ownsRow_made w #[] 0 (Nat.le_refl _) (by decide) rfl) x n cap ((List.range n).map (fun i => .int .i64 (z i))) rfl (by simp) ?c1 ?c2 ?c3 ?c4 ?c5 ?_)
  case c1 => exact news_cells (fun i h => ((Kept.refl [] w).alloc _).cell (HZ.out i h) (by simp))
  case c2 => intro u hu; simp at hu; obtain ⟨i, _, rfl⟩ := hu; rfl
  case c3 => unfold maxLen; omega
  case c4 => omega
  case c5 => simp
  intro v' w1 hown hgrow hnil
  have hv : v' ≠ .slice none 0 0 := by simpa using hnil
  obtain ⟨b, cp, h, hvv, hb, hcp, hrow, hh⟩ := own_row hown hv
  have R := hide (And.intro hb (And.intro hcp (And.intro hrow (And.intro hh (((Kept.refl [] w).alloc (.cells #[] 3)).trans (Kept.of_grownBy (L := [w.heap.size]) hgrow (by simp [Value.ownBlock])) (by intro x hx hl; simp at hx; omega))))))
  clear hown hgrow hnil hv hb hcp hrow hh
  rw [hvv]
  go_wp2
  go_ret
  exact ⟨b, cp, h, rfl, R.out⟩

set_option maxHeartbeats 400000 in
theorem row_ok {g c m n : Nat} {f : Nat → Int} {w : World} (r : Nat) (h : GridAt w g c m n f) (hr : r < m) :
    Calls Try.prog 13 #[.pointer (some ⟨g, 0, none⟩), .int .i64 r] w fun e w' => ∃ (b cap : Nat) (h : Nat → Value), e = .returned (.slice (some ⟨b, 0, none⟩) n cap) ∧ w.heap.size ≤ b ∧ n ≤ cap ∧ w'.rowIs b 3 cap h ∧ (∀ i, i < n → h i = .int .i64 (f (r * n + i))) ∧ Kept [] w w' := by
  have h0 := h.c0
  have h1 := h.c1
  have h2 := h.c2
  have hm64 := h.m64
  have hn64 := h.n64
  have hb0 := pos_le (Nat.le_of_lt hr) h.m64 h.n64
  have hb1 : (r + 1) * n ≤ m * n := Nat.mul_le_mul_right n hr
  have hb2 := pos_le (Nat.le_refl m) h.m64 h.n64
  have hb3 : (r + 1) * n - r * n = n := by rw [Nat.add_mul]; omega
  have hb4 : (r + 1) * n = r * n + n := by rw [Nat.add_mul]; omega
  have i2 : ((r : Int) + 1) * (n : Int) = ((r + 1) * n : Nat) := by simp [Int.natCast_mul]
  have i3 : ((r : Int) + 1) * (n : Int) ≤ 4096 := by omega
  have i4 : 0 ≤ ((r : Int) + 1) * (n : Int) := by omega
  have w1 : IntKind.i64.wrap ((r : Int) * (n : Int)) = ((r * n : Nat) : Int) := by
    rw [← Int.natCast_mul]; exact IntWalk.i64_in _ ⟨by omega, by omega⟩
  have w2 : IntKind.i64.wrap (IntKind.i64.wrap ((r : Int) + 1) * (n : Int)) = (((r + 1) * n : Nat) : Int) := by
    rw [IntWalk.i64_in ((r : Int) + 1) ⟨by omega, by omega⟩, i2]; exact IntWalk.i64_in _ ⟨by omega, by omega⟩
  have hcut := run_cut Try.underlying31 info (some ⟨c, 0, none⟩) (m * n) (m * n) .i64 .i64 (r * n) ((r + 1) * n) w1 w2 (by omega) hb1
  rw [hb3] at hcut
  obtain ⟨x, hx⟩ := cutA_some ⟨c, 0, none⟩ (m * n) (r * n)
  have hz : ∀ i, i < n → w.cell? (x.add i) = some (.int .i64 (f (r * n + i))) := by
    intro i hi
    rw [cutA_lt (by omega), Option.map_some, add_plain] at hx
    obtain rfl := Option.some.inj hx
    rw [add_plain, Nat.zero_add]
    exact h.row.cell (by omega)
  rw [hx] at hcut
  have HZ := hide hz
  clear w1 w2 h hz hx hb3 hb4 hb1 i2
  go_enter Try.func13, Try.ntmps13
  go_wp2_with (go_at_call 11; refine (rows_any g m _ h0).mono ?_; rintro e w' ⟨rfl, rfl⟩)
  go_region_held3 (fun w' => w'.cell? ⟨g, 1, none⟩ = some (.int .i64 n) ∧ w'.cell? ⟨g, 2, none⟩ = some (.slice (some ⟨c, 0, none⟩) (m * n) (m * n))) (go_keep) ((go_at_call 29; refine (clone_ok x n _ (fun i => f (r * n + i)) (by omega) (by exact HZ.out)).mono ?_; rintro e w5 ⟨b, cp, h, rfl, hb5, hc5, hr5, hf5, hk5⟩; have s1 : w5.cell? ⟨g, 1, none⟩ = some (.int .i64 n) := hk5.cell (by exact h1) (by simp); have s2 : w5.cell? ⟨g, 2, none⟩ = some (.slice (some ⟨c, 0, none⟩) (m * n) (m * n)) := hk5.cell (by exact h2) (by simp); have R := hide (And.intro hb5 (And.intro hc5 (And.intro hr5 (And.intro hf5 hk5)))); clear hb5 hc5 hr5 hf5 hk5))
  all_goals go_wp2
  all_goals go_ret
  all_goals (obtain ⟨a1, a2, a3, a4, a5⟩ := R.out; exact ⟨_, _, _, rfl, a1, a2, a3, a4, ((Kept.refl [] _).drew).next a5⟩)
set_option maxHeartbeats 400000 in
/-- Row, of no such one: nothing. -/
theorem row_bad {g : Nat} {m : Int} (r : Int) {w : World} (h0 : w.cell? ⟨g, 0, none⟩ = some (.int .i64 m)) (hr : r < 0 ∨ 0 ≤ r ∧ m ≤ r) :
    Calls Try.prog 13 #[.pointer (some ⟨g, 0, none⟩), .int .i64 r] w fun e w' => e = .returned (.slice none 0 0) ∧ w' = w := by
  rcases hr with hr | ⟨hr, hr2⟩
  all_goals
    go_enter Try.func13, Try.ntmps13
    go_wp2_with (go_at_call 11; refine (rows_any g m _ h0).mono ?_; rintro e w' ⟨rfl, rfl⟩)
    go_ret
    exact ⟨rfl, rfl⟩
end Go.Proofs.Ytjcghcibligioab.GI
