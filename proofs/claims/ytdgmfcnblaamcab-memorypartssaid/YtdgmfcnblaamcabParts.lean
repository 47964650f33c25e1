/-
  No statement of the program: a memory whose pages are mapped one by one on the frames of a list, over this seat's translation.
-/
import Derived.Test.YtdgmfcnblaamcabMem4
import Derived.Test.YtdgmfcnblaamcabMemHolds
import Derived.Test.YtdgmfcnblaamcabLeftI
namespace Go.Proofs.Ytdgmfcnblaamcab.Me
open Go.ChangeShapes Go.WideShapes Go.ChangeAt Go.RowKit
/-- A memory of eight pages of which p are mapped, page q on frame F q; l: the frames that are left. -/
structure PM (W w : World) (m g c u bt bf p : Nat) (F : Nat → Nat) (l : List Nat) : Prop where
  mem : ∃ to fr, MemAt w m g c 1 8 8 (fun _ => 0) u bt bf p p to fr ∧ (∀ q : Nat, q < p → to q = some (F q : Int)) ∧ (∀ q : Nat, p ≤ q → to q = none) ∧ ∀ y, y ∈ l → fr ((y : Nat) : Int) = none
  inj : ∀ q q', q < p → q' < p → F q = F q' → q = q'
  lt : ∀ q, q < p → F q < 8 ∧ F q ∉ l
  nd : l.Nodup
  l8 : ∀ y, y ∈ l → y < 8
  len : l.length + p = 8
  kept : Kept [] W w
  new : W.heap.size ≤ c ∧ W.heap.size ≤ u ∧ W.heap.size ≤ bt ∧ W.heap.size ≤ bf
/-- The list lies in v. -/
structure PL (W w : World) (u bt bf : Nat) (l : List Nat) (v : Value) : Prop where
  own : w.ownsRow W.heap.size 3 1 v l.length (l.map By.ivn)
  far : v.ownBlock ≠ some u ∧ v.ownBlock ≠ some bt ∧ v.ownBlock ≠ some bf
section
variable {W w w' : World} {m g c u bt bf p : Nat} {F : Nat → Nat} {l : List Nat} {v : Value}
theorem PM.next (h : PM W w m g c u bt bf p F l) (k : Kept [] w w') : PM W w' m g c u bt bf p F l := by
  obtain ⟨to, fr, h1, h2⟩ := h.mem
  exact ⟨⟨to, fr, h1.kept0 k, h2⟩, h.inj, h.lt, h.nd, h.l8, h.len, h.kept.next k, h.new⟩
theorem PL.next (h : PL W w u bt bf l v) (k : Kept [] w w') : PL W w' u bt bf l v := ⟨own_kept h.own k (by simp), h.far⟩
theorem PM.map (h : PM W w m g c u bt bf p F l) (hl : PL W w u bt bf l v) {k y : Nat} (hk : k < l.length) (hy : l.getD k 0 = y) : Calls Try.prog 7 #[.pointer (some ⟨m, 0, none⟩), .int .i64 p, .int .i64 y] w fun e w' =>
    e = .returned (.int .i64 0) ∧ PM W w' m g c u bt bf (p + 1) (fun q => if q = p then y else F q) (l.take k ++ l.drop (k + 1)) ∧ PL W w' u bt bf l v := by
  obtain ⟨to, fr, h1, h2, h3, h4⟩ := h.mem
  obtain ⟨d1, d2, d3, d4⟩ := By.drop_one h.nd hk
  rw [hy] at d2 d3
  have hy8 := h.l8 y d3
  have hlen := h.len
  refine (map_ok h1 (p : Int) (y : Int) (by omega) (by omega) (by omega) (by omega) (by omega) (by omega) (by omega) (h3 p (Nat.le_refl _)) (h4 y d3)).mono ?_
  rintro e w' ⟨rfl, hm, hkk⟩
  obtain ⟨n0, n1, n2, n3⟩ := h.new
  refine ⟨rfl, ⟨⟨_, _, hm, fun q hq => ?_, fun q hq => ?_, fun x hx => ?_⟩, fun q q' hq hq' e => ?_, fun q hq => ?_, d1, fun x hx => h.l8 x ((d2 x).1 hx).1, by omega, h.kept.trans hkk (fun x hx hl => ?_), h.new⟩, ⟨?_, hl.far⟩⟩
  · unfold mput
    by_cases e : q = p
    · subst e; rw [if_pos rfl, if_pos rfl]
    · rw [if_neg (by omega), if_neg e]; exact h2 q (by omega)
  · unfold mput
    rw [if_neg (by omega)]; exact h3 q (by omega)
  · obtain ⟨h5, h6⟩ := (d2 x).1 hx
    unfold mput
    rw [if_neg (by omega)]; exact h4 x h5
  · by_cases e1 : q = p
    · by_cases e2 : q' = p
      · omega
      · simp only [if_pos e1, if_neg e2] at e
        exact absurd d3 (by rw [e]; exact (h.lt q' (by omega)).2)
    · by_cases e2 : q' = p
      · simp only [if_neg e1, if_pos e2] at e
        exact absurd d3 (by rw [← e]; exact (h.lt q (by omega)).2)
      · simp only [if_neg e1, if_neg e2] at e
        exact h.inj q q' (by omega) (by omega) e
  · by_cases e1 : q = p
    · simp only [if_pos e1]
      exact ⟨hy8, fun hm => ((d2 y).1 hm).2 rfl⟩
    · simp only [if_neg e1]
      exact ⟨(h.lt q (by omega)).1, fun hm => (h.lt q (by omega)).2 ((d2 _).1 hm).1⟩
  · simp at hx; omega
  · refine ⟨hl.own.1, ?_⟩
    rcases hl.own.2 with h0 | ⟨g', cap, cur, h0, hb, hg, rest⟩
    · exact .inl h0
    · refine .inr ⟨g', cap, cur, h0, hb, hkk.blk hg (fun hm => ?_), rest⟩
      obtain ⟨f1, f2, f3⟩ := hl.far
      rw [h0] at f1 f2 f3
      simp [Value.ownBlock] at f1 f2 f3
      simp at hm; omega
theorem PM.lts (h : PM W w m g c u bt bf p F l) : u < w.heap.size ∧ bt < w.heap.size ∧ bf < w.heap.size := by
  obtain ⟨to, fr, h1, -⟩ := h.mem
  exact ⟨World.block_lt_of_cell? w _ h1.tw.c0, h1.tw.mt.lt, h1.tw.mf.lt⟩
end
end Go.Proofs.Ytdgmfcnblaamcab.Me
