
/-
  No statement of the program: slices.Insert of one run, where there is room, over this seat's translation.
-/
import Derived.Test.YtdgmfcnblaamcaaSpc4
import Derived.Shelf.Spec.SlicesInsert
namespace Go.Proofs.Ytdgmfcnblaamcaa.Sc
open Go.ChangeShapes Go.WideShapes Go.ChangeAt Go.RowKit

set_option maxHeartbeats 4000000 in
set_option maxRecDepth 100000 in
theorem insert_shift {w : World} {b cap n i vb x y : Nat} {f : Nat → Value} (hR : w.rowIs b 51 (cap * 2) f) (hn : n + 1 ≤ cap) (hi : i < n) (hcm : cap ≤ maxLen) (h1 : ∀ t, t < n * 2 → (f t).oneCell' = true)
    (hv : w.heap[vb]? = some (.cells #[iv x, iv y] 51)) (hvb : vb ≠ b) :
    Calls Try.prog 18 #[.slice (some ⟨b, 0, none⟩) n cap, .int .i64 i, .slice (some ⟨vb, 0, none⟩) 1 1] w fun e w' => e = .returned (.slice (some ⟨b, 0, none⟩) (n + 1) cap) ∧ Kept [b] w w' ∧
      ∃ g, w'.rowIs b 51 (cap * 2) g ∧ ∀ t, t < (n + 1) * 2 → g t = if t < i * 2 then f t else if t = i * 2 then iv x else if t = i * 2 + 1 then iv y else f (t - 2) := by
  unfold maxLen at hcm
  have c0 := blk_cell hv 0 (v := iv x) rfl
  have c1 := blk_cell hv 1 (v := iv y) rfl
  obtain ⟨cur, hb, hsz, hcur⟩ := hR
  have hR : w.rowIs b 51 (cap * 2) f := ⟨cur, hb, hsz, hcur⟩
  have zr := Try.sizeOf51
  have hov : ∀ lb cb, (callFunc 21 #[.slice (some ⟨vb, 0, none⟩) 1 1, .slice (some ⟨b, (i + 1) * 2, none⟩) lb cb]).run Try.prog w = .ok (.value (.bool false)) w := fun lb cb => by
    rw [run_callFunc_extern Try.func21 (by kernel_rfl) (by kernel_rfl) (by kernel_rfl) (e := Extern.SlicesOverlaps.overlaps #[48, 48] #[4]) (by kernel_rfl),
      Lib.run_overlaps_apart w 48 4 51 Try.underlying48 2 zr ⟨vb, 0, none⟩ ⟨b, (i + 1) * 2, none⟩ 1 1 lb cb hvb 51 51 2 (cap * 2) (by simp [World.shape?, hv]) (by simp [World.shape?, hb, hsz]) (by omega) (blk_free hv 0) (blk_free hv 2)]
    rfl
  obtain ⟨cs, hcs⟩ : ∃ cs, cs = (List.range ((n - i) * 2)).map (fun t => f (i * 2 + t)) := ⟨_, rfl⟩
  have hcl : cs.length = (n - i) * 2 := by rw [hcs]; simp
  have hc1 : ∀ v ∈ cs, v.oneCell' = true := by
    intro v hv
    rw [hcs] at hv
    obtain ⟨t, ht, rfl⟩ := List.mem_map.1 hv
    have : t < (n - i) * 2 := by simpa using ht
    exact h1 _ (by omega)
  have hinf : (Try.prog.info? 51).map (·.size) = some 2 := by
    obtain ⟨ir, hir, hz⟩ := Option.map_eq_some_iff.1 info_run
    simp only [Prod.mk.injEq] at hz
    rw [hir]; simp [hz.2.1]
  have hm1 : Nat.min (n + 1 - i) (n - i) = n - i := by simp only [Nat.min_def]; split <;> omega
  have hm2 : Nat.min 1 (n + 1 - i) = 1 := by simp only [Nat.min_def]; split <;> omega
  have hcp1 : ∀ ty dc sc, (Builtin.copy_ #[48, 48] ty #[.slice (some ⟨b, (i + 1) * 2, none⟩) (n - i) dc, .slice (some ⟨b, i * 2, none⟩) (n + 1 - i) sc]).run Try.prog w.drew = .ok (goInt (n - i : Nat)) (w.drew.setCells b ((i + 1) * 2) cs) := fun ty dc sc => by
    have := run_copy2 (P := Try.prog) w.drew 48 48 ty 51 b ((i + 1) * 2) (n - i) dc ⟨b, i * 2, none⟩ (n + 1 - i) sc cs Try.underlying48 hinf (by rw [hcl, hm1])
      (fun j v hj => by rw [hcs] at hj; obtain ⟨ht, rfl⟩ := list_get hj; rw [add_plain]; exact hR.cell (by omega))
      (fun j hj => by show (w.cell? _).isSome = true; rw [hR.cell (by omega)]; rfl) (fun j hj => hR.frozen _) hc1
    rw [hm1] at this
    exact this
  obtain ⟨W1, hW1⟩ : ∃ W1, W1 = w.drew.setCells b ((i + 1) * 2) cs := ⟨_, rfl⟩
  have hR1 : W1.rowIs b 51 (cap * 2) (lay f ((i + 1) * 2) cs) := by rw [hW1]; exact rowIs_setCells cs _ f _ hR.drew
  have hK1 : Kept [b] w W1 := by rw [hW1]; exact ((Kept.refl [b] w).drew).trans (kept_setCells b cs _ _) (fun x hx _ => hx)
  have d0 := hK1.cell c0 (by simpa using hvb)
  have d1 := hK1.cell c1 (by simpa using hvb)
  have hcp2 : ∀ ty dc, (Builtin.copy_ #[48, 48] ty #[.slice (some ⟨b, i * 2, none⟩) (n + 1 - i) dc, .slice (some ⟨vb, 0, none⟩) 1 1]).run Try.prog W1 = .ok (goInt 1) (W1.setCells b (i * 2) [iv x, iv y]) := fun ty dc => by
    have := run_copy2 (P := Try.prog) W1 48 48 ty 51 b (i * 2) (n + 1 - i) dc ⟨vb, 0, none⟩ 1 1 [iv x, iv y] Try.underlying48 hinf (by rw [hm2]; rfl)
      (fun j v hj => by
        match j, hj with
        | 0, hj => simp at hj; subst hj; exact d0
        | 1, hj => simp at hj; subst hj; rw [add_plain]; exact d1)
      (fun j hj => by simp at hj; rw [hR1.cell (by omega)]; rfl) (fun j hj => hR1.frozen _) (by intro v hv; simp at hv; rcases hv with rfl | rfl <;> rfl)
    rw [hm2] at this
    exact this
  have hw1 : IntKind.i64.wrap ((i : Int) + 1) = (i : Int) + 1 := by rw [IntKind.wrap_i64]; omega
  have hb1 : (0 : Int) ≤ (i : Int) + 1 := by omega
  have hin : i ≤ n := by omega
  have hne : ¬ (i : Int) = (n : Int) := by omega
  have hne2 : ¬ i = n := by omega
  have hcp0 : ¬ (cap : Int) < (n : Int) + 1 := by omega
  have hb2 : ¬ cap = i + 1 := by omega
  have hb4 : ¬ cap = i := by omega
  have hb3 : (i : Int) ≤ (n : Int) + 1 := by omega
  have hcm2 : (cap : Int) ≤ 9223372036854775807 := by omega
  rw [← hW1] at hcp1
  have X := hide (And.intro hR1 hK1)
  have HC := hide (And.intro hcs hcl)
  clear hW1 hR1 hK1 hcs hcl hc1 hR hcur hsz hb hv c0 c1 d0 d1 h1 hm1 hm2
  go_enter Try.func18, Try.ntmps18
  go_wp2_with (simp only [hov])
  go_region_law (refine step_copy_runI rfl _ _ 48 48 rfl _ _ (by simp [Act.eval, Act.put]) (by simp [Act.eval, Act.put]) (hcp1 _ _ _) ?_)
  go_wp2_with (at_builtin; refine wpList_copy_runI _ rfl _ _ 48 48 rfl _ _ rfl rfl (hcp2 _ _) ?_)
  go_ret
  refine ⟨rfl, X.out.2.trans (kept_setCells b _ _ _) (fun x hx _ => hx), _, rowIs_setCells _ _ _ _ X.out.1, fun t ht => ?_⟩
  obtain ⟨hcs, hcl⟩ := HC.out
  unfold lay
  simp only [List.length_cons, List.length_nil]
  by_cases h : t < i * 2
  · rw [if_neg (by omega), if_neg (by omega), if_pos h]
  · rw [if_neg h]
    by_cases h0 : t = i * 2
    · rw [if_pos (by omega), if_pos h0, h0, Nat.sub_self]; rfl
    · rw [if_neg h0]
      by_cases h2 : t = i * 2 + 1
      · rw [if_pos (by omega), if_pos h2, h2, show i * 2 + 1 - i * 2 = 1 by omega]; rfl
      · rw [if_neg h2, if_neg (by omega), if_pos (by omega), hcs, List.getD_eq_getElem?_getD, List.getElem?_map, List.getElem?_range (by omega)]
        show f (i * 2 + (t - (i + 1) * 2)) = f (t - 2)
        congr 1
        omega
end Go.Proofs.Ytdgmfcnblaamcaa.Sc
