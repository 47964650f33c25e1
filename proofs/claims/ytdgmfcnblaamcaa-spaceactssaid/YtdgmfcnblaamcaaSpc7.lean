
/-
  No statement of the program: slices.Insert of one run where there is no room (a new row), over this seat's translation.
-/
import Derived.Test.YtdgmfcnblaamcaaSpc6
import Derived.Lib.AppendZerosOnto
namespace Go.Proofs.Ytdgmfcnblaamcaa.Sc
open Go.ChangeShapes Go.WideShapes Go.ChangeAt Go.RowKit

set_option maxHeartbeats 4000000 in
set_option maxRecDepth 100000 in
theorem insert_grow {w : World} {b n i vb x y : Nat} {f : Nat → Value} (hR : w.rowIs b 51 (n * 2) f) (hi : i < n) (hn : n ≤ 4096) (h1 : ∀ t, t < n * 2 → (f t).oneCell' = true)
    (hv : w.heap[vb]? = some (.cells #[iv x, iv y] 51)) :
    Calls Try.prog 18 #[.slice (some ⟨b, 0, none⟩) n n, .int .i64 i, .slice (some ⟨vb, 0, none⟩) 1 1] w fun e w' => ∃ G, n + 1 ≤ G ∧ G ≤ maxLen ∧ e = .returned (.slice (some ⟨w.heap.size, 0, none⟩) (n + 1) G) ∧ Kept [] w w' ∧
      ∃ g, w'.rowIs w.heap.size 51 (G * 2) g ∧ ∀ t, t < (n + 1) * 2 → g t = if t < i * 2 then f t else if t = i * 2 then iv x else if t = i * 2 + 1 then iv y else f (t - 2) := by
  have c0 := blk_cell hv 0 (v := iv x) rfl
  have c1 := blk_cell hv 1 (v := iv y) rfl
  have hbw : b < w.heap.size := block_lt_of_cell (hR.cell (show 0 < n * 2 by omega))
  have hvw : vb < w.heap.size := block_lt_of_cell c0
  obtain ⟨ir, hir, hz⟩ := Option.map_eq_some_iff.1 info_run
  simp only [Prod.mk.injEq] at hz
  obtain ⟨hz0, hzs, hzb⟩ := hz
  have hinf : (Try.prog.info? 51).map (·.size) = some 2 := by rw [hir]; simp [hzs]
  obtain ⟨olds, holds⟩ : ∃ l, l = (List.range (i * 2)).map (fun t => f (0 + t)) := ⟨_, rfl⟩
  obtain ⟨cs, hcs⟩ : ∃ cs, cs = (List.range ((n - i) * 2)).map (fun t => f (i * 2 + t)) := ⟨_, rfl⟩
  have hol : olds.length = i * 2 := by rw [holds]; simp
  have hcl : cs.length = (n - i) * 2 := by rw [hcs]; simp
  have hc1 : ∀ v ∈ cs, v.oneCell' = true := by
    intro v hv
    rw [hcs] at hv
    obtain ⟨t, ht, rfl⟩ := List.mem_map.1 hv
    have : t < (n - i) * 2 := by simpa using ht
    exact h1 _ (by omega)
  have hold : (Builtin.firstCells ir.size i (.slice (some ⟨b, 0, none⟩) i n)).run Try.prog w.drew = .ok olds.toArray w.drew := by
    rw [hzs]
    exact run_firstCells_some w.drew 2 i ⟨b, 0, none⟩ i n olds hol (fun j v hj => by
      rw [holds] at hj; obtain ⟨ht, rfl⟩ := list_get hj; rw [add_plain, Nat.zero_add]; exact hR.cell (by omega))
  have hkk : (n : Int) + 1 - (i : Int) = ((n + 1 - i : Nat) : Int) := by omega
  have hik : i + (n + 1 - i) = n + 1 := by omega
  obtain ⟨G, hG⟩ : ∃ G, G = grownCap w (n + 1) n 51 := ⟨_, rfl⟩
  obtain ⟨ROW, hROW⟩ : ∃ ROW : Array Value, ROW = olds.toArray ++ Builtin.zeroCells (Value.agg #[.int .i64 0, .int .i64 0]).cells (n + 1 - i) ++ Builtin.zeroCells (Value.agg #[.int .i64 0, .int .i64 0]).cells (G - (n + 1)) := ⟨_, rfl⟩
  have hrz : ∀ ty, (Builtin.append_ #[48, 3] ty #[.slice (some ⟨b, 0, none⟩) i n, .int .i64 ((n : Int) + 1 - (i : Int))]).run Try.prog w =
      .ok (.slice (some ⟨w.heap.size, 0, none⟩) (n + 1) G) (w.drew.alloc (.cells ROW 51)) := fun ty => by
    have h := Lib.run_append_grow_zeros w 48 3 ty 51 ir _ .i64 .i64 Try.underlying48 Try.underlying3 hir hz0 (some ⟨b, 0, none⟩) i n olds hold (n + 1 - i) (by omega) (by omega) (by omega) (by omega) (by rw [hzb]; omega) (by rw [hzb, hik]; exact growslice_fits (by omega) (by omega))
    rw [hik] at h
    rw [hkk, hROW, hG]
    exact h
  have hGn : n + 1 ≤ G := by rw [hG]; exact grownCap_ge w _ _ _
  have hGm : G ≤ maxLen := by rw [hG]; exact grownCap_le_maxLen w (n + 1) n 51 (by unfold maxLen; omega)
  have hG63 : G ≤ 9223372036854775807 := by have := hGm; unfold maxLen at this; omega
  have hRsz : ROW.size = G * 2 := by
    rw [hROW]
    simp [Builtin.zeroCells, Value.cells, hol]
    omega
  have hRf : ∀ t, t < i * 2 → ROW.getD t undef = f t := by
    intro t ht
    have h : ROW[t]? = some (f t) := by
      rw [hROW, Array.append_assoc, Array.getElem?_append_left (by simp [hol]; omega)]
      simp [holds, ht]
    simp [Array.getD_eq_getD_getElem?, h]
  obtain ⟨W1, hW1⟩ : ∃ W1, W1 = w.drew.alloc (.cells ROW 51) := ⟨_, rfl⟩
  rw [← hW1] at hrz
  obtain ⟨N, hN⟩ : ∃ N, N = w.heap.size := ⟨_, rfl⟩
  have hR1 : W1.rowIs N 51 (G * 2) (fun t => ROW.getD t undef) := by
    refine ⟨ROW, ?_, hRsz, fun t ht => ?_⟩
    · rw [hW1, hN]; show (w.heap.push _)[w.heap.size]? = _; exact Array.getElem?_push_size
    · have : t < ROW.size := by omega
      simp [Array.getD, this]
  have hK1 : Kept [] w W1 := by rw [hW1]; exact ((Kept.refl [] w).drew).alloc _
  have hbN : b ≠ N := by omega
  have hvN : vb ≠ N := by omega
  have d0 := hK1.cell c0 (by simp)
  have d1 := hK1.cell c1 (by simp)
  have hm2 : Nat.min (n + 1 - i) 1 = 1 := by simp only [Nat.min_def]; split <;> omega
  have hm2' : Nat.min 1 (n + 1 - i) = 1 := by simp only [Nat.min_def]; split <;> omega
  have hcpA : ∀ W : World, (∀ x, W.cell? x = W1.cell? x) → (∀ x, W.frozen? x = W1.frozen? x) → ∀ ty dc, (Builtin.copy_ #[48, 48] ty #[.slice (some ⟨N, i * 2, none⟩) (n + 1 - i) dc, .slice (some ⟨vb, 0, none⟩) 1 1]).run Try.prog W = .ok (goInt 1) (W.setCells N (i * 2) [iv x, iv y]) := fun W hc hf ty dc => by
    have := run_copy2 (P := Try.prog) W 48 48 ty 51 N (i * 2) (n + 1 - i) dc ⟨vb, 0, none⟩ 1 1 [iv x, iv y] Try.underlying48 hinf (by rw [hm2']; rfl)
      (fun j v hj => by
        match j, hj with
        | 0, hj => simp at hj; subst hj; rw [hc]; exact d0
        | 1, hj => simp at hj; subst hj; rw [add_plain, hc]; exact d1)
      (fun j hj => by simp at hj; rw [hc, hR1.cell (by omega)]; rfl) (fun j hj => by rw [hf]; exact hR1.frozen _) (by intro v hv; simp at hv; rcases hv with rfl | rfl <;> rfl)
    rw [hm2'] at this
    exact this
  obtain ⟨W2, hW2⟩ : ∃ W2, W2 = W1.setCells N (i * 2) [iv x, iv y] := ⟨_, rfl⟩
  have hR2 : W2.rowIs N 51 (G * 2) (lay (fun t => ROW.getD t undef) (i * 2) [iv x, iv y]) := by rw [hW2]; exact rowIs_setCells _ _ _ _ hR1
  have hK2 : Kept [] w W2 := by rw [hW2]; exact hK1.trans (kept_setCells N _ _ _) (fun x hx hl => by simp at hx; omega)
  have hRb := hK2.row hR (by simp)
  have hm1 : Nat.min (n - i) (n + 1 - (i + 1)) = n - i := by simp only [Nat.min_def]; split <;> omega
  have hcpB : ∀ W : World, (∀ x, W.cell? x = W2.cell? x) → (∀ x, W.frozen? x = W2.frozen? x) → ∀ ty dc sc, (Builtin.copy_ #[48, 48] ty #[.slice (some ⟨N, (i + 1) * 2, none⟩) (n + 1 - (i + 1)) dc, .slice (some ⟨b, i * 2, none⟩) (n - i) sc]).run Try.prog W = .ok (goInt (n - i : Nat)) (W.setCells N ((i + 1) * 2) cs) := fun W hc hf ty dc sc => by
    have := run_copy2 (P := Try.prog) W 48 48 ty 51 N ((i + 1) * 2) (n + 1 - (i + 1)) dc ⟨b, i * 2, none⟩ (n - i) sc cs Try.underlying48 hinf (by rw [hcl, hm1])
      (fun j v hj => by rw [hcs] at hj; obtain ⟨ht, rfl⟩ := list_get hj; rw [add_plain, hc]; exact hRb.cell (by omega))
      (fun j hj => by rw [hc, hR2.cell (by omega)]; rfl) (fun j hj => by rw [hf]; exact hR2.frozen _) hc1
    rw [hm1] at this
    exact this
  have hw1 : IntKind.i64.wrap ((i : Int) + 1) = (i : Int) + 1 := by rw [IntKind.wrap_i64]; omega
  have hb1 : (0 : Int) ≤ (i : Int) + 1 := by omega
  have hin : i ≤ n := by omega
  have hne : ¬ (i : Int) = (n : Int) := by omega
  have hne2 : ¬ i = n := by omega
  have hne3 : ¬ n = i := by omega
  have hGi : ¬ G = i := by omega
  have hGi1 : ¬ G = i + 1 := by omega
  have hcp0 : (n : Int) < (n : Int) + 1 := by omega
  have hb3 : (i : Int) ≤ (n : Int) := by omega
  have hb4 : (i : Int) ≤ (n : Int) + 1 := by omega
  have htn : ((i : Int) + 1).toNat = i + 1 := by omega
  have hn63 : (n : Int) + 1 ≤ 9223372036854775807 := by omega
  have hE1 : ∀ p, ((w.alloc (.cells ROW 51)).drew).cell? p = (w.drew.alloc (.cells ROW 51)).cell? p := fun p => rfl
  have hE2 : ∀ p, ((w.alloc (.cells ROW 51)).drew).frozen? p = (w.drew.alloc (.cells ROW 51)).frozen? p := fun p => rfl
  have hF1 : ∀ p, (((w.alloc (.cells ROW 51)).drew.setCells N (i * 2) [iv x, iv y]).drew).cell? p = ((w.drew.alloc (.cells ROW 51)).setCells N (i * 2) [iv x, iv y]).cell? p := fun p => rfl
  have hF2 : ∀ p, (((w.alloc (.cells ROW 51)).drew.setCells N (i * 2) [iv x, iv y]).drew).frozen? p = ((w.drew.alloc (.cells ROW 51)).setCells N (i * 2) [iv x, iv y]).frozen? p := fun p => rfl
  have hX : (w.alloc (.cells ROW 51)).rowIs N 51 (G * 2) (fun t => ROW.getD t undef) := by
    refine ⟨ROW, ?_, hRsz, fun t ht => ?_⟩
    · rw [hN]; show (w.heap.push _)[w.heap.size]? = _; exact Array.getElem?_push_size
    · have : t < ROW.size := by omega
      simp [Array.getD, this]
  have NH := hide hN
  rw [← hN]
  subst hW2
  subst hW1
  rw [← hN] at hrz
  have X := hide hX
  have HC := hide (And.intro hcs hcl)
  have HF := hide hRf
  have GN := hide (And.intro hGn hGm)
  clear hne3 hn63 hb4 hbN hvN hbw hvw
  clear hX hR1 hK1 hR2 hK2 hRb hcs hcl hc1 hR hv c0 c1 d0 d1 h1 hm1 hm2 hm2' hold holds hol hROW hRsz hG hinf hir hz0 hzs hzb hkk hik hRf hN hGn hGm
  go_enter Try.func18, Try.ntmps18
  go_wp2_with (first
    | (at_builtin; refine Lib.wpList_append_run _ rfl _ _ _ _ rfl _ _ rfl rfl _ _ (hrz _) ?_)
    | (at_builtin; refine wpList_copy_runI _ rfl _ _ 48 48 rfl _ _ rfl rfl (hcpA _ hE1 hE2 _ _) ?_))
  go_region_law (refine step_copy_runI rfl _ _ 48 48 rfl (.slice (some ⟨N, (i + 1) * 2, none⟩) (n + 1 - (i + 1)) (G - (i + 1))) (.slice (some ⟨b, i * 2, none⟩) (n - i) (n - i)) (by simp [Act.eval, Act.put]) (by simp [Act.eval, Act.put]; try (intro hh; omega)) (hcpB _ hF1 hF2 _ _ _) ?_)
  go_wp2
  go_ret
  obtain ⟨hcs, hcl⟩ := HC.out
  refine ⟨G, GN.out.1, GN.out.2, rfl, ?_, _, rowIs_setCells _ _ _ _ (rowIs_setCells _ _ _ _ X.out.drew).drew, fun t ht => ?_⟩
  · exact ((((Kept.refl [] w).alloc _).drew.trans (kept_setCells N _ _ _) (fun z hz hl => by have := NH.out; simp at hz; omega)).drew).trans (kept_setCells N _ _ _) (fun z hz hl => by have := NH.out; simp at hz; omega)
  · unfold lay
    simp only [List.length_cons, List.length_nil]
    by_cases h : t < i * 2
    · rw [if_neg (by omega), if_neg (by omega), if_pos h, HF.out t h]
    · rw [if_neg h]
      by_cases h0 : t = i * 2
      · rw [if_neg (by omega), if_pos (by omega), if_pos h0, h0, Nat.sub_self]; rfl
      · rw [if_neg h0]
        by_cases h2 : t = i * 2 + 1
        · rw [if_neg (by omega), if_pos (by omega), if_pos h2, h2, show i * 2 + 1 - i * 2 = 1 by omega]; rfl
        · rw [if_neg h2, if_pos (by omega), hcs, List.getD_eq_getElem?_getD, List.getElem?_map, List.getElem?_range (by omega)]
          show f (i * 2 + (t - (i + 1) * 2)) = f (t - 2)
          congr 1
          omega
end Go.Proofs.Ytdgmfcnblaamcaa.Sc
