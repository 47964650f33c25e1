
/-
  No statement of the program: slices.Delete of one run, over this seat's translation.
-/
import Derived.Test.YtdgmfcnblaamcaaSpc3
import Derived.Deep.RegionLaw
namespace Go.Proofs.Ytdgmfcnblaamcaa.Sc
open Go.ChangeShapes Go.WideShapes Go.ChangeAt Go.RowKit

theorem info_run : (Try.prog.info? 51).map (fun i => (i.zero, i.size, i.bytes)) = some (some (.agg #[.int .i64 0, .int .i64 0]), 2, 16) := by kernel_rfl
theorem list_get {f : Nat → Value} {a n j : Nat} {u : Value} (h : ((List.range n).map (fun t => f (a + t)))[j]? = some u) : j < n ∧ u = f (a + j) := by
  have hj : j < n := by simpa using getElem?_lt h
  refine ⟨hj, ?_⟩
  simp [hj] at h
  exact h.symm
set_option maxHeartbeats 4000000 in
set_option maxRecDepth 100000 in
theorem delete_any {w : World} {b cap n i : Nat} {f : Nat → Value} (hR : w.rowIs b 51 (cap * 2) f) (hn : n ≤ cap) (hi : i < n) (_h8 : cap ≤ maxLen) (h1 : ∀ t, t < n * 2 → (f t).oneCell' = true) :
    Calls Try.prog 20 #[.slice (some ⟨b, 0, none⟩) n cap, .int .i64 i, .int .i64 (i + 1 : Nat)] w fun e w' => e = .returned (.slice (some ⟨b, 0, none⟩) (n - 1) cap) ∧ Kept [b] w w' ∧
      ∃ g, w'.rowIs b 51 (cap * 2) g ∧ ∀ t, t < (n - 1) * 2 → g t = if t < i * 2 then f t else f (t + 2) := by
  unfold maxLen at _h8
  obtain ⟨ir, hir, hz⟩ := Option.map_eq_some_iff.1 info_run
  simp only [Prod.mk.injEq] at hz
  obtain ⟨hz0, hz1, hz2⟩ := hz
  have zr := Try.sizeOf51
  -- what is moved to the left
  obtain ⟨news, hnews⟩ : ∃ news, news = (List.range ((n - (i + 1)) * 2)).map (fun t => f ((i + 1) * 2 + t)) := ⟨_, rfl⟩
  have hlen : news.length = (n - (i + 1)) * 2 := by rw [hnews]; simp
  obtain ⟨A, hA, hsrc⟩ : ∃ A : Addr, (if cap = i + 1 then some (⟨b, 0, none⟩ : Addr) else some ⟨b, (i + 1) * 2, none⟩) = some A ∧ Hid (∀ t u, news[t]? = some u → w.drew.cell? (A.add t) = some u) := by
    by_cases h : cap = i + 1
    · refine ⟨⟨b, 0, none⟩, by simp [h], fun t u hu => ?_⟩
      rw [hnews] at hu
      have := (list_get hu).1
      omega
    · refine ⟨⟨b, (i + 1) * 2, none⟩, by simp [h], fun t u hu => ?_⟩
      rw [hnews] at hu
      obtain ⟨ht, rfl⟩ := list_get hu
      rw [add_plain]
      exact hR.cell (by omega)
  have s1 : Hid (news.length = (n - (i + 1)) * 2) := hlen
  have s2 : Hid (∀ u ∈ news, u.oneCell' = true) := by
    intro u hu
    rw [hnews] at hu
    obtain ⟨t, ht, rfl⟩ := List.mem_map.1 hu
    have : t < (n - (i + 1)) * 2 := by simpa using ht
    exact h1 _ (by omega)
  have s3 : Hid (∀ t, t < news.length → (w.drew.cell? ⟨b, 0 + i * 2 + t, none⟩).isSome = true ∧ w.drew.frozen? ⟨b, 0 + i * 2 + t, none⟩ = false) := by
    intro t ht
    rw [hlen] at ht
    refine ⟨?_, hR.frozen _⟩
    show (w.cell? _).isSome = true
    rw [hR.cell (by omega)]
    rfl
  obtain ⟨W1, hW1⟩ : ∃ W1, W1 = w.drew.setCells b (0 + i * 2) news := ⟨_, rfl⟩
  have hR1 : W1.rowIs b 51 (cap * 2) (lay f (0 + i * 2) news) := by rw [hW1]; exact rowIs_setCells news _ f _ hR.drew
  have hK1 : Kept [b] w W1 := by rw [hW1]; exact ((Kept.refl [b] w).drew).trans (kept_setCells b news _ _) (fun x hx _ => hx)
  have hcl : ∀ ty, (Builtin.clear_ #[48] ty #[.slice (some ⟨b, (n - 1) * 2, none⟩) 1 (cap - (n - 1))]).run Try.prog W1 = .ok (.tuple #[]) (W1.setCells b ((n - 1) * 2) [.int .i64 0, .int .i64 0]) := fun ty =>
    run_clear2 W1 48 51 ty (.agg #[.int .i64 0, .int .i64 0]) (.int .i64 0) (.int .i64 0) Try.underlying48 Try.zeroValue51 rfl rfl rfl b ((n - 1) * 2) _ (fun j hj => by rw [hR1.cell (by omega)]; rfl) (fun j hj => hR1.frozen _)
  have hnews' := hide hnews
  have X := hide (And.intro hR1 hK1)
  have hW : Hid (W1 = w.drew.setCells b (0 + i * 2) news) := hW1
  have hic : i ≤ cap := by omega
  have hjc : i + 1 ≤ cap := by omega
  have hin : i + 1 ≤ n := by omega
  have hne : ¬ (i : Int) = (i : Int) + 1 := by omega
  have hcut : ∀ W, (Instr.slice 48 (.slice (some ⟨b, 0, none⟩) n cap) (some (.int .i64 ((i : Int) + 1))) none none).run Try.prog W = .ok (.slice (some A) (n - (i + 1)) (cap - (i + 1))) W := fun W => by
    have := By.run_cutS (P := Try.prog) Try.underlying48 info_run (some ⟨b, 0, none⟩) n cap .i64 (j := (i : Int) + 1) (i + 1) (by omega) hin W
    rw [this, ← hA]
    simp [add_plain]
  have e1 : i + (n - (i + 1)) = n - 1 := by omega
  have e2 : n - (i + (n - (i + 1))) = 1 := by omega
  have hcl2 : ∀ ty, (Builtin.clear_ #[48] ty #[.slice (some ⟨b, (i + (n - (i + 1))) * 2, none⟩) (n - (i + (n - (i + 1)))) (cap - (i + (n - (i + 1))))]).run Try.prog W1 = .ok (.tuple #[]) (W1.setCells b ((n - 1) * 2) [.int .i64 0, .int .i64 0]) := fun ty => by
    rw [e2, e1]
    exact hcl ty
  have HE := hide e1
  clear hW1 hR1 hK1 hR hnews hlen h1 e1 e2 hcl
  go_enter Try.func20, Try.ntmps20
  go_wp2_with fail
  go_region_law (refine step_append_room rfl (.tmp 22) (.tmp 25) 48 rfl 51 ir 2 Try.underlying48 hir hz1 b 0 i cap (by simp [Act.eval, Act.put]) A (n - (i + 1)) (cap - (i + 1)) news (by simp [Act.eval, Act.put]) s1.out hsrc.out s2.out (by omega) s3.out ?_; rw [← hW.out])
  go_wp2
  go_ret
  refine ⟨by rw [← HE.out]; rfl, X.out.2.trans (kept_setCells b _ _ _) (fun x hx _ => hx), _, rowIs_setCells _ _ _ _ X.out.1, fun t ht => ?_⟩
  have hlen := s1.out
  unfold lay
  simp only [List.length_cons, List.length_nil]
  rw [if_neg (by omega), hlen]
  by_cases h : t < i * 2
  · rw [if_neg (by omega), if_pos h]
  · rw [if_pos (by omega), if_neg h, hnews'.out, List.getD_eq_getElem?_getD, List.getElem?_map, List.getElem?_range (by omega)]
    show f ((i + 1) * 2 + (t - (0 + i * 2))) = f (t + 2)
    congr 1
    omega
end Go.Proofs.Ytdgmfcnblaamcaa.Sc
