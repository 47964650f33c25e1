
/-
  No statement of the program: the document's Take of a space with no list yet, over this seat's translation.
-/
import Derived.Test.YtdgmfcnblaamcaaSpc17
namespace Go.Proofs.Ytdgmfcnblaamcaa.Sc
open Go.ChangeShapes Go.WideShapes Go.ChangeAt Go.RowKit
set_option maxHeartbeats 8000000 in
set_option maxRecDepth 100000 in
theorem rtake_nil {w : World} {q base : Nat} {F C : Nat → Nat} (h : RQ w q base (.slice none 0 0) 0 F C) {need : Nat} (h1 : 1 ≤ need) (h2 : need ≤ 4095) :
    Calls Try.prog 14 #[.pointer (some ⟨q, 0, none⟩), .int .i64 need] w fun e w' => TakeIs w w' q 0 F C need 0 e := by
  have hc := h.c
  obtain ⟨i2, hi, hz, hs, hb⟩ := hi2e
  have I2 := hide hi
  have Z2 := hide hz
  have S2e := hide hs
  have B2 := hide hb
  have H := hide h
  have hs1 : ∀ wq, (Instr.slice 35 (.slice none 0 0) none (some (.int .i64 0)) none).run Try.prog wq = .ok (.slice none 0 0) wq := fun wq => By.run_cutS0 Try.underlying35 info2 _ _ _ _ 0 rfl (by omega) wq
  have hs2 : ∀ wq, (Instr.slice 35 (.slice none 0 0) (some (.int .i64 0)) none none).run Try.prog wq = .ok (.slice none 0 0) wq := fun wq => By.run_cutS Try.underlying35 info2 _ _ _ _ 0 (by omega) (by omega) wq
  have hg1 : ¬ (need : Int) < 1 := by omega
  have hg2 : ¬ (4095 : Int) < (need : Int) := by omega
  have hg3 : ¬ (4096 : Int) < 1 + (need : Int) := by omega
  have hwa : IntKind.i64.wrap (1 + (need : Int)) = 1 + (need : Int) := by rw [IntKind.wrap_i64]; omega
  have hqs := h.row.choose_spec.lt
  have Q4 := hide h.c
  have F4 := hide h.row
  have hap := hide (h.ap.put (k := 0) (need := need) ⟨Nat.le_refl _, fun h => absurd h (by omega), fun i hi => absurd hi (by omega)⟩ h1 (show 1 + need ≤ 4096 by omega))
  have hF := hide (show Fit 0 F C need 0 from ⟨Nat.le_refl _, fun h => absurd h (by omega), fun i hi => absurd hi (by omega)⟩)
  have OB := hide (show (((w.alloc (.cells #[] 41)).alloc (.cells #[.int .i64 1, .int .i64 (need : Int)] 41)).drew).ownsRow w.heap.size 41 2 (.slice (some ⟨w.heap.size, 0, none⟩) 0 0) 0 [] from own_kept (World.ownsRow_lit (e := 41) (size := 2) w #[] 0 (Nat.le_refl _) (by decide) rfl) (((Kept.refl [] _).alloc _).drew) (by simp))
  have OA := hide (show (w.drew.alloc (.cells #[] 41)).ownsRow w.heap.size 41 2 (.slice (some ⟨w.heap.size, 0, none⟩) 0 0) 0 [] from World.ownsRow_lit (e := 41) (size := 2) w.drew #[] 0 (Nat.le_refl _) (by decide) rfl)
  have OC := hide (show (((w.alloc (.cells #[.int .i64 1, .int .i64 (need : Int)] 41)).alloc (.cells #[] 41)).drew).ownsRow w.heap.size 41 2 (.slice (some ⟨w.heap.size + 1, 0, none⟩) 0 0) 0 [] from by
    have h9 := own_base (own_kept (World.ownsRow_lit (e := 41) (size := 2) (w.alloc (.cells #[.int .i64 1, .int .i64 (need : Int)] 41)) #[] 0 (Nat.le_refl _) (by decide) rfl) ((Kept.refl [] _).drew) (by simp)) (show w.heap.size ≤ (w.alloc (.cells #[.int .i64 1, .int .i64 (need : Int)] 41)).heap.size from by simp)
    rw [show (w.alloc (.cells #[.int .i64 1, .int .i64 (need : Int)] 41)).heap.size = w.heap.size + 1 from by simp] at h9
    exact h9)
  have KB := hide (show Kept [] w (((w.alloc (.cells #[] 41)).alloc (.cells #[.int .i64 1, .int .i64 (need : Int)] 41)).drew) from (((Kept.refl [] w).alloc _).alloc _).drew)
  have KC := hide (show Kept [] w (((w.alloc (.cells #[.int .i64 1, .int .i64 (need : Int)] 41)).alloc (.cells #[] 41)).drew) from (((Kept.refl [] w).alloc _).alloc _).drew)
  have NB := hide (show ∀ j u, [iv 1, iv need][j]? = some u → (((w.alloc (.cells #[] 41)).alloc (.cells #[.int .i64 1, .int .i64 (need : Int)] 41)).drew).cell? ((⟨w.heap.size + 1, 0, none⟩ : Addr).add j) = some u from fun j u hu => by
    have h9 := news_two (w := w.alloc (.cells #[] 41)) (t := 41) j u hu
    rw [show (w.alloc (.cells #[] 41)).heap.size = w.heap.size + 1 from by simp] at h9
    exact h9)
  have NC := hide (show ∀ j u, [iv 1, iv need][j]? = some u → (((w.alloc (.cells #[.int .i64 1, .int .i64 (need : Int)] 41)).alloc (.cells #[] 41)).drew).cell? ((⟨w.heap.size, 0, none⟩ : Addr).add j) = some u from fun j u hu => by
    have h9 := news_two (w := w) (t := 41) j u hu
    exact (((Kept.refl [] (w.alloc (.cells #[.int .i64 1, .int .i64 (need : Int)] 41))).alloc (.cells #[] 41)).drew).cell h9 (by simp))
  clear h hi hz hs hb
  go_enter Try.func14, Try.ntmps14
  go_wp2_with fail
  go_loopw [6, 7] (fun u v wr => v = .int .i64 0 ∧ u = .int .i64 1 ∧ wr = w) (fun _ _ _ => 0)
  case atStart => exact ⟨rfl, rfl, rfl⟩
  case round =>
    obtain ⟨rfl, rfl, hw⟩ := hrel
    subst wr
    go_wp2_with fail
    go_region_law (first
      | (refine step_append_own_none (by rfl) _ _ _ (by rfl) w.heap.size 41 i2 2 Try.underlying35 I2.out (.slice (some ⟨w.heap.size, 0, none⟩) 0 0) 0 [] (by rfl) OA.out (by rfl) ?_)
      | (refine step_append_own_none (by rfl) _ _ _ (by rfl) w.heap.size 41 i2 2 Try.underlying35 I2.out (.slice (some ⟨w.heap.size, 0, none⟩) 0 0) 0 [] (by rfl) OB.out (by rfl) ?_)
      | (refine step_append_own_none (by rfl) _ _ _ (by rfl) w.heap.size 41 i2 2 Try.underlying35 I2.out (.slice (some ⟨w.heap.size + 1, 0, none⟩) 0 0) 0 [] (by rfl) OC.out (by rfl) ?_)
      | (refine By.step_append_own (by rfl) _ _ _ (by rfl) w.heap.size 41 i2 (.agg #[.int .i64 0, .int .i64 0]) 2 16 Try.underlying35 I2.out Z2.out S2e.out B2.out rfl (by decide) (.slice (some ⟨w.heap.size, 0, none⟩) 0 0) 0 [] (by rfl) OB.out ⟨w.heap.size + 1, 0, none⟩ 1 1 [iv 1, iv need] (by rfl) (by rfl) NB.out (one_flat [(1, need)]) (by decide) (by omega) KB.out.size ?_; intro v2 w8 o8 g8 b8 n8; have K8 := own_grown OB.out g8 w KB.out (Nat.le_refl _); have s8 := K8.cell Q4.out (by simp); have f8 := (K8.row F4.out.choose_spec (by simp)).frozen 0)
      | (refine By.step_append_own (by rfl) _ _ _ (by rfl) w.heap.size 41 i2 (.agg #[.int .i64 0, .int .i64 0]) 2 16 Try.underlying35 I2.out Z2.out S2e.out B2.out rfl (by decide) (.slice (some ⟨w.heap.size + 1, 0, none⟩) 0 0) 0 [] (by rfl) OC.out ⟨w.heap.size, 0, none⟩ 1 1 [iv 1, iv need] (by rfl) (by rfl) NC.out (one_flat [(1, need)]) (by decide) (by omega) KC.out.size ?_; intro v2 w8 o8 g8 b8 n8; have K8 := own_grown OC.out g8 w KC.out (Nat.le_refl _); have s8 := K8.cell Q4.out (by simp); have f8 := (K8.row F4.out.choose_spec (by simp)).frozen 0)
      | (refine step_append_own_none (by rfl) _ _ _ (by rfl) w.heap.size 41 i2 2 Try.underlying35 I2.out v2 (0 + 1) ([] ++ [iv 1, iv need]) (by rfl) o8 (by rfl) ?_; obtain ⟨ao8, m8, cp8, hm8, hv8⟩ := own_shape2 o8; subst hv8; have M8 := hide hm8; clear hm8))
    all_goals
      have R9 := hide (H.out.turn (F' := ins F 0 1) (C' := ins C 0 need) (n' := 1) K8 (by
        rw [lst_ins (Nat.le_refl 0)]
        exact o8) (Nat.le_refl _) hap.out)
      clear K8 s8 f8 Q4 F4 OA OB OC KB KC NB NC o8 g8 b8 n8 hs1 hs2
      go_wp2_with fail
      go_ret2
      exact .inr ⟨(show 1 + need ≤ 4096 by omega), rfl, _, _, R9.out.1, R9.out.2, Nat.le_refl _⟩
end Go.Proofs.Ytdgmfcnblaamcaa.Sc
