
/-
  No statement of the program: the document's Take of a space behind all, over this seat's translation.
-/
import Derived.Test.YtdgmfcnblaamcaaSpc17
namespace Go.Proofs.Ytdgmfcnblaamcaa.Sc
open Go.ChangeShapes Go.WideShapes Go.ChangeAt Go.RowKit
set_option maxHeartbeats 8000000 in
set_option maxRecDepth 100000 in
theorem rtake_eq {w : World} {q base : Nat} {v : Value} {n : Nat} {F C : Nat → Nat} (h : RQ w q base v n F C) {need k : Nat} (hk : Fit n F C need k) (h1 : 1 ≤ need) (h2 : need ≤ 4095) (hv0 : v ≠ .slice none 0 0) (hb : ¬ k < n) :
    Calls Try.prog 14 #[.pointer (some ⟨q, 0, none⟩), .int .i64 need] w fun e w' => TakeIs w w' q n F C need k e := by
  obtain ⟨ao, cap, rfl, hle, hcm, hcl⟩ := h.form
  obtain ⟨g, rfl⟩ : ∃ g, ao = some ⟨g, 0, none⟩ := by
    rcases h.own.2 with ⟨h9, -⟩ | ⟨g, cap', cur, h9, -⟩
    · exact absurd h9 hv0
    · cases h9; exact ⟨g, rfl⟩
  clear hv0
  have hc := h.c
  have hn := h.ap.le
  obtain ⟨i2, hi, hz, hs, hb2⟩ := hi2e
  have I2 := hide hi
  have Z2 := hide hz
  have S2e := hide hs
  have B2 := hide hb2
  have H := hide h
  have HC := hide hcl
  have HF := hide hk
  have hkn := hk.1
  unfold maxLen at hcm
  have hs1 : ∀ wq, (Instr.slice 35 (.slice (some ⟨g, 0, none⟩) n cap) none (some (.int .i64 (k : Int))) none).run Try.prog wq = .ok (.slice (some ⟨g, 0, none⟩) k cap) wq := fun wq => By.run_cutS0 Try.underlying35 info2 _ _ _ _ k rfl (by omega) wq
  obtain ⟨ad, had, hadE⟩ := cut_at g cap k 2
  have hs2 : ∀ wq, (Instr.slice 35 (.slice (some ⟨g, 0, none⟩) n cap) (some (.int .i64 (k : Int))) none none).run Try.prog wq = .ok (.slice (some ad) (n - k) (cap - k)) wq := fun wq => by
    rw [← had]; exact By.run_cutS Try.underlying35 info2 _ _ _ _ k (by omega) (by omega) wq
  have HA := hide hadE
  have hg1 : ¬ (need : Int) < 1 := by omega
  have hg2 : ¬ (4095 : Int) < (need : Int) := by omega
  clear h hcl hi hz hs hb2 had hadE hk
  go_enter Try.func14, Try.ntmps14
  go_wp2_with fail
  go_loopw [6, 7] (fun u v wr => ∃ j : Nat, v = .int .i64 j ∧ u = .int .i64 (fstAt F C j : Nat) ∧ j ≤ k ∧ Kept [] w wr) (fun _ v _ => n - (intOf v).toNat)
  case atStart => exact ⟨0, rfl, rfl, Nat.zero_le _, Kept.refl _ _⟩
  case round =>
    obtain ⟨j, rfl, rfl, hj, hKk⟩ := hrel
    have K := hide hKk
    have hc' := hKk.cell hc (by simp)
    have hj0 : (0 : Int) ≤ (j : Int) := by omega
    have ha4 := H.out.ap.high j (by omega)
    by_cases hjk : j < k
    · have hjn : (j : Int) < (n : Int) := by omega
      obtain ⟨g', hg', c0, c1⟩ := HC.out j (by omega)
      cases hg'
      have d0 := hKk.cell c0 (by simp)
      have d1 := hKk.cell c1 (by simp)
      have hm := HF.out.2.2 j hjk
      have hA := H.out.ap j (by omega)
      obtain ⟨f, hf⟩ : ∃ f, f = F j := ⟨_, rfl⟩
      obtain ⟨cc, hcc⟩ : ∃ f, f = C j := ⟨_, rfl⟩
      obtain ⟨a, ha⟩ : ∃ a, a = fstAt F C j := ⟨_, rfl⟩
      have hnx : fstAt F C (j + 1) = f + cc := by rw [hf, hcc]; rfl
      rw [← hf] at d0 hm hA
      rw [← hcc] at d1 hA
      rw [← ha] at hm ha4 hA
      rw [← ha]
      have HX := hide hnx
      have hlt : (f : Int) - (a : Int) < (need : Int) := by omega
      have hw1 : IntKind.i64.wrap ((f : Int) - (a : Int)) = (f : Int) - (a : Int) := by rw [IntKind.wrap_i64]; omega
      have hw2 : IntKind.i64.wrap ((f : Int) + (cc : Int)) = (f : Int) + (cc : Int) := by rw [IntKind.wrap_i64]; omega
      have hd : decide ((f : Int) - (a : Int) < (need : Int)) = true := decide_eq_true hlt
      have hd0 : decide ((j : Int) < (n : Int)) = true := decide_eq_true hjn
      clear c0 c1 hf hcc ha hnx hKk hs1 hs2
      go_wp2_with fail
      go_big_region
      go_wp2
      go_roundw
      case rel => exact ⟨j + 1, by go_num, by rw [HX.out]; first | rfl | (congr 1; omega), by omega, by first | exact K.out.drewN _ | exact K.out⟩
      case measure => simp [intOf]; omega
    · have hje : j = k := by omega
      subst hje
      obtain ⟨a, ha⟩ : ∃ a, a = fstAt F C j := ⟨_, rfl⟩
      have HE := hide ha
      rw [← ha] at ha4
      rw [← ha]
      have hwa : IntKind.i64.wrap ((a : Int) + (need : Int)) = (a : Int) + (need : Int) := by rw [IntKind.wrap_i64]; omega
      have ha4' : a ≤ 4096 := ha4
      clear ha
      by_cases hjk : j < n
      · exact absurd hjk hb
      · have hjn : ¬ (j : Int) < (n : Int) := by omega
        have hd0 : decide ((j : Int) < (n : Int)) = false := decide_eq_false hjn
        clear hKk
        by_cases hfull : 4096 < (a : Int) + (need : Int)
        · clear hs1 hs2
          go_wp2_with fail
          go_ret2
          exact .inl ⟨by rw [← HE.out]; omega, rfl, by first | exact K.out.drewN _ | exact K.out⟩
        · go_wp2_with fail
          have R4 := hide (H.out.next K.out)
          have N4 := hide (R4.out.cut j (by omega))
          have N5 := hide (R4.out.rest j HA.out hle)
          have L4 := hide (show (flat ((lst n F C).take j)).length = j * 2 by rw [flat_length, List.length_take, lst_length]; omega)
          have L5 := hide (show (flat ((lst n F C).drop j)).length = (n - j) * 2 by rw [flat_length, List.length_drop, lst_length])
          have hqs := R4.out.row.choose_spec.lt
          have Q4 := hide R4.out.c
          have F4 := hide R4.out.row
          have hap := hide (H.out.ap.put HF.out h1 (by rw [← HE.out]; omega))
          clear HA H HF HC
          have OB := hide (show (((wr.alloc (.cells #[] 41)).alloc (.cells #[.int .i64 (a : Int), .int .i64 (need : Int)] 41)).drew).ownsRow wr.heap.size 41 2 (.slice (some ⟨wr.heap.size, 0, none⟩) 0 0) 0 [] from own_kept (World.ownsRow_lit (e := 41) (size := 2) wr #[] 0 (Nat.le_refl _) (by decide) rfl) (((Kept.refl [] _).alloc _).drew) (by simp))
          have OC := hide (show (((wr.alloc (.cells #[.int .i64 (a : Int), .int .i64 (need : Int)] 41)).alloc (.cells #[] 41)).drew).ownsRow wr.heap.size 41 2 (.slice (some ⟨wr.heap.size + 1, 0, none⟩) 0 0) 0 [] from by
            have h9 := own_base (own_kept (World.ownsRow_lit (e := 41) (size := 2) (wr.alloc (.cells #[.int .i64 (a : Int), .int .i64 (need : Int)] 41)) #[] 0 (Nat.le_refl _) (by decide) rfl) ((Kept.refl [] _).drew) (by simp)) (show wr.heap.size ≤ (wr.alloc (.cells #[.int .i64 (a : Int), .int .i64 (need : Int)] 41)).heap.size from by simp)
            rw [show (wr.alloc (.cells #[.int .i64 (a : Int), .int .i64 (need : Int)] 41)).heap.size = wr.heap.size + 1 from by simp] at h9
            exact h9)
          have KB := hide (show Kept [] wr (((wr.alloc (.cells #[] 41)).alloc (.cells #[.int .i64 (a : Int), .int .i64 (need : Int)] 41)).drew) from (((Kept.refl [] wr).alloc _).alloc _).drew)
          have KC := hide (show Kept [] wr (((wr.alloc (.cells #[.int .i64 (a : Int), .int .i64 (need : Int)] 41)).alloc (.cells #[] 41)).drew) from (((Kept.refl [] wr).alloc _).alloc _).drew)
          have NB := hide (show ∀ W, Kept [wr.heap.size] (((wr.alloc (.cells #[] 41)).alloc (.cells #[.int .i64 (a : Int), .int .i64 (need : Int)] 41)).drew) W → ∀ j u, [iv a, iv need][j]? = some u → W.cell? ((⟨wr.heap.size + 1, 0, none⟩ : Addr).add j) = some u from fun W hW j u hu => by
            have h9 := news_two (w := wr.alloc (.cells #[] 41)) (t := 41) j u hu
            rw [show (wr.alloc (.cells #[] 41)).heap.size = wr.heap.size + 1 from by simp] at h9
            refine hW.cell (show (((wr.alloc (.cells #[] 41)).alloc (.cells #[.int .i64 (a : Int), .int .i64 (need : Int)] 41)).drew).cell? _ = _ from h9) ?_
            rw [add_plain]; simp)
          have NC := hide (show ∀ W, Kept [wr.heap.size + 1] (((wr.alloc (.cells #[.int .i64 (a : Int), .int .i64 (need : Int)] 41)).alloc (.cells #[] 41)).drew) W → ∀ j u, [iv a, iv need][j]? = some u → W.cell? ((⟨wr.heap.size, 0, none⟩ : Addr).add j) = some u from fun W hW j u hu => by
            have h9 := news_two (w := wr) (t := 41) j u hu
            have h8 := (((Kept.refl [] (wr.alloc (.cells #[.int .i64 (a : Int), .int .i64 (need : Int)] 41))).alloc (.cells #[] 41)).drew).cell h9 (by simp)
            refine hW.cell h8 ?_
            rw [add_plain]; simp)
          go_region_law (first
            | (refine By.step_append_own (by rfl) _ _ _ (by rfl) wr.heap.size 41 i2 (.agg #[.int .i64 0, .int .i64 0]) 2 16 Try.underlying35 I2.out Z2.out S2e.out B2.out rfl (by decide) (.slice (some ⟨wr.heap.size, 0, none⟩) 0 0) 0 [] (by rfl) (World.ownsRow_lit _ #[] 0 (Nat.le_refl _) (by decide) rfl) ⟨g, 0, none⟩ j cap (flat ((lst n F C).take j)) (by rfl) L4.out (N4.out _ (by exact ((Kept.refl [] wr).drew.alloc _))) (one_flat _) (by unfold maxLen; omega) (by omega) (by simp) ?_; intro v1 w7 o7 g7 b7 n7; have K7 := own_grown (World.ownsRow_lit (e := 41) (size := 2) wr.drew #[] 0 (Nat.le_refl _) (by decide) rfl) g7 wr ((Kept.refl [] wr).drew.alloc _) (Nat.le_refl _); have s7 := K7.cell Q4.out (by simp); have s7' := (K7.alloc (.cells #[.int .i64 (a : Int), .int .i64 (need : Int)] 41)).cell Q4.out (by simp))
            | (refine By.step_append_own (by rfl) _ _ _ (by rfl) wr.heap.size 41 i2 (.agg #[.int .i64 0, .int .i64 0]) 2 16 Try.underlying35 I2.out Z2.out S2e.out B2.out rfl (by decide) (.slice (some ⟨wr.heap.size, 0, none⟩) 0 0) 0 [] (by rfl) OB.out ⟨g, 0, none⟩ j cap (flat ((lst n F C).take j)) (by rfl) L4.out (N4.out _ (by exact KB.out)) (one_flat _) (by unfold maxLen; omega) (by omega) KB.out.size ?_; intro v1 w7 o7 g7 b7 n7; have K7 := own_grown OB.out g7 wr KB.out (Nat.le_refl _); have s7 := K7.cell Q4.out (by simp); have P7 := NB.out w7 (Kept.of_grownBy (L := [wr.heap.size]) g7 (fun k hk _ => by simp [Value.ownBlock] at hk; simp [hk])))
            | (refine By.step_append_own (by rfl) _ _ _ (by rfl) wr.heap.size 41 i2 (.agg #[.int .i64 0, .int .i64 0]) 2 16 Try.underlying35 I2.out Z2.out S2e.out B2.out rfl (by decide) (.slice (some ⟨wr.heap.size + 1, 0, none⟩) 0 0) 0 [] (by rfl) OC.out ⟨g, 0, none⟩ j cap (flat ((lst n F C).take j)) (by rfl) L4.out (N4.out _ (by exact KC.out)) (one_flat _) (by unfold maxLen; omega) (by omega) KC.out.size ?_; intro v1 w7 o7 g7 b7 n7; have K7 := own_grown OC.out g7 wr KC.out (Nat.le_refl _); have s7 := K7.cell Q4.out (by simp); have P7 := NC.out w7 (Kept.of_grownBy (L := [wr.heap.size + 1]) g7 (fun k hk _ => by simp [Value.ownBlock] at hk; simp [hk])))
            | (refine By.step_append_own (by rfl) _ _ _ (by rfl) wr.heap.size 41 i2 (.agg #[.int .i64 0, .int .i64 0]) 2 16 Try.underlying35 I2.out Z2.out S2e.out B2.out rfl (by decide) v1 (0 + j) ([] ++ (flat ((lst n F C).take j))) (by rfl) (o7.alloc (.cells #[.int .i64 (a : Int), .int .i64 (need : Int)] 41)) ⟨w7.heap.size, 0, none⟩ 1 1 [iv a, iv need] (by rfl) (by rfl) news_two (one_flat [(a, need)]) (by unfold maxLen; omega) (by omega) (by have := K7.size; simp; omega) ?_; intro v2 w8 o8 g8 b8 n8; have K8 := own_grown (o7.alloc (.cells #[.int .i64 (a : Int), .int .i64 (need : Int)] 41)) g8 wr (K7.alloc _) (Nat.le_refl _); have s8 := K8.cell Q4.out (by simp))
            | (refine By.step_append_own (by rfl) _ _ _ (by rfl) wr.heap.size 41 i2 (.agg #[.int .i64 0, .int .i64 0]) 2 16 Try.underlying35 I2.out Z2.out S2e.out B2.out rfl (by decide) v1 (0 + j) ([] ++ (flat ((lst n F C).take j))) (by rfl) o7 ⟨wr.heap.size + 1, 0, none⟩ 1 1 [iv a, iv need] (by rfl) (by rfl) P7 (one_flat [(a, need)]) (by unfold maxLen; omega) (by omega) K7.size ?_; intro v2 w8 o8 g8 b8 n8; have K8 := own_grown o7 g8 wr K7 (Nat.le_refl _); have s8 := K8.cell Q4.out (by simp))
            | (refine By.step_append_own (by rfl) _ _ _ (by rfl) wr.heap.size 41 i2 (.agg #[.int .i64 0, .int .i64 0]) 2 16 Try.underlying35 I2.out Z2.out S2e.out B2.out rfl (by decide) v1 (0 + j) ([] ++ (flat ((lst n F C).take j))) (by rfl) o7 ⟨wr.heap.size, 0, none⟩ 1 1 [iv a, iv need] (by rfl) (by rfl) P7 (one_flat [(a, need)]) (by unfold maxLen; omega) (by omega) K7.size ?_; intro v2 w8 o8 g8 b8 n8; have K8 := own_grown o7 g8 wr K7 (Nat.le_refl _); have s8 := K8.cell Q4.out (by simp))
            | (refine By.step_append_own (by rfl) _ _ _ (by rfl) wr.heap.size 41 i2 (.agg #[.int .i64 0, .int .i64 0]) 2 16 Try.underlying35 I2.out Z2.out S2e.out B2.out rfl (by decide) v2 (0 + j + 1) ([] ++ (flat ((lst n F C).take j)) ++ [iv a, iv need]) (by rfl) o8 ad (n - j) (cap - j) (flat ((lst n F C).drop j)) (by rfl) L5.out (N5.out _ K8) (one_flat _) (by unfold maxLen; omega) (by omega) K8.size ?_; intro v3 w9 o9 g9 b9 n9; have K9 := own_grown o8 g9 wr K8 (Nat.le_refl _); have s9 := K9.cell Q4.out (by simp); have f9 := (K9.row F4.out.choose_spec (by simp)).frozen 0; obtain ⟨ao8, m8, cp8, hm8, hv8⟩ := own_shape2 o9; subst hv8; have M8 := hide hm8; clear hm8))
          all_goals
            have R9 := hide (R4.out.turn (F' := ins F j a) (C' := ins C j need) (n' := n + 1) K9 (by
              have e1 : n + 1 = 0 + j + 1 + (n - j) := by omega
              rw [lst_ins hkn, flat_append, flat_append]
              rw [e1]
              exact o9) (Nat.le_refl _) (by rw [HE.out]; exact hap.out))
            clear o9 g9 b9 n9 K9 K8 K7 R4 N4 N5 L4 L5 hs1 hs2 s7 s8 s9 f9 Q4 F4 OB OC KB KC NB NC o7 g7 b7 n7 o8 g8 b8 n8
            go_wp2_with fail
            go_ret2
            exact .inr ⟨by rw [← HE.out]; omega, by rw [← HE.out]; rfl, _, _, by rw [← HE.out]; exact R9.out.1, (K.out.mono (M := [q]) (by simp)).trans R9.out.2 (fun x hx _ => hx), K.out.size⟩
end Go.Proofs.Ytdgmfcnblaamcaa.Sc
