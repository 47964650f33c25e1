
/-
  No statement of the program: the document's space and its Of and Give, over this seat's translation.
-/
import Derived.Test.YtdgmfcnblaamcaaSpc15
import Derived.OwnWalk
import Derived.BigRegion
import Derived.BigQuiet
import Derived.Deep.RegionHeld3
import Derived.Deep.RegionHeld
namespace Go.Proofs.Ytdgmfcnblaamcaa.Sc
open Go.ChangeShapes Go.WideShapes Go.ChangeAt Go.RowKit
/-- The runs as a list. -/
def lst (n : Nat) (F C : Nat → Nat) : List (Nat × Nat) := (List.range n).map (fun i => (F i, C i))
theorem lst_length (n : Nat) (F C : Nat → Nat) : (lst n F C).length = n := by simp [lst]
theorem lst_get {n : Nat} {F C : Nat → Nat} {k : Nat} (h : k < n) : (lst n F C).getD k (0, 0) = (F k, C k) := by simp [lst, h]
theorem lst_congr {n : Nat} {F C F' C' : Nat → Nat} (h : ∀ i, i < n → F i = F' i ∧ C i = C' i) : lst n F C = lst n F' C' := by
  unfold lst
  refine List.map_congr_left (fun i hi => ?_)
  have := h i (List.mem_range.1 hi)
  rw [this.1, this.2]
theorem lst_ins {n k a c : Nat} {F C : Nat → Nat} (h : k ≤ n) : lst (n + 1) (ins F k a) (ins C k c) = (lst n F C).take k ++ [(a, c)] ++ (lst n F C).drop k := by
  apply List.ext_getElem?
  intro j
  unfold lst
  simp only [List.getElem?_map, List.getElem?_append, List.length_append, List.length_take, List.length_map, List.length_range, List.length_singleton, List.getElem?_take, List.getElem?_drop]
  by_cases h1 : j < k
  · rw [if_pos (by omega), if_pos (by omega), if_pos h1, List.getElem?_range (by omega), List.getElem?_range (by omega)]
    simp [ins, h1]
  · by_cases h2 : j = k
    · subst h2
      rw [if_pos (by omega), if_neg (by omega), List.getElem?_range (by omega), show j - min j n = 0 by omega]
      simp [ins]
    · rw [if_neg (by omega), show k + (j - (min k n + 1)) = j - 1 by omega]
      by_cases h3 : j < n + 1
      · rw [List.getElem?_range h3, List.getElem?_range (by omega)]
        simp [ins, h1, h2]
      · rw [List.getElem?_eq_none (by simp; omega), List.getElem?_eq_none (by simp; omega)]
        rfl
theorem lst_del {n k : Nat} {F C : Nat → Nat} (h : k < n) : lst (n - 1) (del F k) (del C k) = (lst n F C).take k ++ (lst n F C).drop (k + 1) := by
  apply List.ext_getElem?
  intro j
  unfold lst
  simp only [List.getElem?_map, List.getElem?_append, List.length_take, List.length_map, List.length_range, List.getElem?_take, List.getElem?_drop]
  by_cases h1 : j < k
  · rw [if_pos (by omega), if_pos h1, List.getElem?_range (by omega), List.getElem?_range (by omega)]
    simp [del, h1]
  · rw [if_neg (by omega), show k + 1 + (j - min k n) = j + 1 by omega]
    by_cases h3 : j < n - 1
    · rw [List.getElem?_range h3, List.getElem?_range (by omega)]
      simp [del, h1]
    · rw [List.getElem?_eq_none (by simp; omega), List.getElem?_eq_none (by simp; omega)]
      rfl
/-- The document's space at q: its list lies in v. -/
structure RQ (w : World) (q base : Nat) (v : Value) (n : Nat) (F C : Nat → Nat) : Prop where
  c : w.cell? ⟨q, 0, none⟩ = some v
  row : ∃ f, w.rowIs q 37 1 f
  own : w.ownsRow base 41 2 v n (flat (lst n F C))
  ap : Apart n F C
  ne : v.ownBlock ≠ some q
theorem RQ.next {w w' : World} {q base : Nat} {v : Value} {n : Nat} {F C : Nat → Nat} (h : RQ w q base v n F C) (k : Kept [] w w') : RQ w' q base v n F C := by
  obtain ⟨f, hf⟩ := h.row
  exact ⟨k.cell h.c (by simp), ⟨f, k.row hf (by simp)⟩, own_kept h.own k (by simp), h.ap, h.ne⟩
theorem RQ.form {w : World} {q base : Nat} {v : Value} {n : Nat} {F C : Nat → Nat} (h : RQ w q base v n F C) : ∃ ao cap, v = .slice ao n cap ∧ n ≤ cap ∧ cap ≤ maxLen ∧ ∀ k, k < n → ∃ g, ao = some ⟨g, 0, none⟩ ∧ w.cell? ⟨g, k * 2, none⟩ = some (.int .i64 (F k)) ∧ w.cell? ⟨g, k * 2 + 1, none⟩ = some (.int .i64 (C k)) := by
  rcases h.own.2 with ⟨h1, h2⟩ | ⟨g, cap, cur, h1, hb, hg, h2, h3, h4, h5⟩
  · exact ⟨none, 0, by rw [h1, h2], by omega, by unfold maxLen; omega, fun k hk => by omega⟩
  · refine ⟨_, cap, h1, h2, h3, fun k hk => ⟨g, rfl, ?_⟩⟩
    obtain ⟨f1, f2⟩ := flat_get (lst n F C) k (by rw [lst_length]; exact hk)
    rw [lst_get hk] at f1 f2
    have q2 := World.ownsRow.cells h.own (g := g) (by rw [h1]; rfl) _ _ f1
    have q3 := World.ownsRow.cells h.own (g := g) (by rw [h1]; rfl) _ _ f2
    rw [add_plain, Nat.zero_add] at q2 q3
    exact ⟨q2, q3⟩
/-- What Of tells. -/
def OfIs (n : Nat) (F C : Nat → Nat) (page : Int) (e : Ending) : Prop := (∃ i, i < n ∧ (F i : Int) ≤ page ∧ page < (F i : Int) + (C i : Int) ∧ e = .returned (.tuple #[.int .i64 (F i), .int .i64 (C i), .bool true])) ∨
  ((∀ i, i < n → ¬ ((F i : Int) ≤ page ∧ page < (F i : Int) + (C i : Int))) ∧ e = .returned (.tuple #[.int .i64 0, .int .i64 0, .bool false]))
set_option maxHeartbeats 4000000 in
set_option maxRecDepth 100000 in
theorem rof_any {w : World} {q base : Nat} {v : Value} {n : Nat} {F C : Nat → Nat} (h : RQ w q base v n F C) (page : Int) :
    Calls Try.prog 16 #[.pointer (some ⟨q, 0, none⟩), .int .i64 page] w fun e w' => Kept [] w w' ∧ OfIs n F C page e := by
  obtain ⟨ao, cap, rfl, hle, hcm, hcl⟩ := h.form
  have hc := h.c
  have hn := h.ap.le
  have H := hide h
  have HC := hide hcl
  clear h hcl
  go_enter Try.func16, Try.ntmps16
  go_wp2_with fail
  go_loopw [7] (fun v wr => ∃ k : Nat, v = .int .i64 k ∧ k ≤ n ∧ (∀ i, i < k → ¬ ((F i : Int) ≤ page ∧ page < (F i : Int) + (C i : Int))) ∧ Kept [] w wr) (fun v _ => n - (intOf v).toNat)
  case atStart => exact ⟨0, rfl, Nat.zero_le _, fun i hi => absurd hi (by omega), Kept.refl _ _⟩
  case round =>
    obtain ⟨k, rfl, hk, hno, hKk⟩ := hrel
    have K := hide hKk
    have HN := hide hno
    have hc' := hKk.cell hc (by simp)
    clear hno
    by_cases hkn : k < n
    · have hki : (k : Int) < (n : Int) := by omega
      obtain ⟨g, rfl, c0, c1⟩ := HC.out k hkn
      have d0 := hKk.cell c0 (by simp)
      have d1 := hKk.cell c1 (by simp)
      have hA := H.out.ap k hkn
      have hk0 : (0 : Int) ≤ (k : Int) := by omega
      obtain ⟨f, hf⟩ : ∃ f, f = F k := ⟨_, rfl⟩
      obtain ⟨cc, hcc⟩ : ∃ c, c = C k := ⟨_, rfl⟩
      rw [← hf] at d0 hA
      rw [← hcc] at d1 hA
      have HE := hide (And.intro hf hcc)
      have hwf : IntKind.i64.wrap ((f : Int) + (cc : Int)) = (f : Int) + (cc : Int) := by rw [IntKind.wrap_i64]; omega
      clear hf hcc c0 c1 hKk
      by_cases h1 : (f : Int) ≤ page
      · have b1 : decide ((f : Int) ≤ page) = true := decide_eq_true h1
        by_cases h2 : page < (f : Int) + (cc : Int)
        · have b2 : decide (page < (f : Int) + (cc : Int)) = true := decide_eq_true h2
          go_wp2_with fail
          go_big_region
          go_wp2_with fail
          go_big_region
          go_wp2_with fail
          go_ret3
          exact ⟨by first | exact (K.out.drewN _).drewN _ | exact K.out.drewN _ | exact K.out, .inl ⟨k, hkn, by rw [← HE.out.1]; exact h1, by rw [← HE.out.1, ← HE.out.2]; exact h2, by rw [← HE.out.1, ← HE.out.2]; rfl⟩⟩
        · have b2 : decide (page < (f : Int) + (cc : Int)) = false := decide_eq_false h2
          have HQ := hide (show ¬ ((F k : Int) ≤ page ∧ page < (F k : Int) + (C k : Int)) from by rw [← HE.out.1, ← HE.out.2]; exact fun h => h2 h.2)
          go_wp2_with fail
          go_big_region
          go_wp2
          go_roundw
          case rel => exact ⟨k + 1, by go_num, by omega, fun i hi => by
            by_cases e : i = k
            · rw [e]; exact HQ.out
            · exact HN.out i (by omega), K.out.drewN _⟩
          case measure => simp [intOf]; omega
      · have b1 : decide ((f : Int) ≤ page) = false := decide_eq_false h1
        have HQ := hide (show ¬ ((F k : Int) ≤ page ∧ page < (F k : Int) + (C k : Int)) from by rw [← HE.out.1]; exact fun h => h1 h.1)
        go_wp2_with fail
        go_big_region
        go_wp2
        go_roundw
        case rel => exact ⟨k + 1, by go_num, by omega, fun i hi => by
            by_cases e : i = k
            · rw [e]; exact HQ.out
            · exact HN.out i (by omega), K.out.drewN _⟩
        case measure => simp [intOf]; omega
    · have e : k = n := by omega
      subst e
      have hki : ¬ (k : Int) < (k : Int) := by omega
      clear hKk
      go_wp2_with fail
      go_ret3
      exact ⟨K.out, .inr ⟨HN.out, rfl⟩⟩
theorem own_shape2 {w : World} {base : Nat} {e : TypeId} {size : Nat} {v : Value} {n : Nat} {xs : List Value} (h : w.ownsRow base e size v n xs) : ∃ ao m cp, m = n ∧ v = .slice ao m cp := by
  rcases h.2 with ⟨h1, h2⟩ | ⟨g, cap, cur, h1, -⟩
  · exact ⟨none, 0, 0, h2.symm, h1⟩
  · exact ⟨_, n, cap, rfl, h1⟩
/-- Another list is laid into the document's space. -/
theorem RQ.turn {w w8 : World} {q base n n' base' : Nat} {v v' : Value} {F C F' C' : Nat → Nat} (h : RQ w q base v n F C) (k8 : Kept [] w w8) (ho : w8.ownsRow base' 41 2 v' n' (flat (lst n' F' C'))) (hb : w.heap.size ≤ base') (ha : Apart n' F' C') : RQ (w8.setCell ⟨q, 0, none⟩ v') q base' v' n' F' C' ∧ Kept [q] w (w8.setCell ⟨q, 0, none⟩ v') := by
  obtain ⟨f, hf⟩ := h.row
  have hq := hf.lt
  have hf8 := k8.row hf (by simp)
  have hne : v'.ownBlock ≠ some q := fun e => by have := (ho.lt q e).1; omega
  have hk : Kept [q] w8 (w8.setCell ⟨q, 0, none⟩ v') := (Kept.refl [q] w8).setCell (p := ⟨q, 0, none⟩) (fun _ => by simp) _
  refine ⟨⟨?_, ⟨_, hf8.set 0 v'⟩, own_far ho hk (fun g hg hm => hne (by rw [hg]; have := List.mem_singleton.1 hm; rw [this])), ha, hne⟩, (k8.mono (M := [q]) (by simp)).trans hk (fun x hx _ => hx)⟩
  rw [(hf8.set 0 v').cell (show 0 < 1 by omega), if_pos rfl]
theorem RQ.cut {w : World} {q base g cap n : Nat} {F C : Nat → Nat} (h : RQ w q base (.slice (some ⟨g, 0, none⟩) n cap) n F C) (k : Nat) (hk : k ≤ n) : ∀ W, Kept [] w W → ∀ i u, (flat ((lst n F C).take k))[i]? = some u → W.cell? ((⟨g, 0, none⟩ : Addr).add i) = some u := by
  intro W hW i u hu
  have hi : i < k * 2 := by have := getElem?_lt hu; rw [flat_length, List.length_take, lst_length] at this; omega
  refine hW.cell (World.ownsRow.cells h.own rfl i u ?_) (by simp)
  rw [← hu, flat_take, List.getElem?_take, if_pos hi]
theorem RQ.rest {w : World} {q base g cap n : Nat} {F C : Nat → Nat} {ad : Addr} (h : RQ w q base (.slice (some ⟨g, 0, none⟩) n cap) n F C) (k : Nat) (hA : ∀ j, cap ≠ k → ad.add j = ⟨g, k * 2 + j, none⟩) (hn : n ≤ cap) : ∀ W, Kept [] w W → ∀ i u, (flat ((lst n F C).drop k))[i]? = some u → W.cell? (ad.add i) = some u := by
  intro W hW i u hu
  have hi : i < (n - k) * 2 := by have := getElem?_lt hu; rw [flat_length, List.length_drop, lst_length] at this; exact this
  rw [hA i (by omega)]
  refine hW.cell ?_ (by simp)
  have h2 := World.ownsRow.cells h.own (g := g) rfl (k * 2 + i) u (by rw [← hu, flat_drop, List.getElem?_drop])
  rw [add_plain, Nat.zero_add] at h2
  exact h2
set_option maxHeartbeats 8000000 in
set_option maxRecDepth 100000 in
theorem rgive_at {w : World} {q base : Nat} {v : Value} {n : Nat} {F C : Nat → Nat} (h : RQ w q base v n F C) {k : Nat} (hk : k < n) :
    Calls Try.prog 15 #[.pointer (some ⟨q, 0, none⟩), .int .i64 (F k)] w fun e w' => ∃ v' base', e = .returned (.tuple #[.int .i64 (C k), .int .i64 0]) ∧ RQ w' q base' v' (n - 1) (del F k) (del C k) ∧ Kept [q] w w' ∧ w.heap.size ≤ base' := by
  obtain ⟨ao, cap, rfl, hle, hcm, hcl⟩ := h.form
  obtain ⟨g, rfl, ck0, ck1⟩ := hcl k hk
  have hc := h.c
  have hn := h.ap.le
  have hap := hide (h.ap.drop hk)
  have hmono := hide h.ap.mono
  obtain ⟨i2, hi, hz, hs, hb⟩ := hi2e
  have I2 := hide hi
  have Z2 := hide hz
  have S2e := hide hs
  have B2 := hide hb
  have H := hide h
  have HC := hide hcl
  obtain ⟨fk, hfk⟩ : ∃ f, f = F k := ⟨_, rfl⟩
  obtain ⟨cc, hcc⟩ : ∃ c, c = C k := ⟨_, rfl⟩
  have HE := hide (And.intro hfk hcc)
  rw [← hfk] at ck0
  rw [← hcc] at ck1
  rw [← hfk, ← hcc]
  unfold maxLen at hcm
  have hwk : IntKind.i64.wrap ((k : Int) + 1) = (k : Int) + 1 := by rw [IntKind.wrap_i64]; omega
  have hs1 : ∀ wq, (Instr.slice 35 (.slice (some ⟨g, 0, none⟩) n cap) none (some (.int .i64 (k : Int))) none).run Try.prog wq = .ok (.slice (some ⟨g, 0, none⟩) k cap) wq := fun wq => By.run_cutS0 Try.underlying35 info2 _ _ _ _ k rfl (by omega) wq
  obtain ⟨ad, had, hadE⟩ := cut_at g cap (k + 1) 2
  have hs2 : ∀ wq, (Instr.slice 35 (.slice (some ⟨g, 0, none⟩) n cap) (some (.int .i64 ((k : Int) + 1))) none none).run Try.prog wq = .ok (.slice (some ad) (n - (k + 1)) (cap - (k + 1))) wq := fun wq => by
    rw [← had]; exact By.run_cutS Try.underlying35 info2 _ _ _ _ (k + 1) (by omega) (by omega) wq
  have HA := hide hadE
  clear h hcl hi hz hs hb hfk hcc had hadE
  go_enter Try.func15, Try.ntmps15
  go_wp2_with fail
  go_loopw [6] (fun v wr => ∃ j : Nat, v = .int .i64 j ∧ j ≤ k ∧ Kept [] w wr) (fun v _ => n - (intOf v).toNat)
  case atStart => exact ⟨0, rfl, Nat.zero_le _, Kept.refl _ _⟩
  case round =>
    obtain ⟨j, rfl, hj, hKk⟩ := hrel
    have K := hide hKk
    have hc' := hKk.cell hc (by simp)
    have hjn : (j : Int) < (n : Int) := by omega
    have hj0 : (0 : Int) ≤ (j : Int) := by omega
    by_cases hjk : j < k
    · obtain ⟨g', hg', c0, c1⟩ := HC.out j (by omega)
      cases hg'
      have d0 := hKk.cell c0 (by simp)
      have hm := hmono.out j k hjk hk
      obtain ⟨f, hf⟩ : ∃ f, f = F j := ⟨_, rfl⟩
      rw [← hf] at d0 hm
      rw [← HE.out.1] at hm
      have hne : ¬ (f : Int) = (fk : Int) := by omega
      clear c0 c1 hf hKk ck0 ck1 hs1 hs2
      go_wp2
      go_roundw
      case rel => exact ⟨j + 1, by go_num, by omega, by first | exact K.out.drewN _ | exact K.out⟩
      case measure => simp [intOf]; omega
    · have hje : j = k := by omega
      subst hje
      have d0 := hKk.cell ck0 (by simp)
      have d1 := hKk.cell ck1 (by simp)
      have R4 := hide (H.out.next hKk)
      have f4 := (R4.out.row.choose_spec).frozen 0
      clear hKk ck0 ck1 HC
      go_wp2_with fail
      have N4 := hide (R4.out.cut j (by omega))
      have N5 := hide (R4.out.rest (j + 1) HA.out hle)
      have L4 := hide (show (flat ((lst n F C).take j)).length = j * 2 by rw [flat_length, List.length_take, lst_length]; omega)
      have L5 := hide (show (flat ((lst n F C).drop (j + 1))).length = (n - (j + 1)) * 2 by rw [flat_length, List.length_drop, lst_length])
      have hqs := R4.out.row.choose_spec.lt
      have Q4 := hide R4.out.c
      have F4 := hide R4.out.row
      clear HA H
      go_region_law (first
        | (refine By.step_append_own (by rfl) _ _ _ (by rfl) wr.heap.size 41 i2 (.agg #[.int .i64 0, .int .i64 0]) 2 16 Try.underlying35 I2.out Z2.out S2e.out B2.out rfl (by decide) (.slice (some ⟨wr.heap.size, 0, none⟩) 0 0) 0 [] (by rfl) (World.ownsRow_lit _ #[] 0 (Nat.le_refl _) (by decide) rfl) ⟨g, 0, none⟩ j cap (flat ((lst n F C).take j)) (by rfl) L4.out (N4.out _ (by exact ((Kept.refl [] wr).drew.alloc _))) (one_flat _) (by unfold maxLen; omega) (by omega) (by simp) ?_; intro v1 w7 o7 g7 b7 n7; have K7 := own_grown (World.ownsRow_lit (e := 41) (size := 2) wr.drew #[] 0 (Nat.le_refl _) (by decide) rfl) g7 wr ((Kept.refl [] wr).drew.alloc _) (Nat.le_refl _); have s7 := K7.cell Q4.out (by simp))
        | (refine By.step_append_own (by rfl) _ _ _ (by rfl) wr.heap.size 41 i2 (.agg #[.int .i64 0, .int .i64 0]) 2 16 Try.underlying35 I2.out Z2.out S2e.out B2.out rfl (by decide) v1 (0 + j) ([] ++ flat ((lst n F C).take j)) (by rfl) o7 ad (n - (j + 1)) (cap - (j + 1)) (flat ((lst n F C).drop (j + 1))) (by rfl) L5.out (N5.out _ K7) (one_flat _) (by unfold maxLen; omega) (by omega) K7.size ?_; intro v2 w8 o8 g8 b8 n8; have K8 := own_grown o7 g8 wr K7 (Nat.le_refl _); have s8 := K8.cell Q4.out (by simp); have f8 := (K8.row F4.out.choose_spec (by simp)).frozen 0; obtain ⟨ao8, m8, cp8, hm8, hv8⟩ := own_shape2 o8; subst hv8; have M8 := hide hm8; clear hm8))
      all_goals
        have R9 := hide (R4.out.turn (F' := del F j) (C' := del C j) (n' := n - 1) K8 (by
          have e1 : n - 1 = 0 + j + (n - (j + 1)) := by omega
          rw [lst_del hk, flat_append]
          rw [e1]
          exact o8) (Nat.le_refl _) hap.out)
        clear o7 g7 b7 n7 o8 g8 b8 n8 K7 K8 R4 N4 N5 L4 L5 hs1 hs2 s7 s8 f8 f4 Q4 F4
        go_wp2_with fail
        go_ret2
        exact ⟨_, _, rfl, R9.out.1, (K.out.mono (M := [q]) (by simp)).trans R9.out.2 (fun x hx _ => hx), K.out.size⟩
set_option maxHeartbeats 8000000 in
set_option maxRecDepth 100000 in
theorem rgive_no {w : World} {q base : Nat} {v : Value} {n : Nat} {F C : Nat → Nat} (h : RQ w q base v n F C) {first : Int} (hno : ∀ i, i < n → (F i : Int) ≠ first) :
    Calls Try.prog 15 #[.pointer (some ⟨q, 0, none⟩), .int .i64 first] w fun e w' => e = .returned (.tuple #[.int .i64 0, .int .i64 13]) ∧ Kept [] w w' := by
  obtain ⟨ao, cap, rfl, hle, hcm, hcl⟩ := h.form
  have hc := h.c
  have hn := h.ap.le
  have HC := hide hcl
  have HN := hide hno
  clear h hcl hno
  go_enter Try.func15, Try.ntmps15
  go_wp2_with fail
  go_loopw [6] (fun v wr => ∃ j : Nat, v = .int .i64 j ∧ j ≤ n ∧ Kept [] w wr) (fun v _ => n - (intOf v).toNat)
  case atStart => exact ⟨0, rfl, Nat.zero_le _, Kept.refl _ _⟩
  case round =>
    obtain ⟨j, rfl, hj, hKk⟩ := hrel
    have K := hide hKk
    have hc' := hKk.cell hc (by simp)
    have hj0 : (0 : Int) ≤ (j : Int) := by omega
    by_cases hjk : j < n
    · obtain ⟨g, rfl, c0, c1⟩ := HC.out j hjk
      have hjn : (j : Int) < (n : Int) := by omega
      have d0 := hKk.cell c0 (by simp)
      have hm := HN.out j hjk
      obtain ⟨f, hf⟩ : ∃ f, f = F j := ⟨_, rfl⟩
      rw [← hf] at d0 hm
      have hne : ¬ (f : Int) = first := hm
      clear c0 c1 hf hKk hm
      go_wp2
      go_roundw
      case rel => exact ⟨j + 1, by go_num, by omega, by first | exact K.out.drewN _ | exact K.out⟩
      case measure => simp [intOf]; omega
    · have hje : j = n := by omega
      subst hje
      have hjn : ¬ (j : Int) < (j : Int) := by omega
      clear hKk
      go_wp2
      go_ret2
      exact ⟨rfl, K.out⟩
end Go.Proofs.Ytdgmfcnblaamcaa.Sc
