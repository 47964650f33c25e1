
/-
  No statement of the program: the calls of package cache, over this seat's translation.
-/
import Derived.Test.YtdgmfcnblaamcabDoorCch
namespace Go.Proofs.YtdgmfcnblaamcabDoor.Cc
open Go.ChangeShapes Go.WideShapes Go.ChangeAt Go.RowKit By
section
variable {w : World} {p : Nat} {S : Nat → Value} {L : Nat → List Nat}
theorem grown_kept {v u : Value} {w5 wx : World} (hv : v = u) (K : Kept [] w wx) (g : wx.grownBy w5 u.ownBlock) : Kept v.ownBlock.toList w w5 := by
  subst hv
  exact (K.mono (M := v.ownBlock.toList) (fun _ h => by simp at h)).trans (Kept.of_grownBy (L := v.ownBlock.toList) g (fun k hk _ => by rw [hk]; simp)) (fun _ h _ => h)
theorem new_ok (w : World) : Calls Tryd.prog 24 #[] w fun e w' => e = .returned (.pointer (some ⟨w.heap.size, 0, none⟩)) ∧ CA w' 91 w.heap.size (fun _ => .slice none 0 0) (fun _ => []) ∧ Kept [] w w' ∧ w'.heap.size = w.heap.size + 1 := by
  go_enter Tryd.func24, Tryd.ntmps24
  go_wp2
  go_ret
  refine ⟨rfl, ⟨?_, fun k _ => .inl ⟨rfl, rfl⟩, fun k b _ hb => (by cases hb), fun i j b _ _ _ hb => (by cases hb)⟩, (Kept.refl [] w).alloc _, by simp⟩
  refine World.rowIs_alloc w #[.slice none 0 0, .slice none 0 0, .slice none 0 0, .slice none 0 0] 91 _ (fun k hk => ?_)
  match k, hk with
  | 0, _ => rfl
  | 1, _ => rfl
  | 2, _ => rfl
  | 3, _ => rfl
theorem has_ok {k : Nat} (hk : k < 4) (p : Nat) (w : World) : Calls Tryd.prog 57 #[.pointer (some ⟨p, 0, none⟩), .int .i64 k] w fun e w' => e = .returned (.bool true) ∧ w' = w := by
  have h0 : (0 : Int) ≤ (k : Int) := by omega
  have h4 : (k : Int) < 4 := by omega
  go_enter Tryd.func57, Tryd.ntmps57
  go_wp2
  go_ret
  exact ⟨rfl, rfl⟩
theorem len_ok (h : CA w 91 p S L) {k : Nat} (hk : k < 4) : Calls Tryd.prog 38 #[.pointer (some ⟨p, 0, none⟩), .int .i64 k] w fun e w' => e = .returned (.int .i64 (L k).length) ∧ w' = w := by
  obtain ⟨ao, cap, hv, -⟩ := (h.list k hk).slice
  have hc : w.cell? ⟨p, k, none⟩ = some (.slice ao (L k).length cap) := by rw [← hv]; exact h.row.cell hk
  have h0 : (0 : Int) ≤ (k : Int) := by omega
  have h4 : (k : Int) < 4 := by omega
  clear h hv
  go_enter Tryd.func38, Tryd.ntmps38
  go_wp2_with fail
  refine (has_ok hk p w).mono ?_
  rintro e w1 ⟨rfl, hw⟩
  subst w1
  go_wp2
  go_ret
  exact ⟨rfl, rfl⟩
theorem push_full (h : CA w 91 p S L) {k : Nat} (hk : k < 4) (hl : (L k).length = 8) (x : Int) : Calls Tryd.prog 29 #[.pointer (some ⟨p, 0, none⟩), .int .i64 k, .int .i64 x] w fun e w' => e = .returned (.tuple #[.bool false, .int .i64 0]) ∧ w' = w := by
  obtain ⟨ao, cap, hv, -⟩ := (h.list k hk).slice
  have hc : w.cell? ⟨p, k, none⟩ = some (.slice ao 8 cap) := by rw [← hl, ← hv]; exact h.row.cell hk
  have h0 : (0 : Int) ≤ (k : Int) := by omega
  have h4 : (k : Int) < 4 := by omega
  clear h hv hl
  go_enter Tryd.func29, Tryd.ntmps29
  go_wp2_with fail
  refine (has_ok hk p w).mono ?_
  rintro e w1 ⟨rfl, hw⟩
  subst w1
  go_wp2
  go_ret2
  exact ⟨rfl, rfl⟩
set_option maxRecDepth 100000 in
set_option maxHeartbeats 1000000 in
theorem push_ok (h : CA w 91 p S L) {k : Nat} (hk : k < 4) (hl : (L k).length < 8) (x : Nat) : Calls Tryd.prog 29 #[.pointer (some ⟨p, 0, none⟩), .int .i64 k, .int .i64 x] w fun e w' => e = .returned (.tuple #[.bool true, .int .i64 0]) ∧ ∃ S', CA w' 91 p S' (up L k (L k ++ [x])) ∧ Kept (foot p S) w w' ∧ ∀ b, b ∈ foot p S' → b ∈ foot p S ∨ w.heap.size ≤ b := by
  obtain ⟨ao, cap, hv, -⟩ := (h.list k hk).slice
  have hc : w.cell? ⟨p, k, none⟩ = some (.slice ao (L k).length cap) := by rw [← hv]; exact h.row.cell hk
  have h0 : (0 : Int) ≤ (k : Int) := by omega
  have h4 : (k : Int) < 4 := by omega
  have h8 : ((L k).length : Int) < 8 := by omega
  obtain ⟨i3, I3, Z3, S3, B3⟩ : ∃ i, Tryd.prog.info? 3 = some i ∧ i.zero = some (.int .i64 0) ∧ i.size = 1 ∧ i.bytes = 8 := by
    obtain ⟨ti, hti, hz⟩ := Option.map_eq_some_iff.1 info3
    simp only [Prod.mk.injEq] at hz
    exact ⟨ti, hti, hz.1, hz.2.1, hz.2.2⟩
  have I := hide I3
  have Z := hide Z3
  have SZ := hide S3
  have B := hide B3
  have H := hide h
  have V := hide hv
  have hfz : ∀ i, w.frozen? ⟨p, i, none⟩ = false := fun i => h.row.frozen i
  have O := hide (h.list k hk).own
  have hca : ∀ o, (w.alloc o).cell? ⟨p, k, none⟩ = some (.slice ao (L k).length cap) := fun o => ((Kept.refl [] w).alloc o).cell hc (by simp)
  have hcd : ∀ o, (w.alloc o).drew.cell? ⟨p, k, none⟩ = some (.slice ao (L k).length cap) := fun o => ((Kept.refl [] w).alloc o).drew.cell hc (by simp)
  rw [hv] at O
  have npk : p ∉ (S k).ownBlock.toList := fun hp => h.np k p hk (by simpa using hp) rfl
  have NP := hide npk
  clear I3 Z3 S3 B3 h hv npk
  go_enter Tryd.func29, Tryd.ntmps29
  go_wp2_with fail
  refine (has_ok hk p w).mono ?_
  rintro e w1 ⟨rfl, hw⟩
  subst w1
  go_wp2_with fail
  go_region_law (first
    | (refine step_append_own (by rfl) _ _ _ (by rfl) 0 3 i3 (.int .i64 0) 1 8 Tryd.underlying54 I.out Z.out SZ.out B.out rfl (by decide) (.slice ao (L k).length cap) (L k).length ((L k).map iv) (by rfl) (by first | exact own_kept O.out ((Kept.refl [] w).drew.alloc _) (by simp) | exact own_kept O.out ((Kept.refl [] w).alloc _).drew (by simp)) ⟨w.heap.size, 0, none⟩ 1 1 [iv x] (by rfl) rfl (fun j u hj => news_one (w := w) j u hj) (by simp [iv, Value.oneCell']) (by unfold maxLen; omega) (by omega) (Nat.zero_le _) ?_; intro v1 w5 o5 g5 b5 n5; have K5 := grown_kept V.out (by first | exact (Kept.refl [] w).drew.alloc _ | exact ((Kept.refl [] w).alloc _).drew) g5; have s1 : w5.cell? ⟨p, k, none⟩ = some (.slice ao (L k).length cap) := K5.cell hc NP.out; have s2 : w5.frozen? ⟨p, k, none⟩ = false := (K5.row H.out.row NP.out).frozen _; obtain ⟨a1, c1, hv1, -, -⟩ := own_form o5; subst hv1))
  all_goals
    go_wp2
    go_ret2
    have hl5 : NL w5 (.slice a1 ((L k).length + 1) c1) (L k ++ [x]) := NL.of_own (by rw [List.map_append]; exact o5)
    obtain ⟨r1, r2, r3⟩ := H.out.swap hk K5 hl5 (fun b hb => by
      rcases b5 with e | e
      · exact .inl (by rw [V.out, ← e]; exact hb)
      · rw [e] at hb
        cases hb
        exact .inr (by simp))
    exact ⟨rfl, _, r1, r2, r3⟩
theorem pop_none (h : CA w 91 p S L) {k : Nat} (hk : k < 4) (hl : L k = []) : Calls Tryd.prog 30 #[.pointer (some ⟨p, 0, none⟩), .int .i64 k] w fun e w' => e = .returned (.tuple #[.int .i64 0, .bool false]) ∧ w' = w := by
  have H := hide h
  clear h
  go_enter Tryd.func30, Tryd.ntmps30
  go_wp2_with fail
  refine (len_ok H.out hk).mono ?_
  rw [hl]
  rintro e w1 ⟨rfl, hw⟩
  subst w1
  go_wp2
  go_ret2
  exact ⟨rfl, rfl⟩
set_option maxRecDepth 100000 in
set_option maxHeartbeats 1000000 in
theorem pop_ok (h : CA w 91 p S L) {k n : Nat} (hk : k < 4) (hl : (L k).length = n + 1) (h8 : n < 8) : Calls Tryd.prog 30 #[.pointer (some ⟨p, 0, none⟩), .int .i64 k] w fun e w' => e = .returned (.tuple #[.int .i64 ((L k).getD n 0 : Nat), .bool true]) ∧ ∃ S', CA w' 91 p S' (up L k ((L k).take n)) ∧ Kept (foot p S) w w' ∧ ∀ b, b ∈ foot p S' → b ∈ foot p S ∨ w.heap.size ≤ b := by
  obtain ⟨ao, cap, hv, hce⟩ := (h.list k hk).slice
  have hc : w.cell? ⟨p, k, none⟩ = some (.slice ao (n + 1) cap) := by rw [← hl, ← hv]; exact h.row.cell hk
  obtain ⟨b, rfl, hcb⟩ := hce n (by omega)
  obtain ⟨q1, q2, q3⟩ := (h.list k hk).pop hv (n := n) (by omega) (by intro e; rw [e] at hl; simp at hl)
  have h0 : (0 : Int) ≤ (k : Int) := by omega
  have h4 : (k : Int) < 4 := by omega
  have hs1 : ∀ wq, (Instr.slice 54 (.slice (some ⟨b, 0, none⟩) (n + 1) cap) none (some (.int .i64 (n : Int))) none).run Tryd.prog wq = .ok (.slice (some ⟨b, 0, none⟩) n cap) wq := fun wq => run_cut0 Tryd.underlying54 info3 _ _ _ _ n rfl q3 wq
  have hfz : ∀ i, w.frozen? ⟨p, i, none⟩ = false := fun i => h.row.frozen i
  have hcb2 : w.cell? ⟨b, n, none⟩ = some (.int .i64 ((L k).getD n 0 : Nat)) := hcb
  have H := hide h
  have Q1 := hide q1
  have Q2 := hide q2
  have hn0 : (0 : Int) ≤ (n : Int) := by omega
  have hn1 : (n : Int) < (n : Int) + 1 := by omega
  have hwn : IntKind.i64.wrap ((n : Int) + 1 - 1) = n := by rw [IntKind.wrap_i64]; omega
  clear h hv hce q1 q2 hcb
  generalize (L k).getD n 0 = y at *
  go_enter Tryd.func30, Tryd.ntmps30
  go_wp2_with fail
  refine (len_ok H.out hk).mono ?_
  rw [hl]
  rintro e w1 ⟨rfl, hw⟩
  subst w1
  go_wp2
  go_region_law (fail)
  all_goals go_wp2
  all_goals go_ret2
  all_goals
    obtain ⟨r1, r2, r3⟩ := H.out.swap (w2 := w) hk (Kept.refl _ w) Q1.out (fun b hb => .inl (by rw [← Q2.out]; exact hb))
    exact ⟨rfl, _, r1.kept0 (Kept.refl [] _).drew, r2.drew, r3⟩
set_option maxRecDepth 100000 in
set_option maxHeartbeats 1000000 in
theorem flush_none (h : CA w 91 p S L) {k : Nat} (hk : k < 4) (hl : L k = []) (n : Int) (h0 : 0 ≤ n) (h1 : n ≤ 8) : Calls Tryd.prog 31 #[.pointer (some ⟨p, 0, none⟩), .int .i64 k, .int .i64 n] w fun e w' => e = .returned (.slice none 0 0) ∧ w' = w := by
  have H := hide h
  clear h
  go_enter Tryd.func31, Tryd.ntmps31
  go_wp2_with fail
  refine (len_ok H.out hk).mono ?_
  rw [hl]
  rintro e w1 ⟨rfl, hw⟩
  subst w1
  go_wp2
  go_ret
  exact ⟨rfl, rfl⟩
set_option maxRecDepth 100000 in
set_option maxHeartbeats 1000000 in
theorem flush_ok (h : CA w 91 p S L) {k n : Nat} (hk : k < 4) (h1 : 1 ≤ n) (hl : n ≤ (L k).length) (h8 : (L k).length ≤ 8) : Calls Tryd.prog 31 #[.pointer (some ⟨p, 0, none⟩), .int .i64 k, .int .i64 n] w fun e w' => ∃ v, e = .returned v ∧ NL w' v ((L k).take n) ∧ (∀ b, v.ownBlock = some b → w.heap.size ≤ b) ∧ ∃ S', CA w' 91 p S' (up L k ((L k).drop n)) ∧ Kept (foot p S) w w' ∧ (∀ b, b ∈ foot p S' → b ∈ foot p S ∨ w.heap.size ≤ b) ∧ ∀ b, v.ownBlock = some b → b ∉ foot p S' := by
  have H := hide h
  clear h
  go_enter Tryd.func31, Tryd.ntmps31
  go_wp2_with fail
  refine (len_ok H.out hk).mono ?_
  rintro e w1 ⟨rfl, hw⟩
  subst w1
  obtain ⟨ao, cap, hv, -⟩ := (H.out.list k hk).slice
  have hc : w.cell? ⟨p, k, none⟩ = some (.slice ao (L k).length cap) := by rw [← hv]; exact H.out.row.cell hk
  have hcp := ((H.out.list k hk).pop hv hl (by intro e; rw [e] at hl; simp at hl; omega)).2.2
  have hs1 : ∀ wq, (Instr.slice 54 (.slice ao (L k).length cap) none (some (.int .i64 (n : Int))) none).run Tryd.prog wq = .ok (.slice ao n cap) wq := fun wq => run_cut0 Tryd.underlying54 info3 _ _ _ _ n rfl hcp wq
  have h0 : (0 : Int) ≤ (k : Int) := by omega
  have h4 : (k : Int) < 4 := by omega
  have hn1 : (1 : Int) ≤ (n : Int) := by omega
  have hn2 : (n : Int) ≤ ((L k).length : Int) := by omega
  have V := hide hv
  clear hv
  have hmin : min (n : Int) ((L k).length : Int) = n := by omega
  go_wp2_with fail
  refine (clone_any n (H.out.list k hk) hl (by omega) (by omega) V.out).mono ?_
  rintro e w2 ⟨v2, rfl, hn2', hb2, hk2⟩
  have H2 := hide (H.out.kept0 hk2)
  have hc2 : w2.cell? ⟨p, k, none⟩ = some (.slice ao (L k).length cap) := hk2.cell hc (by simp)
  have N2 := hide hn2'
  have B2 := hide hb2
  have K2 := hide hk2
  have hfz : ∀ i, w2.frozen? ⟨p, i, none⟩ = false := fun i => H2.out.row.frozen i
  have npk : p ∉ (S k).ownBlock.toList := fun hp => H.out.np k p hk (by simpa using hp) rfl
  have NP := hide npk
  clear hn2' hb2 hk2 npk hc
  have DEL := hide (show ∀ W, Kept [] w2 W → Calls Tryd.prog 59 #[.slice ao (L k).length cap, .int .i64 0, .int .i64 n] W (fun e w' => ∃ v', e = .returned v' ∧ NL w' v' ((L k).drop n) ∧ v'.ownBlock = (S k).ownBlock ∧ Kept (S k).ownBlock.toList w2 w') from fun W hW => by
    have h := delete_any (v := S k) n ((H2.out.list k hk).kept hW (fun _ _ => by simp)) (by omega) hl
    have h2 : Calls Tryd.prog 59 #[.slice ao (L k).length cap, .int .i64 0, .int .i64 n] W (fun e w' => ∃ v', e = .returned v' ∧ NL w' v' ((L k).drop n) ∧ v'.ownBlock = (S k).ownBlock ∧ Kept (S k).ownBlock.toList W w') := by
      rw [V.out] at h ⊢
      exact h
    refine h2.mono ?_
    rintro e w' ⟨v', rfl, a1, a2, a3⟩
    exact ⟨v', rfl, a1, a2, (hW.mono (M := (S k).ownBlock.toList) (fun _ hx _ => by cases hx)).trans a3 (fun x hx _ => hx)⟩)
  go_wp2_with fail
  go_region_with (first | (go_at_call 59; refine (DEL.out _ (by first | exact Kept.refl [] _ | exact (Kept.refl [] _).drew | exact (Kept.refl [] _).drewN _)).mono ?_; rintro e w3 ⟨v3, rfl, n3, b3, k3⟩; obtain ⟨a3, c3, hv3, -⟩ := n3.slice; subst hv3; have hc3 := k3.cell hc2 NP.out; have hf3 : ∀ i, w3.frozen? ⟨p, i, none⟩ = false := fun i => (k3.row H2.out.row NP.out).frozen i))
  rw [show (List.drop n (L k)).length = (L k).length - n by simp] at n3 b3
  obtain ⟨r1, r2, r3⟩ := H2.out.swap hk k3 n3 (fun b hb => .inl (by rw [← b3]; exact hb))
  have R1 := hide r1
  have R2 := hide r2
  have hlt := fun b (hb : b ∈ foot p S) => H.out.lt hb
  have NV := hide (show ∀ b, v2.ownBlock = some b → b ∉ foot p S from fun b hb hf => by have := B2.out b hb; have := hlt b hf; omega)
  have N6 := hide (N2.out.kept r2 NV.out)
  have NF := hide (show ∀ b, v2.ownBlock = some b → b ∉ foot p (up S k (.slice a3 ((L k).length - n) c3)) from fun b hb hf => by
    rcases mem_foot.1 hf with e | ⟨j, hj, e⟩
    · exact NV.out b hb (mem_foot.2 (.inl e))
    · unfold up at e
      by_cases e2 : j = k
      · rw [if_pos e2, b3] at e
        exact NV.out b hb (mem_foot.2 (.inr ⟨k, hk, e⟩))
      · rw [if_neg e2] at e
        exact NV.out b hb (mem_foot.2 (.inr ⟨j, hj, e⟩)))
  have RK := hide ((K2.out.mono (M := foot p S) (fun _ hx _ => by cases hx)).trans r2 (fun x hx _ => hx))
  have R3 := hide (show ∀ b, b ∈ foot p (up S k (.slice a3 ((L k).length - n) c3)) → b ∈ foot p S ∨ w.heap.size ≤ b from fun b hb => (r3 b hb).imp id (fun h => Nat.le_trans K2.out.size h))
  clear r1 r2 r3 k3 n3 b3 hc3 hf3 DEL NP hfz hc2 hs1
  go_wp2
  go_ret
  exact ⟨_, rfl, N6.out, B2.out, _, R1.out, RK.out, R3.out, NF.out⟩
end
end Go.Proofs.YtdgmfcnblaamcabDoor.Cc
