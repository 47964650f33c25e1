
/-
  No statement of the program: the document's buddy of the statements: DocGive, over this seat's translation.
-/
import Derived.Test.YtpljldjdemobbaaDoorBRef3
import Derived.Deep.AppendLies
namespace Go.Proofs.YtpljldjdemobbaaDoor.By
open Go.ChangeShapes Go.WideShapes Go.ChangeAt Go.RowKit
theorem own_shape2 {w : World} {base : Nat} {e : TypeId} {size : Nat} {v : Value} {n : Nat} {xs : List Value} (h : w.ownsRow base e size v n xs) : ∃ ao m cap, m = n ∧ v = .slice ao m cap := by
  obtain ⟨ao, cap, h1⟩ := own_shape h
  exact ⟨ao, n, cap, rfl, h1⟩
theorem eq3 (d : Nat) (a c : Int) (w : World) : (Op.equalIn (d + 1) 3 (.int .i64 a) (.int .i64 c)).run Tryd.prog w = .ok (a == c) w := by
  simp only [Op.equalIn, Sem.run_bind, run_underlying Tryd.underlying3, Result.andThen_ok]
  simp
theorem eq45' (d : Nat) (a b c e : Int) (w : World) : (Op.equalIn (d + 2) 49 (.agg #[.int .i64 a, .int .i64 b]) (.agg #[.int .i64 c, .int .i64 e])).run Tryd.prog w = .ok (decide (a = c) && decide (b = e)) w := by
  rw [Op.equalIn]
  simp only [Sem.run_bind, run_underlying Tryd.underlying49, Result.andThen_ok]
  have h0 : ∀ (x y : Value) (w : World), (part 3 #[x, y] 0).run Tryd.prog w = .ok x w := fun x y w => by simp [part, Tryd.isAgg3]
  have h1 : ∀ (x y : Value) (w : World), (part 3 #[x, y] 1).run Tryd.prog w = .ok y w := fun x y w => by simp [part, Tryd.isAgg3]
  simp only [Tryd.sizeOf3, Result.andThen_ok]
  rw [Std.Legacy.Range.forIn_eq_forIn_range']
  simp [List.range', h0, h1, eq3]
  by_cases e1 : a = c <;> by_cases e2 : b = e <;> simp [e1, e2]
theorem eq45 (a b c e : Int) (w : World) : (Op.equalIn 10000 49 (.agg #[.int .i64 a, .int .i64 b]) (.agg #[.int .i64 c, .int .i64 e])).run Tryd.prog w = .ok (decide (a = c) && decide (b = e)) w := eq45' 9998 a b c e w
section
variable {w : World} {r ub n base : Nat} {u : Nat → Bool} {tv : Value} {l : List (Nat × Nat)}
set_option maxRecDepth 20000 in
set_option maxHeartbeats 1000000 in
theorem rgive_no (h : RB w r ub n base u tv l) (hl : l.length ≤ 1024) {ai oi : Int} (ho : 0 ≤ oi ∧ oi ≤ 10) (hno : ∀ p, p ∈ l → ¬ ((p.1 : Int) = ai ∧ (p.2 : Int) = oi)) :
    Calls Tryd.prog 26 #[.pointer (some ⟨r, 0, none⟩), .int .i64 ai, .int .i64 oi] w fun e w' => e = .returned (.int .i64 6) ∧ Kept [] w w' := by
  obtain ⟨ho0, ho1⟩ := ho
  obtain ⟨ao, cap, htv⟩ := own_shape h.own
  have c1 := h.c1
  rw [htv] at c1
  have hcell : ∀ j, j < l.length → ∃ g, ao = some ⟨g, 0, none⟩ ∧ w.cell? ⟨g, j * 2, none⟩ = some (.int .i64 ((l.getD j (0, 0)).1 : Nat)) ∧ w.cell? ⟨g, j * 2 + 1, none⟩ = some (.int .i64 ((l.getD j (0, 0)).2 : Nat)) := by
    intro j hj
    obtain ⟨g, cap', hv, -, -⟩ := World.ownsRow.form h.own (by omega)
    obtain ⟨f1, f2⟩ := flat_get l j hj
    have h2 := World.ownsRow.cells h.own (g := g) (by rw [hv]; rfl) _ _ f1
    have h3 := World.ownsRow.cells h.own (g := g) (by rw [hv]; rfl) _ _ f2
    rw [add_plain, Nat.zero_add] at h2 h3
    rw [hv] at htv
    cases htv
    exact ⟨g, rfl, h2, h3⟩
  have HC := hide hcell
  have HN := hide hno
  clear h hcell hno htv
  go_enter Tryd.func26, Tryd.ntmps26
  go_wp2_with fail
  go_loop [7] (fun v => ∃ j : Nat, v = .int .i64 j ∧ j ≤ l.length) (fun v => l.length - (intOf v).toNat)
  case atStart => exact ⟨0, rfl, by omega⟩
  case round =>
    obtain ⟨j, rfl, hj⟩ := hrel
    by_cases hlt : j < l.length
    · obtain ⟨g, rfl, d1, d2⟩ := HC.out j hlt
      have hne := HN.out (l.getD j (0, 0)) (by simp [hlt])
      generalize l.getD j (0, 0) = pp at d1 d2 hne
      obtain ⟨p1, p2⟩ := pp
      have hj0 : (0 : Int) ≤ (j : Int) := by omega
      have hjn : (j : Int) < (l.length : Int) := by omega
      have hq : ∀ w, (Op.equalIn 10000 49 (.agg #[.int .i64 (p1 : Int), .int .i64 (p2 : Int)]) (.agg #[.int .i64 ai, .int .i64 oi])).run Tryd.prog w = .ok false w := fun w => by
        rw [eq45]
        congr 1
        by_cases e1 : (p1 : Int) = ai
        · have e3 : ¬ (p2 : Int) = oi := fun e2 => hne ⟨e1, e2⟩
          simp [e3]
        · simp [e1]
      clear HC HN hne
      go_wp2
      go_round
      case rel => exact ⟨j + 1, by go_num, by omega⟩
      case measure => simp [intOf]; omega
    · have hjn : ¬ (j : Int) < (l.length : Int) := by omega
      go_wp2
      go_ret
      exact ⟨rfl, Kept.refl _ _⟩
set_option maxRecDepth 20000 in
set_option maxHeartbeats 2000000 in
theorem rgive_ok (h : RB w r ub n base u tv l) (hn : n ≤ 1024) (_hbase : base ≤ w.heap.size) (hl : l.length ≤ 1024) (A o k : Nat) (hk : k < l.length) (hkE : l.getD k (0, 0) = (A, o)) (hkm : ∀ j, j < k → l.getD j (0, 0) ≠ (A, o)) (ho : o ≤ 10) (hA : A / 2 ^ o * 2 ^ o = A) (hin : (A / 2 ^ o + 1) * 2 ^ o ≤ n) {ai oi : Int} (ea : ai = A) (eo : oi = o) :
    Calls Tryd.prog 26 #[.pointer (some ⟨r, 0, none⟩), .int .i64 ai, .int .i64 oi] w fun e w' => ∃ tv', e = .returned (.int .i64 0) ∧ RB w' r ub n base (upd u (A / 2 ^ o) o false) tv' (l.take k ++ l.drop (k + 1)) ∧ Kept (rfoot r ub tv) w w' ∧ ∀ x, tv'.ownBlock = some x → tv.ownBlock = some x ∨ w.heap.size ≤ x := by
  subst ea eo
  obtain ⟨i45, hi, hz, hs, hb⟩ := hi45e
  have I45 := hide hi
  have Z45 := hide hz
  have S45 := hide hs
  have B45 := hide hb
  obtain ⟨g, cap, htv, hgb, hgl⟩ := World.ownsRow.form h.own (by omega)
  subst htv
  have hcap : l.length ≤ cap ∧ cap ≤ maxLen := by
    rcases h.own.2 with ⟨h, -⟩ | ⟨g', cap', cur, h, -, -, h1, h2, -⟩
    · cases h
    · cases h; exact ⟨h1, h2⟩
  obtain ⟨hc1, hc2⟩ := hcap
  unfold maxLen at hc2
  have c1 := h.c1
  have hcell : ∀ j, j < l.length → w.cell? ⟨g, j * 2, none⟩ = some (.int .i64 ((l.getD j (0, 0)).1 : Nat)) ∧ w.cell? ⟨g, j * 2 + 1, none⟩ = some (.int .i64 ((l.getD j (0, 0)).2 : Nat)) := by
    intro j hj
    obtain ⟨f1, f2⟩ := flat_get l j hj
    have h2 := World.ownsRow.cells h.own (g := g) rfl _ _ f1
    have h3 := World.ownsRow.cells h.own (g := g) rfl _ _ f2
    rw [add_plain, Nat.zero_add] at h2 h3
    exact ⟨h2, h3⟩
  have hwk : IntKind.i64.wrap ((k : Int) + 1) = (k : Int) + 1 := by rw [IntKind.wrap_i64]; omega
  have hs1 : ∀ wq, (Instr.slice 48 (.slice (some ⟨g, 0, none⟩) l.length cap) none (some (.int .i64 (k : Int))) none).run Tryd.prog wq = .ok (.slice (some ⟨g, 0, none⟩) k cap) wq := fun wq => run_cutS0 Tryd.underlying48 info45 _ _ _ _ k rfl (by omega) wq
  obtain ⟨ad, had, hadE⟩ := cut_at g cap (k + 1) 2
  have hs2 : ∀ wq, (Instr.slice 48 (.slice (some ⟨g, 0, none⟩) l.length cap) (some (.int .i64 ((k : Int) + 1))) none none).run Tryd.prog wq = .ok (.slice (some ad) (l.length - (k + 1)) (cap - (k + 1))) wq := fun wq => by
    rw [← had]; exact run_cutS Tryd.underlying48 info45 _ _ _ _ (k + 1) (by omega) (by omega) wq
  have HA := hide hadE
  have HC := hide hcell
  have HKM := hide hkm
  have HKE := hide hkE
  have E5 := hide hA
  have HIN := hide hin
  have H := hide h
  clear had hadE hcell hi hz hs hb h hkm hkE hA hin
  have ho0 : (0 : Int) ≤ (o : Int) := by omega
  have ho1 : (o : Int) ≤ 10 := by omega
  go_enter Tryd.func26, Tryd.ntmps26
  go_wp2_with fail
  go_loop [7] (fun v => ∃ j : Nat, v = .int .i64 j ∧ j ≤ k) (fun v => l.length - (intOf v).toNat)
  case atStart => exact ⟨0, rfl, by omega⟩
  case round =>
    obtain ⟨j, rfl, hj⟩ := hrel
    obtain ⟨d1, d2⟩ := HC.out j (by omega)
    have hj0 : (0 : Int) ≤ (j : Int) := by omega
    have hjn : (j : Int) < (l.length : Int) := by omega
    by_cases hlt : j < k
    · have hne := HKM.out j hlt
      generalize l.getD j (0, 0) = pp at d1 d2 hne
      obtain ⟨p1, p2⟩ := pp
      have hq : ∀ w, (Op.equalIn 10000 49 (.agg #[.int .i64 (p1 : Int), .int .i64 (p2 : Int)]) (.agg #[.int .i64 (A : Int), .int .i64 (o : Int)])).run Tryd.prog w = .ok false w := fun w => by
        rw [eq45]
        congr 1
        by_cases e1 : p1 = A
        · have e2 : ¬ p2 = o := fun e2 => hne (by rw [e1, e2])
          have e3 : ¬ (p2 : Int) = (o : Int) := by omega
          simp [e3]
        · have e3 : ¬ (p1 : Int) = (A : Int) := by omega
          simp [e3]
      clear HC HKM hne hs1 hs2
      go_wp2
      go_round
      case rel => exact ⟨j + 1, by go_num, by omega⟩
      case measure => simp [intOf]; omega
    · have hje : j = k := by omega
      subst hje
      rw [HKE.out] at d1 d2
      have hq : ∀ w, (Op.equalIn 10000 49 (.agg #[.int .i64 (A : Int), .int .i64 (o : Int)]) (.agg #[.int .i64 (A : Int), .int .i64 (o : Int)])).run Tryd.prog w = .ok true w := fun w => by
        rw [eq45]; simp
      go_wp2_with fail
      refine (rset_ok H.out hn (A / 2 ^ o) o ho HIN.out false (by rw [E5.out]) rfl).mono ?_
      rintro e w4 ⟨v4, rfl, hR4, hk4⟩
      have R4 := hide hR4
      have K4 := hide (show Kept (rfoot r ub (.slice (some ⟨g, 0, none⟩) l.length cap)) w w4 from hk4.mono (fun x hx _ => mem_rfoot.2 (.inr (.inl (List.mem_singleton.1 hx)))))
      have c14 := hR4.c1
      have f14 := hR4.obj.frozen 1
      have hB4 := hide (show base ≤ w4.heap.size from by have := hk4.size; omega)
      clear hR4 hk4 hq HC HKM d1 d2 c1
      have N4 := hide (show ∀ W, Kept [] w4 W → ∀ i u, (flat (l.take j))[i]? = some u → W.cell? ((⟨g, 0, none⟩ : Addr).add i) = some u from fun W hW i u hu => by
        have hi : i < j * 2 := by have := getElem?_lt hu; rw [flat_length] at this; simp at this; omega
        refine hW.cell (World.ownsRow.cells R4.out.own rfl i u ?_) (by simp)
        rw [← hu, flat_take, List.getElem?_take, if_pos hi])
      have N5 := hide (show ∀ W, Kept [] w4 W → ∀ i u, (flat (l.drop (j + 1)))[i]? = some u → W.cell? (ad.add i) = some u from fun W hW i u hu => by
        have hi : i < (l.length - (j + 1)) * 2 := by have := getElem?_lt hu; rw [flat_length] at this; simpa using this
        rw [HA.out i (by omega)]
        refine hW.cell ?_ (by simp)
        have h2 := World.ownsRow.cells R4.out.own (g := g) rfl ((j + 1) * 2 + i) u (by rw [← hu, flat_drop, List.getElem?_drop])
        rw [add_plain, Nat.zero_add] at h2
        exact h2)
      have L4 := hide (show (flat (l.take j)).length = j * 2 by rw [flat_length, List.length_take]; omega)
      have L5 := hide (show (flat (l.drop (j + 1))).length = (l.length - (j + 1)) * 2 by rw [flat_length, List.length_drop])
      clear HA H
      have hrl := R4.out.obj.lt
      go_wp2_with fail
      go_region_law (first
        | (refine step_append_own (by rfl) _ _ _ (by rfl) w4.heap.size 49 i45 (.agg #[.int .i64 0, .int .i64 0]) 2 16 Tryd.underlying48 I45.out Z45.out S45.out B45.out rfl (by decide) (.slice (some ⟨w4.heap.size, 0, none⟩) 0 0) 0 [] (by rfl) (World.ownsRow_lit _ #[] 0 (Nat.le_refl _) (by decide) rfl) ⟨g, 0, none⟩ j cap (flat (l.take j)) (by rfl) L4.out (N4.out _ (by exact ((Kept.refl [] w4).drew.alloc _))) (one_flat _) (by unfold maxLen; omega) (by omega) (by simp) ?_; intro v1 w7 o7 g7 b7 n7; have K7 := own_grown (World.ownsRow_lit (e := 49) (size := 2) w4.drew #[] 0 (Nat.le_refl _) (by decide) rfl) g7 w4 ((Kept.refl [] w4).drew.alloc _) (Nat.le_refl _); have s7 := K7.cell c14 (by simp))
        | (refine step_append_own (by rfl) _ _ _ (by rfl) w4.heap.size 49 i45 (.agg #[.int .i64 0, .int .i64 0]) 2 16 Tryd.underlying48 I45.out Z45.out S45.out B45.out rfl (by decide) v1 (0 + j) ([] ++ flat (l.take j)) (by rfl) o7 ad (l.length - (j + 1)) (cap - (j + 1)) (flat (l.drop (j + 1))) (by rfl) L5.out (N5.out _ K7) (one_flat _) (by unfold maxLen; omega) (by omega) K7.size ?_; intro v2 w8 o8 g8 b8 n8; have K8 := own_grown o7 g8 w4 K7 (Nat.le_refl _); have s8 := K8.cell c14 (by simp); have f8 := (K8.row R4.out.obj (by simp)).frozen 1; obtain ⟨ao8, m8, cp8, hm8, hv8⟩ := own_shape2 o8; subst hv8; have M8 := hide hm8; clear hm8))
      all_goals
        have R9 := hide (rb_retake (l' := l.take j ++ l.drop (j + 1)) R4.out (K8.mono (fun x hx => by simp at hx)) (.inr (by
          obtain ⟨bb, e⟩ : ∃ bb, (Value.slice ao8 m8 cp8).ownBlock = some bb := by
            cases ao8 with
            | none => exact absurd (by
                rcases o8.2 with ⟨h1, h2⟩ | ⟨g', cap', cur, h1, -⟩
                · exact h1
                · cases h1) (n8 (n7 (by simp)))
            | some x => exact ⟨_, rfl⟩
          exact ⟨bb, e, (o8.lt bb e).1⟩)) (by
            have e1 : (l.take j ++ l.drop (j + 1)).length = 0 + j + (l.length - (j + 1)) := by simp; omega
            rw [e1, flat_append]; exact own_base o8 hB4.out))
        have K9 := hide (show Kept (rfoot r ub (.slice (some ⟨g, 0, none⟩) l.length cap)) w (w8.setCell ⟨r, 1, none⟩ (.slice ao8 m8 cp8)) from (K4.out.next K8).setCell (p := ⟨r, 1, none⟩) (fun _ => mem_rfoot.2 (.inl rfl)) _)
        have B9 := hide (show ∀ x, (Value.slice ao8 m8 cp8).ownBlock = some x → (Value.slice (some ⟨g, 0, none⟩) l.length cap).ownBlock = some x ∨ w.heap.size ≤ x from fun x hx => .inr (by have := (o8.lt x hx).1; have := K4.out.size; omega))
        clear o7 g7 b7 n7 o8 g8 b8 n8 K7 K8 R4 N4 N5 L4 L5 hs1 hs2 s7 s8 f8 K4
        go_wp2_with fail
        go_ret
        exact ⟨_, rfl, R9.out, K9.out, B9.out⟩
end
end Go.Proofs.YtpljldjdemobbaaDoor.By
