
/-
  No statement of the program: the document's buddy of the statements: New, free, set, Free, over this seat's translation.
-/
import Derived.Test.YtpljldjdemobbaaDoorBPairs
namespace Go.Proofs.YtpljldjdemobbaaDoor.By
open Go.ChangeShapes Go.WideShapes Go.ChangeAt Go.RowKit
/-- The document's buddy at r: n frames, u says which are used, l which runs are taken (they lie in tv). -/
structure RB (w : World) (r ub n base : Nat) (u : Nat → Bool) (tv : Value) (l : List (Nat × Nat)) : Prop where
  obj : w.rowIs r 58 2 (fun i => if i = 0 then .slice (some ⟨ub, 0, none⟩) n n else tv)
  row : w.rowIs ub 4 n (fun i => .bool (u i))
  own : w.ownsRow base 49 2 tv l.length (flat l)
  ne : r ≠ ub
  nr : tv.ownBlock ≠ some r
  nu : tv.ownBlock ≠ some ub
/-- Its blocks. -/
def rfoot (r ub : Nat) (tv : Value) : List Nat := r :: ub :: tv.ownBlock.toList
theorem mem_rfoot {r ub x : Nat} {tv : Value} : x ∈ rfoot r ub tv ↔ x = r ∨ x = ub ∨ tv.ownBlock = some x := by simp [rfoot]
namespace RB
variable {w w' : World} {r ub n base : Nat} {u : Nat → Bool} {tv : Value} {l : List (Nat × Nat)} {G : List Nat}
theorem c0 (h : RB w r ub n base u tv l) : w.cell? ⟨r, 0, none⟩ = some (.slice (some ⟨ub, 0, none⟩) n n) := by rw [h.obj.cell (by omega)]; rfl
theorem c1 (h : RB w r ub n base u tv l) : w.cell? ⟨r, 1, none⟩ = some tv := by rw [h.obj.cell (by omega)]; rfl
theorem cu (h : RB w r ub n base u tv l) (i : Nat) (hi : i < n) : w.cell? ⟨ub, i, none⟩ = some (.bool (u i)) := h.row.cell hi
theorem kept (h : RB w r ub n base u tv l) (k : Kept G w w') (hG : ∀ x, x ∈ rfoot r ub tv → x ∉ G) : RB w' r ub n base u tv l :=
  ⟨k.row h.obj (hG _ (mem_rfoot.2 (.inl rfl))), k.row h.row (hG _ (mem_rfoot.2 (.inr (.inl rfl)))), own_far h.own k (fun _ hg => hG _ (mem_rfoot.2 (.inr (.inr hg)))), h.ne, h.nr, h.nu⟩
theorem kept0 (h : RB w r ub n base u tv l) (k : Kept [] w w') : RB w' r ub n base u tv l := h.kept k (fun _ _ => by simp)
theorem lt (h : RB w r ub n base u tv l) : ∀ x, x ∈ rfoot r ub tv → x < w.heap.size := by
  intro x hx
  rcases mem_rfoot.1 hx with rfl | rfl | hx
  · exact h.obj.lt
  · exact h.row.lt
  · exact (h.own.lt x hx).2
theorem congr {u' : Nat → Bool} (h : RB w r ub n base u tv l) (e : ∀ i, i < n → u i = u' i) : RB w r ub n base u' tv l :=
  ⟨h.obj, h.row.congr (fun i hi => by rw [e i hi]), h.own, h.ne, h.nr, h.nu⟩
end RB
section
variable {w : World} {r ub n base : Nat} {u : Nat → Bool} {tv : Value} {l : List (Nat × Nat)}
theorem info4 : (Tryd.prog.info? 4).map (fun i => (i.zero, i.size, i.bytes)) = some (some (.bool false), 1, 1) := by kernel_rfl
set_option maxHeartbeats 1000000 in
theorem rnew_ok (n : Nat) (hn : n ≤ 1024) {w : World} {ni : Int} (en : ni = n) :
    Calls Tryd.prog 25 #[.int .i64 ni] w fun e w' => ∃ r ub, e = .returned (.pointer (some ⟨r, 0, none⟩)) ∧ RB w' r ub n w.heap.size (fun _ => false) (.slice none 0 0) [] ∧ w.heap.size ≤ r ∧ w.heap.size ≤ ub ∧ Kept [] w w' := by
  subst en
  have hmk := run_make_row' (P := Tryd.prog) 56 4 (.bool false) 1 Tryd.underlying56 info4 rfl .i64 .i64 n (by omega) (by omega)
  have hobj := World.rowIs_alloc (w.alloc (.cells (madeCells #[.bool false] n) 4)) #[.slice (some ⟨w.heap.size, 0, none⟩) n n, .slice none 0 0] 58 (fun i => if i = 0 then .slice (some ⟨w.heap.size, 0, none⟩) n n else .slice none 0 0) (fun i hi => by
    have hi2 : i < 2 := hi
    rcases (show i = 0 ∨ i = 1 by omega) with e | e <;> (subst e; rfl))
  have HO := hide hobj
  clear hobj
  go_enter Tryd.func25, Tryd.ntmps25
  go_wp2
  go_ret
  exact ⟨w.heap.size + 1, w.heap.size, rfl, ⟨by simpa using HO.out, (World.rowIs_made w (.bool false) n 4).alloc _, World.ownsRow_nil _ _ _ _, by omega, (fun e => by cases e), (fun e => by cases e)⟩, by omega, Nat.le_refl _, ((Kept.refl [] w).alloc _).alloc _⟩
set_option maxHeartbeats 1000000 in
/-- Are all frames of a run free? -/
theorem rfree_yes (h : RB w r ub n base u tv l) (hn : n ≤ 1024) (q o : Nat) (ho : o ≤ 10) (hin : (q + 1) * 2 ^ o ≤ n) (hf : Fr u q o) {ai oi : Int} (ea : ai = ((q * 2 ^ o : Nat) : Int)) (eo : oi = o) :
    Calls Tryd.prog 38 #[.pointer (some ⟨r, 0, none⟩), .int .i64 ai, .int .i64 oi] w fun e w' => e = .returned (.bool true) ∧ Kept [] w w' := by
  subst eo
  have hfr : ∀ i, q * 2 ^ o ≤ i → i < q * 2 ^ o + 2 ^ o → u i = false := fun i h1 h2 => hf i (blk_iff.2 ⟨h1, h2⟩)
  obtain ⟨y, hyE⟩ : ∃ y : Nat, y = 2 ^ o := ⟨_, rfl⟩
  have hyV : Value.int .i64 (wrap64 ((2 : Int) ^ o)) = Value.int .i64 (y : Int) := by rw [hyE, shl1 ho]
  have hy1 : 1 ≤ y := by rw [hyE]; exact two_pos o
  rw [Nat.add_mul, Nat.one_mul] at hin
  rw [← hyE] at hin hfr ea
  obtain ⟨a, haE⟩ : ∃ a, a = q * y := ⟨_, rfl⟩
  rw [← haE] at hin hfr ea
  subst ea
  have c0 := h.c0
  have H := hide h
  have HU := hide hfr
  have hwA : IntKind.i64.wrap ((a : Int) + (y : Int)) = (a : Int) + (y : Int) := by rw [IntKind.wrap_i64]; omega
  have hdl : decide ((n : Int) < (a : Int) + (y : Int)) = false := by simp; omega
  clear h hf hyE haE hfr
  go_enter Tryd.func38, Tryd.ntmps38
  go_wp2_with fail
  go_quiet (fail)
  go_wp2_with fail
  go_loopw [7] (fun v wr => ∃ j : Nat, v = .int .i64 j ∧ a ≤ j ∧ j ≤ a + y ∧ Kept [] w wr) (fun v _ => a + y - (intOf v).toNat)
  case atStart => exact ⟨a, rfl, Nat.le_refl _, by omega, (Kept.refl [] w).drewN _⟩
  case round =>
    obtain ⟨j, rfl, hj1, hj2, hK⟩ := hrel
    have K := hide hK
    have d0 := hK.cell c0 (by simp)
    by_cases hj : j < a + y
    · have hji : (j : Int) < (a : Int) + (y : Int) := by omega
      have hj0 : (0 : Int) ≤ (j : Int) := by omega
      have hjn : (j : Int) < (n : Int) := by omega
      have cu := hK.cell (H.out.cu j (by omega)) (by simp)
      rw [HU.out j hj1 hj] at cu
      clear hK
      go_wp2
      go_roundw
      case rel => exact ⟨j + 1, by go_num, by omega, by omega, K.out⟩
      case measure => simp [intOf]; omega
    · have hji : ¬ (j : Int) < (a : Int) + (y : Int) := by omega
      clear hK
      go_wp2
      go_ret
      exact ⟨rfl, K.out⟩
set_option maxHeartbeats 1000000 in
theorem rfree_no (h : RB w r ub n base u tv l) (hn : n ≤ 1024) (q o : Nat) (ho : o ≤ 10) (hq : q * 2 ^ o ≤ n) (hf : n < (q + 1) * 2 ^ o ∨ ¬ Fr u q o) {ai oi : Int} (ea : ai = ((q * 2 ^ o : Nat) : Int)) (eo : oi = o) :
    Calls Tryd.prog 38 #[.pointer (some ⟨r, 0, none⟩), .int .i64 ai, .int .i64 oi] w fun e w' => e = .returned (.bool false) ∧ Kept [] w w' := by
  subst eo
  have hex : n < q * 2 ^ o + 2 ^ o ∨ (q * 2 ^ o + 2 ^ o ≤ n ∧ ∃ m, q * 2 ^ o ≤ m ∧ m < q * 2 ^ o + 2 ^ o ∧ u m = true) := by
    rw [Nat.add_mul, Nat.one_mul] at hf
    by_cases h1 : n < q * 2 ^ o + 2 ^ o
    · exact .inl h1
    · refine .inr ⟨by omega, ?_⟩
      have h2 := hf.resolve_left h1
      unfold Fr at h2
      obtain ⟨m, hm⟩ := Classical.not_forall.1 h2
      obtain ⟨hm1, hm2⟩ := Classical.not_imp.1 hm
      have := blk_iff.1 hm1
      exact ⟨m, this.1, this.2, by simpa using hm2⟩
  obtain ⟨y, hyE⟩ : ∃ y : Nat, y = 2 ^ o := ⟨_, rfl⟩
  have hyV : Value.int .i64 (wrap64 ((2 : Int) ^ o)) = Value.int .i64 (y : Int) := by rw [hyE, shl1 ho]
  have hy1 : 1 ≤ y := by rw [hyE]; exact two_pos o
  have hyu : y ≤ 1024 := by rw [hyE]; exact n1024 ho
  rw [← hyE] at hex ea hq
  obtain ⟨a, haE⟩ : ∃ a, a = q * y := ⟨_, rfl⟩
  rw [← haE] at hex ea hq
  subst ea
  have c0 := h.c0
  have H := hide h
  have hwA : IntKind.i64.wrap ((a : Int) + (y : Int)) = (a : Int) + (y : Int) := by rw [IntKind.wrap_i64]; omega
  clear h hf hyE haE
  rcases hex with hlt | ⟨hin, m, hm1, hm2, hm3⟩
  · have hdl : decide ((n : Int) < (a : Int) + (y : Int)) = true := by simp; omega
    go_enter Tryd.func38, Tryd.ntmps38
    go_wp2_with fail
    go_quiet (fail)
    go_wp2
    go_ret
    exact ⟨rfl, (Kept.refl [] w).drewN _⟩
  · have hdl : decide ((n : Int) < (a : Int) + (y : Int)) = false := by simp; omega
    have HM := hide hm3
    clear hm3
    go_enter Tryd.func38, Tryd.ntmps38
    go_wp2_with fail
    go_quiet (fail)
    go_wp2_with fail
    go_loopw [7] (fun v wr => ∃ j : Nat, v = .int .i64 j ∧ a ≤ j ∧ j ≤ m ∧ Kept [] w wr) (fun v _ => a + y - (intOf v).toNat)
    case atStart => exact ⟨a, rfl, Nat.le_refl _, by omega, (Kept.refl [] w).drewN _⟩
    case round =>
      obtain ⟨j, rfl, hj1, hj2, hK⟩ := hrel
      have K := hide hK
      have d0 := hK.cell c0 (by simp)
      have hji : (j : Int) < (a : Int) + (y : Int) := by omega
      have hj0 : (0 : Int) ≤ (j : Int) := by omega
      have hjn : (j : Int) < (n : Int) := by omega
      have cu := hK.cell (H.out.cu j (by omega)) (by simp)
      clear hK
      cases huj : u j with
      | true =>
        rw [huj] at cu
        go_wp2
        go_ret
        exact ⟨rfl, K.out⟩
      | false =>
        rw [huj] at cu
        have hjm : j < m := by
          by_cases e : j = m
          · subst e; rw [HM.out] at huj; cases huj
          · omega
        clear huj
        go_wp2
        go_roundw
        case rel => exact ⟨j + 1, by go_num, by omega, by omega, K.out⟩
        case measure => simp [intOf]; omega
end
section
variable {w : World} {r ub n base : Nat} {u : Nat → Bool} {tv : Value} {l : List (Nat × Nat)}
set_option maxHeartbeats 1000000 in
theorem rset_ok (h : RB w r ub n base u tv l) (hn : n ≤ 1024) (q o : Nat) (ho : o ≤ 10) (hin : (q + 1) * 2 ^ o ≤ n) (b : Bool) {ai oi : Int} (ea : ai = ((q * 2 ^ o : Nat) : Int)) (eo : oi = o) :
    Calls Tryd.prog 37 #[.pointer (some ⟨r, 0, none⟩), .int .i64 ai, .int .i64 oi, .bool b] w fun e w' => ∃ v, e = .returned v ∧ RB w' r ub n base (upd u q o b) tv l ∧ Kept [ub] w w' := by
  subst eo
  have hblk : ∀ i, i / 2 ^ o = q ↔ q * 2 ^ o ≤ i ∧ i < q * 2 ^ o + 2 ^ o := fun i => blk_iff
  obtain ⟨y, hyE⟩ : ∃ y : Nat, y = 2 ^ o := ⟨_, rfl⟩
  have hyV : Value.int .i64 (wrap64 ((2 : Int) ^ o)) = Value.int .i64 (y : Int) := by rw [hyE, shl1 ho]
  have hy1 : 1 ≤ y := by rw [hyE]; exact two_pos o
  have hupd : upd u q o b = fun i => if q * y ≤ i ∧ i < q * y + y then b else u i := by
    funext i
    unfold upd
    by_cases h1 : i / 2 ^ o = q
    · rw [if_pos h1, if_pos (by rw [hyE]; exact (hblk i).1 h1)]
    · rw [if_neg h1, if_neg (by rw [hyE]; exact fun h2 => h1 ((hblk i).2 h2))]
  rw [Nat.add_mul, Nat.one_mul] at hin
  rw [hupd]
  rw [← hyE] at hin ea
  obtain ⟨a, haE⟩ : ∃ a, a = q * y := ⟨_, rfl⟩
  rw [← haE] at hin ea ⊢
  subst ea
  have H := hide h
  clear h hyE haE hblk hupd
  go_enter Tryd.func37, Tryd.ntmps37
  go_wp2_with fail
  go_loopw [8] (fun v wr => ∃ j : Nat, v = .int .i64 j ∧ a ≤ j ∧ j ≤ a + y ∧ RB wr r ub n base (fun i => if a ≤ i ∧ i < j then b else u i) tv l ∧ Kept [ub] w wr) (fun v _ => a + y - (intOf v).toNat)
  case atStart => exact ⟨a, rfl, Nat.le_refl _, by omega, H.out.congr (fun i _ => by rw [if_neg (by omega)]), Kept.refl _ _⟩
  case round =>
    obtain ⟨j, rfl, hj1, hj2, hR, hK⟩ := hrel
    have K := hide hK
    have R := hide hR
    have d0 := hR.c0
    clear H
    by_cases hj : j < a + y
    · have hji : (j : Int) < (a : Int) + (y : Int) := by omega
      have hj0 : (0 : Int) ≤ (j : Int) := by omega
      have hjn : (j : Int) < (n : Int) := by omega
      have cu := hR.cu j (by omega)
      have cf := hR.row.frozen j
      have R2 := hide (show RB (wr.setCell ⟨ub, j, none⟩ (.bool b)) r ub n base (fun i => if a ≤ i ∧ i < j + 1 then b else u i) tv l from by
        refine ⟨hR.obj.setOther (by simpa using hR.ne) _, (hR.row.set j (.bool b)).congr (fun i hi => ?_), own_far hR.own ((Kept.refl [ub] wr).setCell (p := ⟨ub, j, none⟩) (fun _ => by simp) _) (fun g hg hm => hR.nu (by rw [hg, List.mem_singleton.1 hm])), hR.ne, hR.nr, hR.nu⟩
        by_cases hij : i = j
        · subst hij; rw [if_pos rfl, if_pos (by omega)]
        · rw [if_neg hij]
          by_cases h4 : a ≤ i ∧ i < j
          · rw [if_pos h4, if_pos (by omega)]
          · rw [if_neg h4, if_neg (by omega)])
      have K2 := hide (hK.setCell (p := ⟨ub, j, none⟩) (fun _ => by simp) (.bool b))
      clear hK hR R K
      go_wp2
      go_roundw
      case rel => exact ⟨j + 1, by go_num, by omega, by omega, R2.out, K2.out⟩
      case measure => simp [intOf]; omega
    · have hji : ¬ (j : Int) < (a : Int) + (y : Int) := by omega
      have hje : j = a + y := by omega
      subst hje
      clear hK hR
      go_wp2
      go_end0
      exact ⟨⟨_, rfl⟩, R.out, K.out⟩
/-- How many frames are free. -/
def cnt (n : Nat) (u : Nat → Bool) : Nat := (List.range n).countP (fun i => !u i)
theorem cnt_succ (n : Nat) (u : Nat → Bool) : cnt (n + 1) u = cnt n u + if u n = false then 1 else 0 := by
  unfold cnt
  rw [List.range_succ, List.countP_append]
  cases h : u n <;> simp [h]
theorem cnt_le (u : Nat → Bool) : ∀ n, cnt n u ≤ n
  | 0 => Nat.le_refl _
  | n + 1 => by rw [cnt_succ]; have := cnt_le u n; split <;> omega
set_option maxHeartbeats 1000000 in
theorem rcount_ok (h : RB w r ub n base u tv l) (hn : n ≤ 1024) : Calls Tryd.prog 17 #[.pointer (some ⟨r, 0, none⟩)] w fun e w' => e = .returned (.int .i64 (cnt n u)) ∧ Kept [] w w' := by
  have H := hide h
  have c0 := h.c0
  clear h
  go_enter Tryd.func17, Tryd.ntmps17
  go_wp2_with fail
  go_loop [3, 4] (fun c v => ∃ j : Nat, v = .int .i64 j ∧ j ≤ n ∧ c = .int .i64 (cnt j u)) (fun _ v => n - (intOf v).toNat)
  case atStart => exact ⟨0, rfl, by omega, rfl⟩
  case round =>
    obtain ⟨j, rfl, hj, rfl⟩ := hrel
    have hc := cnt_le u j
    by_cases hlt : j < n
    · have hj0 : (0 : Int) ≤ (j : Int) := by omega
      have hjn : (j : Int) < (n : Int) := by omega
      have cu := H.out.cu j hlt
      have HS := hide (cnt_succ j u)
      cases huj : u j with
      | true =>
        rw [huj] at cu
        rw [huj] at HS
        clear huj
        go_wp2
        go_round
        case rel => exact ⟨j + 1, by go_num, by omega, by rw [HS.out]; simp⟩
        case measure => simp [intOf]; omega
      | false =>
        rw [huj] at cu
        rw [huj] at HS
        clear huj
        go_wp2
        go_round
        case rel => exact ⟨j + 1, by go_num, by omega, by rw [HS.out]; simp⟩
        case measure => simp [intOf]; omega
    · have hjn : ¬ (j : Int) < (n : Int) := by omega
      have hje : j = n := by omega
      subst hje
      go_wp2
      go_ret
      exact ⟨rfl, Kept.refl _ _⟩
end
end Go.Proofs.YtpljldjdemobbaaDoor.By
