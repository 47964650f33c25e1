
/-
  No statement of the program: the laws' own small check, and the document's span, over this seat's translation.
-/
import Derived.Test.YtfkekjnbjepaaaaDoorSpn3
namespace Go.Proofs.YtfkekjnbjepaaaaDoor.Sp
open Go.ChangeShapes Go.WideShapes Go.ChangeAt Go.RowKit Cl
section
variable {w : World} {p tb : Nat} {c sz : Int} {n : Nat} {u : Nat → Bool}
theorem take_at (h : SA w p tb c sz n u) (hn : 0 < n ∧ n ≤ 8) (i : Nat) (hi : i < n) (hu : u i = false) (hall : ∀ j, j < i → u j = true) : Calls Tryd.prog 6 #[.pointer (some ⟨p, 0, none⟩)] w fun e w' =>
    e = .returned (.tuple #[.int .i64 i, .int .i64 0]) ∧ SA w' p tb c sz n (up u i true) ∧ Kept [tb] w w' := by
  refine (take_any h hn).mono ?_
  rintro e w' (⟨-, h1, -⟩ | ⟨k, rfl, hk, hk2, hk3, hs, hkk⟩)
  · have := h1 i hi
    rw [hu] at this; cases this
  · have : k = i := by
      by_cases e1 : k < i
      · have := hall k e1
        rw [hk2] at this; cases this
      · by_cases e2 : i < k
        · have := hk3 i e2
          rw [hu] at this; cases this
        · omega
    subst this
    exact ⟨rfl, hs, hkk⟩
theorem take_full (h : SA w p tb c sz n u) (hn : 0 < n ∧ n ≤ 8) (hall : ∀ j, j < n → u j = true) : Calls Tryd.prog 6 #[.pointer (some ⟨p, 0, none⟩)] w fun e w' =>
    e = .returned (.tuple #[.int .i64 0, .int .i64 14]) ∧ w' = w := by
  refine (take_any h hn).mono ?_
  rintro e w' (⟨rfl, -, rfl⟩ | ⟨k, -, hk, hk2, -⟩)
  · exact ⟨rfl, rfl⟩
  · have := hall k hk
    rw [hk2] at this; cases this
theorem give_at (h : SA w p tb c sz n u) (hn : 0 < n ∧ n ≤ 8) (i : Nat) (hi : i < n) (hu : u i = true) : Calls Tryd.prog 9 #[.pointer (some ⟨p, 0, none⟩), .int .i64 i] w fun e w' =>
    e = .returned (.int .i64 0) ∧ SA w' p tb c sz n (up u i false) ∧ Kept [tb] w w' := by
  have hh : hasB n u i = true := by unfold hasB; rw [decide_eq_true (by omega)]; simpa using hu
  refine (give_any h hn i).mono ?_
  rintro e w' (⟨-, h1, -⟩ | ⟨rfl, -, hs, hk⟩)
  · rw [hh] at h1; cases h1
  · exact ⟨rfl, hs, hk⟩
theorem give_no (h : SA w p tb c sz n u) (hn : 0 < n ∧ n ≤ 8) (i : Nat) (hu : u i = false) : Calls Tryd.prog 9 #[.pointer (some ⟨p, 0, none⟩), .int .i64 i] w fun e w' =>
    e = .returned (.int .i64 6) ∧ w' = w := by
  have hh : hasB n u i = false := by unfold hasB; simp [hu]
  refine (give_any h hn i).mono ?_
  rintro e w' (⟨rfl, -, hw⟩ | ⟨-, h1, -⟩)
  · exact ⟨rfl, hw⟩
  · rw [hh] at h1; cases h1
theorem cz1 : CZ 1 4 16 := ⟨by decide, by decide, by decide, by decide, by decide⟩
set_option maxHeartbeats 1000000 in
theorem spans_true (hT : Tab w) : Calls Tryd.prog 8 #[] w fun e w' => e = .returned (.bool true) ∧ Kept [] w w' := by
  have T := hide hT
  clear hT
  go_enter Tryd.func8, Tryd.ntmps8
  go_wp2_with fail
  refine (new_ok 1 cz1 T.out).mono ?_
  rintro e w1 ⟨p, tb, rfl, hs, hp, ht, hk⟩
  have S := hide hs
  have K := hide hk
  have HT := hide ht
  clear hs hk hp ht T
  go_wp2_with fail
  refine (take_at S.out (by decide) 0 (by decide) rfl (fun j hj => by omega)).mono ?_
  rintro e w2 ⟨rfl, hs, hk⟩
  have S2 := hide hs
  have K2 := hide (K.out.trans hk (fun x hx hl => by simp at hx; have := HT.out; omega))
  clear hs hk S K
  go_wp2_with fail
  refine (take_at S2.out (by decide) 1 (by decide) rfl (fun j hj => by
    obtain rfl : j = 0 := by omega
    rfl)).mono ?_
  rintro e w3 ⟨rfl, hs, hk⟩
  have S3 := hide hs
  have K3 := hide (K2.out.trans hk (fun x hx hl => by simp at hx; have := HT.out; omega))
  clear hs hk S2 K2
  go_wp2_with fail
  refine (give_at S3.out (by decide) 0 (by decide) rfl).mono ?_
  rintro e w4 ⟨rfl, hs, hk⟩
  have S4 := hide hs
  have K4 := hide (K3.out.trans hk (fun x hx hl => by simp at hx; have := HT.out; omega))
  clear hs hk S3 K3
  go_wp2_with fail
  refine (take_at S4.out (by decide) 0 (by decide) rfl (fun j hj => by omega)).mono ?_
  rintro e w5 ⟨rfl, hs, hk⟩
  have S5 := hide hs
  have K5 := hide (K4.out.trans hk (fun x hx hl => by simp at hx; have := HT.out; omega))
  clear hs hk S4 K4
  go_wp2_with fail
  refine (idx_nat S5.out (by decide) 16 32 rfl (by decide) (by decide)).mono ?_
  rintro e w6 ⟨hi, hk⟩
  have K6 := hide (K5.out.next hk)
  clear hk K5 S5 HT
  rcases hi with ⟨-, -, rfl⟩ | ⟨h1, -⟩
  · go_wp2
    go_ret
    exact ⟨rfl, K6.out⟩
  · exact absurd (by decide) h1

/-- The document's span. -/
structure RA (w : World) (r rb : Nat) (c : Int) (n : Nat) (u : Nat → Bool) : Prop where
  row : w.rowIs r 41 2 (fun i => if i = 0 then .int .i64 c else .slice (some ⟨rb, 0, none⟩) n n)
  tab : w.rowIs rb 4 n (fun i => .bool (u i))
  ne : r ≠ rb
end
section
variable {w : World} {r rb : Nat} {c : Int} {n : Nat} {u : Nat → Bool}
theorem RA.kept {w' : World} {F : List Nat} (h : RA w r rb c n u) (k : Kept F w w') (h1 : r ∉ F) (h2 : rb ∉ F) : RA w' r rb c n u := ⟨k.row h.row h1, k.row h.tab h2, h.ne⟩
theorem RA.kept0 {w' : World} (h : RA w r rb c n u) (k : Kept [] w w') : RA w' r rb c n u := h.kept k (by simp) (by simp)
theorem RA.f1 (h : RA w r rb c n u) : w.cell? ⟨r, 1, none⟩ = some (.slice (some ⟨rb, 0, none⟩) n n) := h.row.cell (i := 1) (by omega)
theorem RA.at (h : RA w r rb c n u) {i : Nat} (hi : i < n) : w.cell? ⟨rb, i, none⟩ = some (.bool (u i)) := h.tab.cell (i := i) hi
theorem RA.put (h : RA w r rb c n u) {i : Nat} (_hi : i < n) (b : Bool) : RA (w.setCell ⟨rb, i, none⟩ (.bool b)) r rb c n (up u i b) ∧ Kept [rb] w (w.setCell ⟨rb, i, none⟩ (.bool b)) := by
  have k : Kept [rb] w (w.setCell ⟨rb, i, none⟩ (.bool b)) := (Kept.refl [rb] w).setCell (fun _ => by simp) _
  refine ⟨⟨k.row h.row (by simpa using h.ne), ?_, h.ne⟩, k⟩
  have := h.tab.set i (.bool b)
  refine World.rowIs.congr this fun j hj => ?_
  unfold up
  by_cases e : j = i <;> simp [e]
theorem ra_new (w : World) (c : Int) (n : Nat) : RA ((w.alloc (.cells (madeCells #[.bool false] n) 4)).alloc (.cells #[.int .i64 c, .slice (some ⟨w.heap.size, 0, none⟩) n n] 41)) (w.heap.size + 1) w.heap.size c n (fun _ => false) ∧
    Kept [] w ((w.alloc (.cells (madeCells #[.bool false] n) 4)).alloc (.cells #[.int .i64 c, .slice (some ⟨w.heap.size, 0, none⟩) n n] 41)) := by
  have k1 := (Kept.refl [] w).alloc (.cells (madeCells #[.bool false] n) 4)
  have r1 := World.rowIs_made w (.bool false) n 4
  have sz1 : (w.alloc (.cells (madeCells #[.bool false] n) 4)).heap.size = w.heap.size + 1 := Array.size_push _
  generalize w.alloc (.cells (madeCells #[.bool false] n) 4) = w1 at *
  have k2 := (Kept.refl [] w1).alloc (.cells #[.int .i64 c, .slice (some ⟨w.heap.size, 0, none⟩) n n] 41)
  have r2 := World.rowIs_alloc w1 #[.int .i64 c, .slice (some ⟨w.heap.size, 0, none⟩) n n] 41 (fun i => if i = 0 then .int .i64 c else .slice (some ⟨w.heap.size, 0, none⟩) n n) (by
    intro i hi
    match i, hi with
    | 0, _ => rfl
    | 1, _ => rfl)
  rw [sz1] at r2
  exact ⟨⟨r2, k2.row r1 (by simp), by omega⟩, k1.next k2⟩
set_option maxHeartbeats 1000000 in
theorem rused_any (h : RA w r rb c n u) (hn : 0 < n ∧ n ≤ 8) : Calls Tryd.prog 19 #[.pointer (some ⟨r, 0, none⟩)] w fun e w' => e = .returned (.int .i64 (cnt u n : Nat)) ∧ w' = w := by
  have f1 := h.f1
  have H := hide h
  have hn8 := hn.2
  clear h hn
  go_enter Tryd.func19, Tryd.ntmps19
  go_wp2
  go_loop [3, 4] (fun x v => ∃ k : Nat, k ≤ n ∧ v = .int .i64 k ∧ x = .int .i64 (cnt u k : Nat)) (fun x v => n - (intOf v).toNat)
  case atStart => exact ⟨0, Nat.zero_le _, rfl, rfl⟩
  case round =>
    obtain ⟨k, hk, rfl, rfl⟩ := hrel
    by_cases hkn : k < n
    · have hc := H.out.at hkn
      have hcl := cnt_le u k
      cases hu : u k with
      | true =>
        rw [hu] at hc
        have e : cnt u (k + 1) = cnt u k + 1 := by simp [cnt, hu]
        have E := hide e
        clear e hu
        generalize cnt u k = m at *
        go_wp2
        go_round
        case rel => exact ⟨k + 1, hkn, by go_num, by rw [E.out]; go_num⟩
        case measure => simp [intOf]; omega
      | false =>
        rw [hu] at hc
        have e : cnt u (k + 1) = cnt u k := by simp [cnt, hu]
        have E := hide e
        clear e hu
        generalize cnt u k = m at *
        go_wp2
        go_round
        case rel => exact ⟨k + 1, hkn, by go_num, by rw [E.out]⟩
        case measure => simp [intOf]; omega
    · obtain rfl : k = n := by omega
      go_wp2
      go_ret
      exact ⟨rfl, rfl⟩
set_option maxHeartbeats 1000000 in
theorem rtake_any (h : RA w r rb c n u) (hn : 0 < n ∧ n ≤ 8) : Calls Tryd.prog 18 #[.pointer (some ⟨r, 0, none⟩)] w fun e w' =>
    (e = .returned (.tuple #[.int .i64 0, .int .i64 14]) ∧ (∀ j, j < n → u j = true) ∧ w' = w) ∨
    ∃ i : Nat, e = .returned (.tuple #[.int .i64 i, .int .i64 0]) ∧ i < n ∧ u i = false ∧ (∀ j, j < i → u j = true) ∧ RA w' r rb c n (up u i true) ∧ Kept [rb] w w' := by
  have f1 := h.f1
  have H := hide h
  have hn8 := hn.2
  clear h hn
  go_enter Tryd.func18, Tryd.ntmps18
  go_wp2
  go_loop [4] (fun v => ∃ k : Nat, k ≤ n ∧ v = .int .i64 k ∧ ∀ j, j < k → u j = true) (fun v => n - (intOf v).toNat)
  case atStart => exact ⟨0, Nat.zero_le _, rfl, fun j hj => by omega⟩
  case round =>
    obtain ⟨k, hk, rfl, hall⟩ := hrel
    have HA := hide hall
    clear hall
    by_cases hkn : k < n
    · have hc := H.out.at hkn
      cases hu : u k with
      | true =>
        rw [hu] at hc
        have HU := hide hu
        clear hu
        go_wp2
        go_round
        case rel => exact ⟨k + 1, hkn, by go_num, fun j hj => by
          by_cases e : j = k
          · rw [e]; exact HU.out
          · exact HA.out j (by omega)⟩
        case measure => simp [intOf]; omega
      | false =>
        rw [hu] at hc
        have HU := hide hu
        have hz := H.out.tab.frozen k
        obtain ⟨hs, hkk⟩ := H.out.put hkn true
        have HS := hide hs
        have HK := hide hkk
        clear hu hs hkk
        go_wp2
        go_ret2
        exact .inr ⟨k, rfl, hkn, HU.out, HA.out, HS.out, HK.out⟩
    · go_wp2
      go_ret2
      exact .inl ⟨rfl, fun j hj => HA.out j (by omega), rfl⟩
set_option maxHeartbeats 1000000 in
theorem rgive_any (h : RA w r rb c n u) (hn : 0 < n ∧ n ≤ 8) (i : Int) : Calls Tryd.prog 17 #[.pointer (some ⟨r, 0, none⟩), .int .i64 i] w fun e w' =>
    (e = .returned (.int .i64 6) ∧ hasB n u i = false ∧ w' = w) ∨
    (e = .returned (.int .i64 0) ∧ hasB n u i = true ∧ RA w' r rb c n (up u i.toNat false) ∧ Kept [rb] w w') := by
  have f1 := h.f1
  have H := hide h
  have hn8 := hn.2
  clear h hn
  go_enter Tryd.func17, Tryd.ntmps17
  by_cases h0 : 0 ≤ i
  · by_cases h1 : i < n
    · obtain ⟨k, rfl⟩ : ∃ k : Nat, i = k := ⟨i.toNat, by omega⟩
      have hk : k < n := by omega
      have hc := H.out.at hk
      have e : hasB n u k = u k := by unfold hasB; rw [decide_eq_true (by omega)]; simp
      have E := hide e
      clear e
      cases hu : u k with
      | false =>
        rw [hu] at hc
        have HU := hide hu
        clear hu
        go_wp2
        go_ret
        exact .inl ⟨rfl, E.out.trans HU.out, rfl⟩
      | true =>
        rw [hu] at hc
        have HU := hide hu
        have hz := H.out.tab.frozen k
        obtain ⟨hs, hkk⟩ := H.out.put hk false
        have HS := hide hs
        have HK := hide hkk
        clear hs hkk hu
        go_wp2
        go_ret
        exact .inr ⟨rfl, E.out.trans HU.out, HS.out, HK.out⟩
    · have e : hasB n u i = false := by unfold hasB; rw [decide_eq_false (by omega)]; simp
      have E := hide e
      clear e
      go_wp2
      go_ret
      exact .inl ⟨rfl, E.out, rfl⟩
  · have e : hasB n u i = false := by unfold hasB; rw [decide_eq_false (by omega)]; simp
    have E := hide e
    clear e
    go_wp2
    go_ret
    exact .inl ⟨rfl, E.out, rfl⟩
set_option maxHeartbeats 1000000 in
theorem rnew_ok (c : Nat) {sz : Int} (hz : CZ c n sz) (w : World) : Calls Tryd.prog 16 #[.int .i64 c] w fun e w' => ∃ r rb, e = .returned (.pointer (some ⟨r, 0, none⟩)) ∧ RA w' r rb c n (fun _ => false) ∧ w.heap.size ≤ r ∧ w.heap.size ≤ rb ∧ Kept [] w w' := by
  have hf := rrow_at c ⟨by omega, by have := hz.c4; omega⟩ w
  rw [hz.count] at hf
  generalize tells c 0 = z0 at hf
  generalize tells c 1 = z1 at hf
  have HF := hide hf
  obtain ⟨n1, n2⟩ := hz.pos
  have hmk := run_make_row' (P := Tryd.prog) 39 4 (.bool false) 1 Tryd.underlying39 info rfl .i64 .i64 n (by omega) (by omega)
  have hix : ∀ w : World, (Instr.index 42 (.agg #[.int .i64 z0, .int .i64 z1, .int .i64 n]) (.int .i64 2)).run Tryd.prog w = .ok (.int .i64 n) w := fun _ => by kernel_rfl
  clear hf
  go_enter Tryd.func16, Tryd.ntmps16
  go_wp2_with fail
  refine HF.out.mono ?_
  rintro e w1 ⟨rfl, hk⟩
  have K := hide hk
  clear hk HF
  go_wp2
  obtain ⟨hs, hk⟩ := ra_new w1 c n
  go_ret
  exact ⟨_, _, rfl, hs, Nat.le_succ_of_le K.out.size, K.out.size, K.out.next hk⟩
end
end Go.Proofs.YtfkekjnbjepaaaaDoor.Sp
