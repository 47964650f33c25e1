
/-
  No statement of the program: a new log, and calls that are refused, over this seat's translation.
-/
import Derived.Test.YtbejafjpdplofaaSts4
namespace Go.Proofs.Ytbejafjpdplofaa.St
open Go.ChangeShapes Go.WideShapes Go.ChangeAt Go.RowKit By
def zC : Value := .agg #[.int .i64 0, .int .i64 0, .int .i64 0, .int .i64 0, .int .i64 0, .int .i64 0]
theorem zCcells : zC.cells = #[.int .i64 0, .int .i64 0, .int .i64 0, .int .i64 0, .int .i64 0, .int .i64 0] := rfl
theorem infoC : ∃ i, Try.prog.info? 24 = some i ∧ i.zero = some zC ∧ i.size = 6 ∧ i.bytes = 48 := by
  have h : (Try.prog.info? 24).map (fun i => (i.zero, i.size, i.bytes)) = some (some zC, 6, 48) := by kernel_rfl
  obtain ⟨ti, hti, hz⟩ := Option.map_eq_some_iff.1 h
  simp only [Prod.mk.injEq] at hz
  exact ⟨ti, hti, hz.1, hz.2.1, hz.2.2⟩
theorem rowIs_made6 (w : World) (n : Nat) (t : TypeId) : (w.alloc (.cells (madeCells zC.cells n) t)).rowIs w.heap.size t n (fun _ => .int .i64 0) := by
  have h := (World.rowIs_alloc w (madeCells zC.cells n) t (fun _ => .int .i64 0) (fun i hi => by
    rw [size_madeCells] at hi
    have h6 : i % 6 < 6 := Nat.mod_lt _ (by omega)
    have e : (madeCells zC.cells n)[i]? = some (zC.cells[i % 6]!) := by simp [madeCells, hi, zCcells]
    rw [e, zCcells]
    generalize i % 6 = q at h6
    match q, h6 with
    | 0, _ => rfl
    | 1, _ => rfl
    | 2, _ => rfl
    | 3, _ => rfl
    | 4, _ => rfl
    | 5, _ => rfl))
  rw [size_madeCells] at h
  exact h
theorem la_new (w : World) (n : Nat) : LA ((w.alloc (.cells (madeCells #[.int .i64 0, .int .i64 0, .int .i64 0, .int .i64 0, .int .i64 0, .int .i64 0] (n * 6)) 24)).alloc (.cells #[.slice (some ⟨w.heap.size, 0, none⟩) n n, .slice none 0 0] 49)) (w.heap.size + 1) w.heap.size n (.slice none 0 0) [] ∧
    Kept [] w ((w.alloc (.cells (madeCells #[.int .i64 0, .int .i64 0, .int .i64 0, .int .i64 0, .int .i64 0, .int .i64 0] (n * 6)) 24)).alloc (.cells #[.slice (some ⟨w.heap.size, 0, none⟩) n n, .slice none 0 0] 49)) := by
  have k1 := (Kept.refl [] w).alloc (.cells (madeCells #[.int .i64 0, .int .i64 0, .int .i64 0, .int .i64 0, .int .i64 0, .int .i64 0] (n * 6)) 24)
  have r1 := rowIs_made6 w (n * 6) 24
  rw [zCcells] at r1
  have sz1 : (w.alloc (.cells (madeCells #[.int .i64 0, .int .i64 0, .int .i64 0, .int .i64 0, .int .i64 0, .int .i64 0] (n * 6)) 24)).heap.size = w.heap.size + 1 := Array.size_push _
  generalize w.alloc (.cells (madeCells #[.int .i64 0, .int .i64 0, .int .i64 0, .int .i64 0, .int .i64 0, .int .i64 0] (n * 6)) 24) = w1 at *
  have k2 := (Kept.refl [] w1).alloc (.cells #[.slice (some ⟨w.heap.size, 0, none⟩) n n, .slice none 0 0] 49)
  have r2 := World.rowIs_alloc w1 #[.slice (some ⟨w.heap.size, 0, none⟩) n n, .slice none 0 0] 49 (fun i => if i = 0 then .slice (some ⟨w.heap.size, 0, none⟩) n n else .slice none 0 0) (by
    intro i hi
    match i, hi with
    | 0, _ => rfl
    | 1, _ => rfl)
  rw [sz1] at r2
  exact ⟨⟨⟨r2, k2.row r1 (by simp), by omega⟩, World.ownsRow_nil _ _ _ _, (fun h => by cases h), (fun h => by cases h)⟩, k1.next k2⟩
set_option maxHeartbeats 1000000 in
theorem new_ok (n : Nat) (h1 : 1 ≤ n) (h8 : n ≤ 8) (w : World) : Calls Try.prog 11 #[.int .i64 n] w fun e w' => ∃ p cb, e = .returned (.tuple #[.pointer (some ⟨p, 0, none⟩), .int .i64 0]) ∧ LA w' p cb n (.slice none 0 0) [] ∧ (∀ b, b ∈ foot p cb (.slice none 0 0) → w.heap.size ≤ b) ∧ Kept [] w w' := by
  obtain ⟨i, hi, hz, hs, hb⟩ := infoC
  have hmk : ∀ w : World, (Instr.makeSlice 47 (.int .i64 (n : Int)) (.int .i64 (n : Int))).run Try.prog w = .ok (.slice (some ⟨w.heap.size, 0, none⟩) n n) (w.alloc (.cells (madeCells #[.int .i64 0, .int .i64 0, .int .i64 0, .int .i64 0, .int .i64 0, .int .i64 0] (n * 6)) 24)) := fun w => by
    have := run_make (P := Try.prog) w 47 24 i zC Try.underlying47 hi hz .i64 .i64 n n (by omega) (by omega) (by rw [hb]; omega) (by omega)
    rw [hs, zCcells] at this
    simpa using this
  obtain ⟨r1, r2⟩ := la_new w n
  have R1 := hide r1
  have R2 := hide r2
  clear hi hz hs hb r1 r2
  go_enter Try.func11, Try.ntmps11
  go_wp2
  go_ret2
  refine ⟨_, _, rfl, R1.out, fun b hb => ?_, R2.out⟩
  rcases mem_foot.1 hb with e | e | e
  · omega
  · omega
  · cases e
theorem new_no (x : Int) (h : x < 1 ∨ 8 < x) (w : World) : Calls Try.prog 11 #[.int .i64 x] w fun e w' => e = .returned (.tuple #[.pointer none, .int .i64 3]) ∧ w' = w := by
  rcases h with h | h
  · go_enter Try.func11, Try.ntmps11
    go_wp2
    go_ret2
    exact ⟨rfl, rfl⟩
  · have h1 : ¬ x < 1 := by omega
    go_enter Try.func11, Try.ntmps11
    go_wp2
    go_ret2
    exact ⟨rfl, rfl⟩
theorem node_nil (x : Int) (w : World) : Calls Try.prog 7 #[.pointer none, .int .i64 x] w fun e w' => e = .returned (.tuple #[zC, .int .i64 1]) ∧ Kept [] w w' := by
  have KA := hide ((Kept.refl [] w).alloc (.cells #[.int .i64 0, .int .i64 0, .int .i64 0, .int .i64 0, .int .i64 0, .int .i64 0] 24))
  have r0 := row6 w 24 (.int .i64 0) (.int .i64 0) (.int .i64 0) (.int .i64 0) (.int .i64 0) (.int .i64 0) 0 (by omega)
  have r1 := row6 w 24 (.int .i64 0) (.int .i64 0) (.int .i64 0) (.int .i64 0) (.int .i64 0) (.int .i64 0) 1 (by omega)
  have r2 := row6 w 24 (.int .i64 0) (.int .i64 0) (.int .i64 0) (.int .i64 0) (.int .i64 0) (.int .i64 0) 2 (by omega)
  have r3 := row6 w 24 (.int .i64 0) (.int .i64 0) (.int .i64 0) (.int .i64 0) (.int .i64 0) (.int .i64 0) 3 (by omega)
  have r4 := row6 w 24 (.int .i64 0) (.int .i64 0) (.int .i64 0) (.int .i64 0) (.int .i64 0) (.int .i64 0) 4 (by omega)
  have r5 := row6 w 24 (.int .i64 0) (.int .i64 0) (.int .i64 0) (.int .i64 0) (.int .i64 0) (.int .i64 0) 5 (by omega)
  go_enter Try.func7, Try.ntmps7
  go_wp2_with (first | (go_at_call 14; refine (made_nil _).mono ?_; rintro e w' ⟨rfl, hw⟩; subst w'))
  generalize w.alloc (.cells #[.int .i64 0, .int .i64 0, .int .i64 0, .int .i64 0, .int .i64 0, .int .i64 0] 24) = w1 at r0 r1 r2 r3 r4 r5 KA ⊢
  refine bodyPost_ret (by simp [results, Try.results7, go_sem, r0, r1, r2, r3, r4, r5]; try rfl) rfl ?_
  exact ⟨rfl, KA.out⟩
section
variable {w : World} {p cb : Nat} {n : Nat} {ev : Value} {l : List Ev}
theorem has_no {g : Nat → Nat} (h : SC w p cb n ev g) {x : Int} (ha : ¬ (0 ≤ x ∧ x < n)) : Calls Try.prog 15 #[.pointer (some ⟨p, 0, none⟩), .int .i64 x] w fun e w' => e = .returned (.bool false) ∧ w' = w := by
  have := has_any h x
  rw [show inB n x = false from decide_eq_false ha] at this
  exact this
theorem has_yes' {g : Nat → Nat} (h : SC w p cb n ev g) {x : Int} (ha : 0 ≤ x ∧ x < n) : Calls Try.prog 15 #[.pointer (some ⟨p, 0, none⟩), .int .i64 x] w fun e w' => e = .returned (.bool true) ∧ w' = w := by
  have := has_any h x
  rw [show inB n x = true from decide_eq_true ha] at this
  exact this
set_option maxHeartbeats 1000000 in
theorem node_no {g : Nat → Nat} (h : SC w p cb n ev g) (hn0 : 0 < n) {x : Int} (hx : ¬ (0 ≤ x ∧ x < n)) : Calls Try.prog 7 #[.pointer (some ⟨p, 0, none⟩), .int .i64 x] w fun e w' => e = .returned (.tuple #[zC, .int .i64 10]) ∧ Kept [] w w' := by
  have KA := hide ((Kept.refl [] w).alloc (.cells #[.int .i64 0, .int .i64 0, .int .i64 0, .int .i64 0, .int .i64 0, .int .i64 0] 24))
  have H := hide (h.kept0 KA.out)
  have HX := hide hx
  have r0 := row6 w 24 (.int .i64 0) (.int .i64 0) (.int .i64 0) (.int .i64 0) (.int .i64 0) (.int .i64 0) 0 (by omega)
  have r1 := row6 w 24 (.int .i64 0) (.int .i64 0) (.int .i64 0) (.int .i64 0) (.int .i64 0) (.int .i64 0) 1 (by omega)
  have r2 := row6 w 24 (.int .i64 0) (.int .i64 0) (.int .i64 0) (.int .i64 0) (.int .i64 0) (.int .i64 0) 2 (by omega)
  have r3 := row6 w 24 (.int .i64 0) (.int .i64 0) (.int .i64 0) (.int .i64 0) (.int .i64 0) (.int .i64 0) 3 (by omega)
  have r4 := row6 w 24 (.int .i64 0) (.int .i64 0) (.int .i64 0) (.int .i64 0) (.int .i64 0) (.int .i64 0) 4 (by omega)
  have r5 := row6 w 24 (.int .i64 0) (.int .i64 0) (.int .i64 0) (.int .i64 0) (.int .i64 0) (.int .i64 0) 5 (by omega)
  clear h hx
  go_enter Try.func7, Try.ntmps7
  go_wp2_with (first | (go_at_call 14; refine (made_ok H.out hn0).mono ?_; rintro e w' ⟨rfl, hw⟩; subst w') | (go_at_call 15; refine (has_no H.out HX.out).mono ?_; rintro e w' ⟨rfl, hw⟩; subst w'))
  generalize w.alloc (.cells #[.int .i64 0, .int .i64 0, .int .i64 0, .int .i64 0, .int .i64 0, .int .i64 0] 24) = w1 at r0 r1 r2 r3 r4 r5 KA ⊢
  refine bodyPost_ret (by simp [results, Try.results7, go_sem, r0, r1, r2, r3, r4, r5]; try rfl) rfl ?_
  exact ⟨rfl, KA.out⟩
theorem add_nil (a b c : Int) (d : Bool) (w : World) : Calls Try.prog 9 #[.pointer none, .agg #[.int .i64 a, .int .i64 b, .int .i64 c, .bool d]] w fun e w' => e = .returned (.int .i64 1) ∧ Kept [] w w' := by
  have KA := hide ((Kept.refl [] w).alloc (.cells #[.int .i64 a, .int .i64 b, .int .i64 c, .bool d] 33))
  go_enter Try.func9, Try.ntmps9
  go_wp2_with (first | (go_at_call 14; refine (made_nil _).mono ?_; rintro e w' ⟨rfl, hw⟩; subst w'))
  go_ret
  exact ⟨rfl, KA.out⟩
set_option maxHeartbeats 2000000 in
theorem add_bad {g : Nat → Nat} (h : SC w p cb n ev g) (hn0 : 0 < n) (a b c : Int) (d : Bool) (hx : ¬ ((0 ≤ a ∧ a < n) ∧ (0 ≤ b ∧ b < n) ∧ (0 ≤ c ∧ c < n))) : Calls Try.prog 9 #[.pointer (some ⟨p, 0, none⟩), .agg #[.int .i64 a, .int .i64 b, .int .i64 c, .bool d]] w fun e w' => e = .returned (.int .i64 10) ∧ Kept [] w w' := by
  have KA := hide ((Kept.refl [] w).alloc (.cells #[.int .i64 a, .int .i64 b, .int .i64 c, .bool d] 33))
  obtain ⟨e0, e1, e2, e3⟩ := ev_alloc w a b c d
  have H := hide (h.kept0 KA.out)
  have HX := hide hx
  clear h hx
  have hh : inB n a = false ∨ inB n a = true ∧ (inB n b = false ∨ inB n b = true ∧ inB n c = false) := by
    have := HX.out
    unfold inB
    by_cases ha : 0 ≤ a ∧ a < n
    · by_cases hb : 0 ≤ b ∧ b < n
      · exact .inr ⟨decide_eq_true ha, .inr ⟨decide_eq_true hb, decide_eq_false (fun hc => this ⟨ha, hb, hc⟩)⟩⟩
      · exact .inr ⟨decide_eq_true ha, .inl (decide_eq_false hb)⟩
    · exact .inl (decide_eq_false ha)
  clear HX
  rcases hh with ha | ⟨ha, hb | ⟨hb, hc⟩⟩
  · go_enter Try.func9, Try.ntmps9
    go_wp2_with fail
    generalize w.alloc (.cells #[.int .i64 a, .int .i64 b, .int .i64 c, .bool d] 33) = w1 at *
    refine (made_ok H.out hn0).mono ?_
    rintro e w' ⟨rfl, hw⟩
    subst w'
    go_wp2_with (go_at_call 15; refine (has_any H.out _).mono ?_; rintro e w' ⟨rfl, hw⟩; subst w')
    go_ret
    exact ⟨rfl, KA.out⟩
  · go_enter Try.func9, Try.ntmps9
    go_wp2_with fail
    generalize w.alloc (.cells #[.int .i64 a, .int .i64 b, .int .i64 c, .bool d] 33) = w1 at *
    refine (made_ok H.out hn0).mono ?_
    rintro e w' ⟨rfl, hw⟩
    subst w'
    go_wp2_with (go_at_call 15; refine (has_any H.out _).mono ?_; rintro e w' ⟨rfl, hw⟩; subst w')
    go_ret
    exact ⟨rfl, KA.out⟩
  · go_enter Try.func9, Try.ntmps9
    go_wp2_with fail
    generalize w.alloc (.cells #[.int .i64 a, .int .i64 b, .int .i64 c, .bool d] 33) = w1 at *
    refine (made_ok H.out hn0).mono ?_
    rintro e w' ⟨rfl, hw⟩
    subst w'
    go_wp2_with (go_at_call 15; refine (has_any H.out _).mono ?_; rintro e w' ⟨rfl, hw⟩; subst w')
    go_ret
    exact ⟨rfl, KA.out⟩
end
end Go.Proofs.Ytbejafjpdplofaa.St
