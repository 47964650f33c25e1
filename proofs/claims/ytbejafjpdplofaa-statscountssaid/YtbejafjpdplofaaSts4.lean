
/-
  No statement of the program: a log's other calls, over this seat's translation.
-/
import Derived.Test.YtbejafjpdplofaaSts3
import Derived.OwnWalk
namespace Go.Proofs.Ytbejafjpdplofaa.St
open Go.ChangeShapes Go.WideShapes Go.ChangeAt Go.RowKit By
section
variable {w : World} {p cb : Nat} {n : Nat} {ev : Value} {l : List Ev}
theorem row6 (w : World) (t : TypeId) (a b c d e f : Value) (i : Nat) (hi : i < 6) : (w.alloc (.cells #[a, b, c, d, e, f] t)).cell? ⟨w.heap.size, i, none⟩ = some ([a, b, c, d, e, f].getD i default) := by
  rw [World.cell?_alloc_mark]
  match i, hi with
  | 0, _ => rfl
  | 1, _ => rfl
  | 2, _ => rfl
  | 3, _ => rfl
  | 4, _ => rfl
  | 5, _ => rfl
def aggC (g : Nat → Nat) (k : Nat) : Value := .agg #[.int .i64 (g (k * 6)), .int .i64 (g (k * 6 + 1)), .int .i64 (g (k * 6 + 2)), .int .i64 (g (k * 6 + 3)), .int .i64 (g (k * 6 + 4)), .int .i64 (g (k * 6 + 5))]
set_option maxHeartbeats 1000000 in
theorem node_ok {g : Nat → Nat} (h : SC w p cb n ev g) {k : Nat} (hk : k < n) (hn8 : n ≤ 8) : Calls Try.prog 7 #[.pointer (some ⟨p, 0, none⟩), .int .i64 k] w fun e w' => e = .returned (.tuple #[aggC g k, .int .i64 0]) ∧ Kept [] w w' := by
  unfold aggC
  have K0 := (Kept.refl [] w).alloc (.cells #[.int .i64 0, .int .i64 0, .int .i64 0, .int .i64 0, .int .i64 0, .int .i64 0] 24)
  have H := hide (h.kept0 K0)
  have hm := fun i hi => (h.kept0 K0).at (i := i) hi
  have c0 := hm (k * 6) (by omega)
  have c1 := hm (k * 6 + 1) (by omega)
  have c2 := hm (k * 6 + 2) (by omega)
  have c3 := hm (k * 6 + 3) (by omega)
  have c4 := hm (k * 6 + 4) (by omega)
  have c5 := hm (k * 6 + 5) (by omega)
  have f0 := (h.kept0 K0).f0
  have hne := hide (show cb ≠ w.heap.size from fun e => by have := h.tab.lt; omega)
  have hn0 : 0 < n := by omega
  have HK := hide hk
  have k0 : (0 : Int) ≤ (k : Int) := by omega
  have k1 : (k : Int) < (n : Int) := by omega
  generalize g (k * 6) = y0 at *
  generalize g (k * 6 + 1) = y1 at *
  generalize g (k * 6 + 2) = y2 at *
  generalize g (k * 6 + 3) = y3 at *
  generalize g (k * 6 + 4) = y4 at *
  generalize g (k * 6 + 5) = y5 at *
  have KA := hide ((Kept.refl [] w).alloc (.cells #[.int .i64 y0, .int .i64 y1, .int .i64 y2, .int .i64 y3, .int .i64 y4, .int .i64 y5] 24))
  have r0 := row6 w 24 (.int .i64 y0) (.int .i64 y1) (.int .i64 y2) (.int .i64 y3) (.int .i64 y4) (.int .i64 y5) 0 (by omega)
  have r1 := row6 w 24 (.int .i64 y0) (.int .i64 y1) (.int .i64 y2) (.int .i64 y3) (.int .i64 y4) (.int .i64 y5) 1 (by omega)
  have r2 := row6 w 24 (.int .i64 y0) (.int .i64 y1) (.int .i64 y2) (.int .i64 y3) (.int .i64 y4) (.int .i64 y5) 2 (by omega)
  have r3 := row6 w 24 (.int .i64 y0) (.int .i64 y1) (.int .i64 y2) (.int .i64 y3) (.int .i64 y4) (.int .i64 y5) 3 (by omega)
  have r4 := row6 w 24 (.int .i64 y0) (.int .i64 y1) (.int .i64 y2) (.int .i64 y3) (.int .i64 y4) (.int .i64 y5) 4 (by omega)
  have r5 := row6 w 24 (.int .i64 y0) (.int .i64 y1) (.int .i64 y2) (.int .i64 y3) (.int .i64 y4) (.int .i64 y5) 5 (by omega)
  clear h hm K0 hk
  go_enter Try.func7, Try.ntmps7
  go_wp2_with (first | (go_at_call 14; refine (made_ok H.out hn0).mono ?_; rintro e w' ⟨rfl, hw⟩; subst w') | (go_at_call 15; refine (has_yes H.out HK.out).mono ?_; rintro e w' ⟨rfl, hw⟩; subst w'))
  generalize w.alloc (.cells #[.int .i64 y0, .int .i64 y1, .int .i64 y2, .int .i64 y3, .int .i64 y4, .int .i64 y5] 24) = w1 at r0 r1 r2 r3 r4 r5 KA ⊢
  refine bodyPost_ret (by simp [results, Try.results7, go_sem, r0, r1, r2, r3, r4, r5]; try rfl) rfl ?_
  exact ⟨rfl, KA.out⟩
theorem aggC_eq {g g' : Nat → Nat} {k : Nat} (h : ∀ q, q < 6 → g (k * 6 + q) = g' (k * 6 + q)) : aggC g k = aggC g' k := by
  unfold aggC
  have h0 : g (k * 6) = g' (k * 6) := h 0 (by omega)
  rw [h0, h 1 (by omega), h 2 (by omega), h 3 (by omega), h 4 (by omega), h 5 (by omega)]
set_option maxHeartbeats 1000000 in
theorem clone_any {v : Value} (h : w.ownsRow 0 33 4 v l.length (fl l)) (hl : l.length ≤ 1000000) : Calls Try.prog 18 #[v] w fun e w' => ∃ v', e = .returned v' ∧ w'.ownsRow w.heap.size 33 4 v' l.length (fl l) ∧ Kept [] w w' := by
  obtain ⟨i3, I3, Z3, S3, B3⟩ := infoE
  have q22 : ∀ (w : World) (a : Option Addr) (n c n' c' : Nat), (binOp .eql 34 (.slice a n c) (.slice none n' c')).run Try.prog w = .ok (.bool a.isNone) w := fun w a n c n' c' => Lib.run_eql_slice_nil w _ _ a n c n' c' Try.underlying34
  rcases h.2 with ⟨rfl, h0⟩ | ⟨g, cap, cur, rfl, -, hg, hcl, -⟩
  · have hl0 : l = [] := List.length_eq_zero_iff.1 h0
    subst hl0
    clear h
    go_enter Try.func18, Try.ntmps18
    go_wp2
    go_ret
    exact ⟨_, rfl, World.ownsRow_nil _ _ _ _, Kept.refl _ _⟩
  · have I := hide I3
    have Z := hide Z3
    have SZ := hide S3
    have B := hide B3
    have O := hide h
    have FL := hide (fl_length l)
    have N4 := hide (show ∀ W, Kept [] w W → ∀ j u, (fl l)[j]? = some u → W.cell? ((⟨g, 0, none⟩ : Addr).add j) = some u from fun W hW j u hu => hW.cell (World.ownsRow.cells O.out rfl j u hu) (by simp))
    have O1 := hide (show ∀ v, (∀ u ∈ fl v, u.oneCell' = true) from fun v u hu => by
      unfold fl at hu
      obtain ⟨x, -, hx⟩ := List.mem_flatMap.1 hu
      exact one_v x u hx)
    clear h hg I3 Z3 S3 B3
    go_enter Try.func18, Try.ntmps18
    go_wp2_with (at_builtin; refine wpList_append_own_at _ rfl _ _ _ rfl w.heap.size 33 i3 (.agg #[.int .i64 0, .int .i64 0, .int .i64 0, .bool false]) 4 32 Try.underlying34 I.out Z.out SZ.out B.out rfl (by decide) (.slice (some ⟨w.heap.size, 0, none⟩) 0 0) 0 [] rfl (World.ownsRow_lit _ #[] 0 (Nat.le_refl _) (by decide) rfl) ⟨g, 0, none⟩ l.length cap (fl l) rfl FL.out (N4.out _ ((Kept.refl [] w).alloc _)) (O1.out l) (by unfold maxLen; omega) (by omega) (by simp) ?_)
    intro v' w7 o7 g7 _ b7
    go_wp2
    go_ret
    exact ⟨_, rfl, o7, own_grown (World.ownsRow_lit (e := 33) (size := 4) w #[] 0 (Nat.le_refl _) (by decide) rfl) g7 w ((Kept.refl [] w).alloc _) (Nat.le_refl _)⟩
set_option maxHeartbeats 1000000 in
theorem events_ok (h : LA w p cb n ev l) (hn : 0 < n) (hl : l.length ≤ 1000000) : Calls Try.prog 10 #[.pointer (some ⟨p, 0, none⟩)] w fun e w' => ∃ v', e = .returned v' ∧ w'.ownsRow w.heap.size 33 4 v' l.length (fl l) ∧ Kept [] w w' := by
  have f1 := h.sc.f1
  have H := hide h
  have HL := hide hl
  clear h hl
  go_enter Try.func10, Try.ntmps10
  go_wp2_with (first | (go_at_call 14; refine (made_ok H.out.sc hn).mono ?_; rintro e w' ⟨rfl, hw⟩; subst w'))
  refine (clone_any H.out.own HL.out).mono ?_
  rintro e w1 ⟨v', rfl, hv, hk⟩
  go_wp2
  go_ret
  exact ⟨_, rfl, hv, hk⟩
theorem events_nil (w : World) : Calls Try.prog 10 #[.pointer none] w fun e w' => e = .returned (.slice none 0 0) ∧ w' = w := by
  go_enter Try.func10, Try.ntmps10
  go_wp2_with (first | (go_at_call 14; refine (made_nil _).mono ?_; rintro e w' ⟨rfl, hw⟩; subst w'))
  go_ret
  exact ⟨rfl, rfl⟩
end
end Go.Proofs.Ytbejafjpdplofaa.St
