
/-
  No statement of the program: package stats, over this seat's translation. 'SC w p cb n ev g': at p lies a log of n nodes, its counts g at cb (six a node), its events ev.
-/
import Derived.Test.YtbejafjpdplofaaHeap3
import Derived.Test.YtbejafjpdplofaaOwn
import Derived.Test.YtbejafjpdplofaaChecked
import Derived.Deep.RegionHeld3
namespace Go.Proofs.Ytbejafjpdplofaa.St
open Go.ChangeShapes Go.WideShapes Go.ChangeAt Go.RowKit By

structure SC (w : World) (p cb : Nat) (n : Nat) (ev : Value) (g : Nat → Nat) : Prop where
  row : w.rowIs p 49 2 (fun i => if i = 0 then .slice (some ⟨cb, 0, none⟩) n n else ev)
  tab : w.rowIs cb 24 (n * 6) (fun i => .int .i64 (g i))
  ne : p ≠ cb
section
variable {w : World} {p cb : Nat} {n : Nat} {ev : Value} {g : Nat → Nat}
theorem SC.kept {w' : World} {F : List Nat} (h : SC w p cb n ev g) (k : Kept F w w') (h1 : p ∉ F) (h2 : cb ∉ F) : SC w' p cb n ev g := ⟨k.row h.row h1, k.row h.tab h2, h.ne⟩
theorem SC.kept0 {w' : World} (h : SC w p cb n ev g) (k : Kept [] w w') : SC w' p cb n ev g := h.kept k (by simp) (by simp)
theorem SC.f0 (h : SC w p cb n ev g) : w.cell? ⟨p, 0, none⟩ = some (.slice (some ⟨cb, 0, none⟩) n n) := h.row.cell (i := 0) (by omega)
theorem SC.f1 (h : SC w p cb n ev g) : w.cell? ⟨p, 1, none⟩ = some ev := h.row.cell (i := 1) (by omega)
theorem SC.at (h : SC w p cb n ev g) {i : Nat} (hi : i < n * 6) : w.cell? ⟨cb, i, none⟩ = some (.int .i64 (g i)) := h.tab.cell (i := i) hi
def inc (g : Nat → Nat) (i : Nat) : Nat → Nat := fun j => if j = i then g j + 1 else g j
theorem SC.put (h : SC w p cb n ev g) (i : Nat) : SC (w.setCell ⟨cb, i, none⟩ (.int .i64 ((g i : Int) + 1))) p cb n ev (inc g i) ∧ Kept [cb] w (w.setCell ⟨cb, i, none⟩ (.int .i64 ((g i : Int) + 1))) := by
  have k : Kept [cb] w (w.setCell ⟨cb, i, none⟩ (.int .i64 ((g i : Int) + 1))) := (Kept.refl [cb] w).setCell (fun _ => by simp) _
  refine ⟨⟨k.row h.row (by simpa using h.ne), ?_, h.ne⟩, k⟩
  refine (h.tab.set i _).congr fun j hj => ?_
  unfold inc
  by_cases e : j = i <;> simp [e]
/-- What the search counts, and what the owner does. -/
def cS (a b : Nat) (d : Bool) (g : Nat → Nat) : Nat → Nat := if a = b then (if d then inc (inc g (a * 6)) (a * 6 + 5) else inc g (a * 6)) else inc (inc g (a * 6 + 1)) (b * 6 + 2)
def cO (a c : Nat) (g : Nat → Nat) : Nat → Nat := if a = c then inc g (a * 6 + 3) else inc g (a * 6 + 4)
theorem ev_alloc (w : World) (a b c : Int) (d : Bool) : (w.alloc (.cells #[.int .i64 a, .int .i64 b, .int .i64 c, .bool d] 33)).cell? ⟨w.heap.size, 0, none⟩ = some (.int .i64 a) ∧
    (w.alloc (.cells #[.int .i64 a, .int .i64 b, .int .i64 c, .bool d] 33)).cell? ⟨w.heap.size, 1, none⟩ = some (.int .i64 b) ∧
    (w.alloc (.cells #[.int .i64 a, .int .i64 b, .int .i64 c, .bool d] 33)).cell? ⟨w.heap.size, 2, none⟩ = some (.int .i64 c) ∧
    (w.alloc (.cells #[.int .i64 a, .int .i64 b, .int .i64 c, .bool d] 33)).cell? ⟨w.heap.size, 3, none⟩ = some (.bool d) := by
  refine ⟨?_, ?_, ?_, ?_⟩ <;> (rw [World.cell?_alloc_mark]; rfl)
set_option maxHeartbeats 1000000 in
theorem owner_ok (h : SC w p cb n ev g) {a c : Nat} (ha : a < n) (hg : ∀ i, g i < 4611686018427387904) (b : Int) (d : Bool) :
    Calls Try.prog 17 #[.pointer (some ⟨p, 0, none⟩), .agg #[.int .i64 a, .int .i64 b, .int .i64 c, .bool d]] w fun e w' => e = .returned (.tuple #[]) ∧ SC w' p cb n ev (cO a c g) ∧ Kept [cb] w w' := by
  obtain ⟨e0, e1, e2, e3⟩ := ev_alloc w a b c d
  have K1 := (Kept.refl [] w).alloc (.cells #[.int .i64 a, .int .i64 b, .int .i64 c, .bool d] 33)
  have H1 := h.kept0 K1
  have ha0 : (0 : Int) ≤ (a : Int) := by omega
  have ha1 : (a : Int) < (n : Int) := by omega
  have KK := hide (K1.mono (M := [cb]) (fun _ h _ => by cases h))
  have f0 := H1.f0
  have hfz := fun i => H1.tab.frozen i
  by_cases hac : a = c
  · have hb : ((a : Int) == (c : Int)) = true := by simp [hac]
    have c3 := H1.at (i := a * 6 + 3) (by omega)
    have gb := hg (a * 6 + 3)
    have H := hide (H1.put (a * 6 + 3))
    have E := hide (show cO a c g = inc g (a * 6 + 3) by unfold cO; rw [if_pos hac])
    clear h H1 hg hac K1
    generalize g (a * 6 + 3) = y at *
    go_enter Try.func17, Try.ntmps17
    go_wp2_with fail
    generalize hw1 : w.alloc (.cells #[.int .i64 a, .int .i64 b, .int .i64 c, .bool d] 33) = w1 at *
    go_region
    go_wp2
    go_end0
    rw [E.out]
    exact ⟨rfl, H.out.1.kept0 ((Kept.refl [] _).drew), KK.out.trans H.out.2.drew (fun x hx _ => hx)⟩
  · have hb : ((a : Int) == (c : Int)) = false := by simp; omega
    have c3 := H1.at (i := a * 6 + 4) (by omega)
    have gb := hg (a * 6 + 4)
    have H := hide (H1.put (a * 6 + 4))
    have E := hide (show cO a c g = inc g (a * 6 + 4) by unfold cO; rw [if_neg hac])
    clear h H1 hg hac K1
    generalize g (a * 6 + 4) = y at *
    go_enter Try.func17, Try.ntmps17
    go_wp2_with fail
    generalize hw1 : w.alloc (.cells #[.int .i64 a, .int .i64 b, .int .i64 c, .bool d] 33) = w1 at *
    go_region
    go_wp2
    go_end0
    rw [E.out]
    exact ⟨rfl, H.out.1.kept0 ((Kept.refl [] _).drew), KK.out.trans H.out.2.drew (fun x hx _ => hx)⟩
set_option maxHeartbeats 2000000 in
theorem search_ok (h : SC w p cb n ev g) {a b : Nat} (ha : a < n) (hb : b < n) (hg : ∀ i, g i < 4611686018427387904) (c : Int) (d : Bool) :
    Calls Try.prog 16 #[.pointer (some ⟨p, 0, none⟩), .agg #[.int .i64 a, .int .i64 b, .int .i64 c, .bool d]] w fun e w' => e = .returned (.tuple #[]) ∧ SC w' p cb n ev (cS a b d g) ∧ Kept [cb] w w' := by
  obtain ⟨e0, e1, e2, e3⟩ := ev_alloc w a b c d
  have K1 := (Kept.refl [] w).alloc (.cells #[.int .i64 a, .int .i64 b, .int .i64 c, .bool d] 33)
  have H1 := h.kept0 K1
  have hwn : w.heap.size ∉ [cb] := by have := h.tab.lt; simp; omega
  have hpn : p ∉ [cb] := by simpa using h.ne
  have ha0 : (0 : Int) ≤ (a : Int) := by omega
  have ha1 : (a : Int) < (n : Int) := by omega
  have hb0 : (0 : Int) ≤ (b : Int) := by omega
  have hb1 : (b : Int) < (n : Int) := by omega
  have KK := hide (K1.mono (M := [cb]) (fun _ h _ => by cases h))
  have HW := hide hwn
  have HP := hide hpn
  have f0 := H1.f0
  have hfz := fun i => H1.tab.frozen i
  clear hwn hpn
  by_cases hab : a = b
  · have hq : ((a : Int) != (b : Int)) = false := by simp [hab]
    have c0 := H1.at (i := a * 6) (by omega)
    have g0 := hg (a * 6)
    obtain ⟨S2, K2⟩ := H1.put (a * 6)
    cases d with
    | false =>
      have E := hide (show cS a b false g = inc g (a * 6) by unfold cS; rw [if_pos hab]; rfl)
      have S := hide (S2.kept0 (Kept.refl [] _).drew)
      have K := hide (KK.out.trans K2.drew (fun x hx _ => hx))
      clear h H1 hg hab K1 S2 K2
      generalize g (a * 6) = y at *
      go_enter Try.func16, Try.ntmps16
      go_wp2_with fail
      generalize hw1 : w.alloc (.cells #[.int .i64 a, .int .i64 b, .int .i64 c, .bool false] 33) = w1 at *
      go_region
      go_wp2
      go_end0
      rw [E.out]
      exact ⟨rfl, S.out, K.out⟩
    | true =>
      have E := hide (show cS a b true g = inc (inc g (a * 6)) (a * 6 + 5) by unfold cS; rw [if_pos hab]; rfl)
      have S := hide (S2.kept0 (Kept.refl [] _).drew)
      have K := hide (KK.out.trans K2.drew (fun x hx _ => hx))
      have K3 := hide K2.drew
      have g5 := hg (a * 6 + 5)
      have e5 : inc g (a * 6) (a * 6 + 5) = g (a * 6 + 5) := by unfold inc; rw [if_neg (by omega)]
      have T5 := hide e5
      clear h H1 hg hab K1 S2 K2 e5
      generalize g (a * 6) = y at *
      go_enter Try.func16, Try.ntmps16
      go_wp2_with fail
      generalize hw1 : w.alloc (.cells #[.int .i64 a, .int .i64 b, .int .i64 c, .bool true] 33) = w1 at *
      go_region
      have e0' := K3.out.cell e0 HW.out
      have e3' := K3.out.cell e3 HW.out
      have f0' := K3.out.cell f0 HP.out
      have c5 := S.out.at (i := a * 6 + 5) (by omega)
      rw [T5.out] at c5
      obtain ⟨S5, K5⟩ := S.out.put (a * 6 + 5)
      rw [T5.out] at S5 K5
      have hfz' := fun i => S.out.tab.frozen i
      have R := hide S5
      have RK := hide (K.out.trans K5.drew (fun x hx _ => hx))
      clear c0 e0 e1 e2 e3 f0 hfz S5 K5 K3 S K hw1 KK HW HP T5
      generalize g (a * 6 + 5) = z at *
      generalize ((w1.setCell ⟨cb, a * 6, none⟩ (.int .i64 ((y : Int) + 1))).drew) = w2 at *
      go_wp2_with fail
      go_region
      go_wp2
      go_end0
      rw [E.out]
      exact ⟨rfl, R.out.kept0 (Kept.refl [] _).drew, RK.out⟩
  · have hq : ((a : Int) != (b : Int)) = true := by simp; omega
    have c0 := H1.at (i := a * 6 + 1) (by omega)
    have g0 := hg (a * 6 + 1)
    obtain ⟨S2, K2⟩ := H1.put (a * 6 + 1)
    have E := hide (show cS a b d g = inc (inc g (a * 6 + 1)) (b * 6 + 2) by unfold cS; rw [if_neg hab])
    have S := hide (S2.kept0 (Kept.refl [] _).drew)
    have K := hide (KK.out.trans K2.drew (fun x hx _ => hx))
    have K3 := hide K2.drew
    have g5 := hg (b * 6 + 2)
    have e5 : inc g (a * 6 + 1) (b * 6 + 2) = g (b * 6 + 2) := by unfold inc; rw [if_neg (by omega)]
    have T5 := hide e5
    clear h H1 hg hab K1 S2 K2 e5
    generalize g (a * 6 + 1) = y at *
    go_enter Try.func16, Try.ntmps16
    go_wp2_with fail
    generalize hw1 : w.alloc (.cells #[.int .i64 a, .int .i64 b, .int .i64 c, .bool d] 33) = w1 at *
    go_region
    have e1' := K3.out.cell e1 HW.out
    have f0' := K3.out.cell f0 HP.out
    have c5 := S.out.at (i := b * 6 + 2) (by omega)
    rw [T5.out] at c5
    obtain ⟨S5, K5⟩ := S.out.put (b * 6 + 2)
    rw [T5.out] at S5 K5
    have hfz' := fun i => S.out.tab.frozen i
    have R := hide S5
    have RK := hide (K.out.trans K5.drew (fun x hx _ => hx))
    clear c0 e0 e1 e2 e3 f0 hfz S5 K5 K3 S K hw1 KK HW HP T5
    generalize g (b * 6 + 2) = z at *
    generalize ((w1.setCell ⟨cb, a * 6 + 1, none⟩ (.int .i64 ((y : Int) + 1))).drew) = w2 at *
    go_wp2_with fail
    go_region
    go_wp2
    (try simp only [Exit.inBlock, Exit.then])
    refine bodyPost_ret (results_none rfl _ _ _) rfl ?_
    rw [E.out]
    exact ⟨rfl, R.out.kept0 (Kept.refl [] _).drew, RK.out⟩
theorem made_nil (w : World) : Calls Try.prog 14 #[.pointer none] w fun e w' => e = .returned (.bool false) ∧ w' = w := by
  go_enter Try.func14, Try.ntmps14
  go_wp2
  go_ret
  exact ⟨rfl, rfl⟩
theorem made_ok (h : SC w p cb n ev g) (hn : 0 < n) : Calls Try.prog 14 #[.pointer (some ⟨p, 0, none⟩)] w fun e w' => e = .returned (.bool true) ∧ w' = w := by
  have f0 := h.f0
  clear h
  go_enter Try.func14, Try.ntmps14
  go_wp2
  go_ret
  exact ⟨rfl, rfl⟩
/-- Is it a node? -/
def inB (n : Nat) (a : Int) : Bool := decide (0 ≤ a ∧ a < n)
theorem has_any (h : SC w p cb n ev g) (a : Int) : Calls Try.prog 15 #[.pointer (some ⟨p, 0, none⟩), .int .i64 a] w fun e w' => e = .returned (.bool (inB n a)) ∧ w' = w := by
  have f0 := h.f0
  clear h
  by_cases h0 : 0 ≤ a
  · by_cases h1 : a < n
    · have E := hide (show inB n a = true from decide_eq_true ⟨h0, h1⟩)
      go_enter Try.func15, Try.ntmps15
      go_wp2
      go_ret
      rw [E.out]
      exact ⟨rfl, rfl⟩
    · have E := hide (show inB n a = false from decide_eq_false (fun h => h1 h.2))
      go_enter Try.func15, Try.ntmps15
      go_wp2
      go_ret
      rw [E.out]
      exact ⟨rfl, rfl⟩
  · have E := hide (show inB n a = false from decide_eq_false (fun h => h0 h.1))
    go_enter Try.func15, Try.ntmps15
    go_wp2
    go_ret
    rw [E.out]
    exact ⟨rfl, rfl⟩
end
end Go.Proofs.Ytbejafjpdplofaa.St
