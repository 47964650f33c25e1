
/-
  No statement of the program: events of whatever kind, one log or two side by side, over this seat's translation.
-/
import Derived.Test.YtbejafjpdplofaaSts7
import Derived.Test.YtbejafjpdplofaaStructs
namespace Go.Proofs.Ytbejafjpdplofaa.St
open Go.ChangeShapes Go.WideShapes Go.ChangeAt Go.RowKit By
/-- An event as it came in. -/
structure Ex where
  a : Int
  b : Int
  c : Int
  d : Bool
def Ex.ok (n : Nat) (x : Ex) : Bool := rightB n x.a x.b x.c
def Ex.ev (x : Ex) : Ev := ⟨x.a.toNat, x.b.toNat, x.c.toNat, x.d⟩
/-- What a log has of them. -/
def evs (n : Nat) (l : List Ex) : List Ev := (l.filter (Ex.ok n)).map Ex.ev
theorem evs_snoc (n : Nat) (l : List Ex) (x : Ex) : evs n (l ++ [x]) = if x.ok n then evs n l ++ [x.ev] else evs n l := by
  unfold evs
  rw [List.filter_append]
  by_cases h : x.ok n = true
  · simp [h]
  · simp [h]
theorem evs_le (n : Nat) (l : List Ex) : (evs n l).length ≤ l.length := by unfold evs; simp; exact List.length_filter_le _ _
def errR (n : Nat) (x : Ex) : Int := if x.ok n then 0 else 10
section
variable {w : World} {p cb : Nat} {n : Nat} {ev : Value} {l : List Ex}
theorem add_any (h : LA w p cb n ev (evs n l)) (hn0 : 0 < n) (x : Ex) (hl : l.length ≤ 1000) : Calls Try.prog 9 #[.pointer (some ⟨p, 0, none⟩), .agg #[.int .i64 x.a, .int .i64 x.b, .int .i64 x.c, .bool x.d]] w fun e w' =>
    e = .returned (.int .i64 (errR n x)) ∧ ∃ ev', LA w' p cb n ev' (evs n (l ++ [x])) ∧ Kept (foot p cb ev) w w' ∧ ∀ b, b ∈ foot p cb ev' → b ∈ foot p cb ev ∨ w.heap.size ≤ b := by
  have hle := evs_le n l
  rw [evs_snoc]
  unfold errR
  by_cases hx : x.ok n = true
  · have hr : (0 ≤ x.a ∧ x.a < n) ∧ (0 ≤ x.b ∧ x.b < n) ∧ (0 ≤ x.c ∧ x.c < n) := of_decide_eq_true hx
    obtain ⟨⟨a0, a1⟩, ⟨b0, b1⟩, ⟨c0, c1⟩⟩ := hr
    have := add_ok h x.ev (by show x.a.toNat < n; omega) (by show x.b.toNat < n; omega) (by show x.c.toNat < n; omega) (by omega)
    rw [show ((x.ev).a : Int) = x.a from Int.toNat_of_nonneg a0, show ((x.ev).b : Int) = x.b from Int.toNat_of_nonneg b0, show ((x.ev).c : Int) = x.c from Int.toNat_of_nonneg c0] at this
    rw [if_pos hx, if_pos hx]
    exact this
  · rw [if_neg hx, if_neg hx]
    have := add_bad h.sc hn0 x.a x.b x.c x.d (fun hr => hx (decide_eq_true hr))
    refine this.mono ?_
    rintro e w' ⟨rfl, hk⟩
    exact ⟨rfl, ev, h.kept0 hk, hk.mono (fun _ hx _ => by cases hx), fun b hb => .inl hb⟩
end
/-- A log that lies behind W. -/
structure LB (W w : World) (p cb n : Nat) (ev : Value) (l : List Ex) : Prop where
  la : LA w p cb n ev (evs n l)
  kept : Kept [] W w
  far : ∀ b, b ∈ foot p cb ev → W.heap.size ≤ b
section
variable {W w : World} {p cb n : Nat} {ev : Value} {l : List Ex}
theorem LB.next {w' : World} (h : LB W w p cb n ev l) (k : Kept [] w w') : LB W w' p cb n ev l := ⟨h.la.kept0 k, h.kept.next k, h.far⟩
theorem LB.add (h : LB W w p cb n ev l) (hn0 : 0 < n) (x : Ex) (hl : l.length ≤ 1000) : Calls Try.prog 9 #[.pointer (some ⟨p, 0, none⟩), .agg #[.int .i64 x.a, .int .i64 x.b, .int .i64 x.c, .bool x.d]] w fun e w' =>
    e = .returned (.int .i64 (errR n x)) ∧ ∃ ev', LB W w' p cb n ev' (l ++ [x]) ∧ Kept (foot p cb ev) w w' ∧ ∀ b, b ∈ foot p cb ev' → b ∈ foot p cb ev ∨ w.heap.size ≤ b := by
  refine (add_any h.la hn0 x hl).mono ?_
  rintro e w' ⟨rfl, ev', h1, h2, h3⟩
  refine ⟨rfl, ev', ⟨h1, h.kept.trans h2 (fun x hx hlt => absurd hlt (Nat.not_lt.2 (h.far x hx))), fun b hb => ?_⟩, h2, h3⟩
  rcases h3 b hb with h4 | h4
  · exact h.far b h4
  · exact Nat.le_trans h.kept.size h4
theorem LB.of_new {w2 : World} (k0 : Kept [] W w) (h : LA w2 p cb n (.slice none 0 0) []) (hf : ∀ b, b ∈ foot p cb (.slice none 0 0) → w.heap.size ≤ b) (k : Kept [] w w2) : LB W w2 p cb n (.slice none 0 0) [] :=
  ⟨h, k0.next k, fun b hb => Nat.le_trans k0.size (hf b hb)⟩
/-- Two logs side by side. -/
structure LL (W w : World) (p1 c1 : Nat) (e1 : Value) (l1 : List Ex) (p2 c2 : Nat) (e2 : Value) (l2 : List Ex) (n : Nat) : Prop where
  one : LB W w p1 c1 n e1 l1
  two : LB W w p2 c2 n e2 l2
  apart : ∀ b, b ∈ foot p1 c1 e1 → b ∉ foot p2 c2 e2
theorem LL.swap {p1 c1 : Nat} {e1 : Value} {l1 : List Ex} {p2 c2 : Nat} {e2 : Value} {l2 : List Ex} (h : LL W w p1 c1 e1 l1 p2 c2 e2 l2 n) : LL W w p2 c2 e2 l2 p1 c1 e1 l1 n := ⟨h.two, h.one, fun b h2 h1 => h.apart b h1 h2⟩
theorem LL.next {w' : World} {p1 c1 : Nat} {e1 : Value} {l1 : List Ex} {p2 c2 : Nat} {e2 : Value} {l2 : List Ex} (h : LL W w p1 c1 e1 l1 p2 c2 e2 l2 n) (k : Kept [] w w') : LL W w' p1 c1 e1 l1 p2 c2 e2 l2 n := ⟨h.one.next k, h.two.next k, h.apart⟩
theorem LL.add {p1 c1 : Nat} {e1 : Value} {l1 : List Ex} {p2 c2 : Nat} {e2 : Value} {l2 : List Ex} (h : LL W w p1 c1 e1 l1 p2 c2 e2 l2 n) (hn0 : 0 < n) (x : Ex) (hl : l1.length ≤ 1000) :
    Calls Try.prog 9 #[.pointer (some ⟨p1, 0, none⟩), .agg #[.int .i64 x.a, .int .i64 x.b, .int .i64 x.c, .bool x.d]] w fun e w' =>
    e = .returned (.int .i64 (errR n x)) ∧ ∃ e1', LL W w' p1 c1 e1' (l1 ++ [x]) p2 c2 e2 l2 n ∧ Kept (foot p1 c1 e1) w w' := by
  refine (h.one.add hn0 x hl).mono ?_
  rintro e w' ⟨rfl, ev', h1, h2, h3⟩
  refine ⟨rfl, ev', ⟨h1, ⟨h.two.la.kept h2 (fun b hb2 hb1 => h.apart b hb1 hb2), h1.kept, h.two.far⟩, fun b hb1 hb2 => ?_⟩, h2⟩
  rcases h3 b hb1 with h4 | h4
  · exact h.apart b h4 hb2
  · have := h.two.la.lt hb2
    omega
end
/-- Events among the arguments. -/
def IsExs (w : World) (ao : Option Addr) (len : Nat) (X : Nat → Ex) : Prop := ∀ i, i < len → ∃ b off, ao = some ⟨b, off, none⟩ ∧
  w.cell? ⟨b, off + i * 4, none⟩ = some (.int .i64 (X i).a) ∧ w.cell? ⟨b, off + i * 4 + 1, none⟩ = some (.int .i64 (X i).b) ∧ w.cell? ⟨b, off + i * 4 + 2, none⟩ = some (.int .i64 (X i).c) ∧ w.cell? ⟨b, off + i * 4 + 3, none⟩ = some (.bool (X i).d)
theorem IsExs.kept {w w' : World} {ao : Option Addr} {len : Nat} {X : Nat → Ex} (h : IsExs w ao len X) (k : Kept [] w w') : IsExs w' ao len X := by
  intro i hi
  obtain ⟨b, off, rfl, h0, h1, h2, h3⟩ := h i hi
  exact ⟨b, off, rfl, k.cell h0 (by simp), k.cell h1 (by simp), k.cell h2 (by simp), k.cell h3 (by simp)⟩
theorem list4 {α : Type} (l : List α) (h : l.length = 4) : ∃ a b c d, l = [a, b, c, d] := by
  match l, h with
  | [a, b, c, d], _ => exact ⟨a, b, c, d, rfl⟩
theorem open_exs {H : Type} {enc : TypeId × Value → H} {W : World} {v : Value} {d : DataW H} {p : List MemPlace} (hv : ∃ a len cap, v = .slice a len cap)
    (h : DataW.Trod enc Try.prog W 0 (fun _ => true) true 22 v d p) : ∃ a len cap X, v = .slice a len cap ∧ len ≤ maxLen ∧ IsExs W a len X := by
  obtain ⟨a, len, cap, rfl, hl, hx⟩ := open_structs (P := Try.prog) (kc := 4) Try.underlying22 Try.underlying38 (by kernel_rfl) (by decide) hv h
  have hq : ∀ i, i < len → ∃ x : Ex, ∃ b off, a = some ⟨b, off, none⟩ ∧
      W.cell? ⟨b, off + i * 4, none⟩ = some (.int .i64 x.a) ∧ W.cell? ⟨b, off + i * 4 + 1, none⟩ = some (.int .i64 x.b) ∧ W.cell? ⟨b, off + i * 4 + 2, none⟩ = some (.int .i64 x.c) ∧ W.cell? ⟨b, off + i * 4 + 3, none⟩ = some (.bool x.d) := by
    intro i hi
    obtain ⟨b, off, rfl, fuel, cs, hcs, hc, hf⟩ := hx i hi
    obtain ⟨x0, x1, x2, x3, rfl⟩ := list4 cs hcs
    obtain ⟨y0, h0⟩ := hf 0 _ rfl
    obtain ⟨y1, h1⟩ := hf 1 _ rfl
    obtain ⟨y2, h2⟩ := hf 2 _ rfl
    obtain ⟨y3, h3⟩ := hf 3 _ rfl
    have c0 := hc 0 x0 rfl
    have c1 := hc 1 x1 rfl
    have c2 := hc 2 x2 rfl
    have c3 := hc 3 x3 rfl
    have hc3 : Try.prog.cellsOf 3 = 1 := by kernel_rfl
    have hc4 : Try.prog.cellsOf 4 = 1 := by kernel_rfl
    have h0 : DataW.trod enc Try.prog W 0 (fun _ => true) true fuel 3 (([x0, x1, x2, x3].drop 0).take (Try.prog.cellsOf 3)) = some y0 := h0
    have h1 : DataW.trod enc Try.prog W 0 (fun _ => true) true fuel 3 (([x0, x1, x2, x3].drop 1).take (Try.prog.cellsOf 3)) = some y1 := h1
    have h2 : DataW.trod enc Try.prog W 0 (fun _ => true) true fuel 3 (([x0, x1, x2, x3].drop 2).take (Try.prog.cellsOf 3)) = some y2 := h2
    have h3 : DataW.trod enc Try.prog W 0 (fun _ => true) true fuel 4 (([x0, x1, x2, x3].drop 3).take (Try.prog.cellsOf 4)) = some y3 := h3
    rw [hc3] at h0 h1 h2
    rw [hc4] at h3
    obtain ⟨z0, e0, -, -⟩ := DataW.trod_int Try.underlying3 h0
    obtain ⟨z1, e1, -, -⟩ := DataW.trod_int Try.underlying3 h1
    obtain ⟨z2, e2, -, -⟩ := DataW.trod_int Try.underlying3 h2
    obtain ⟨z3, e3, -⟩ := DataW.trod_bool Try.underlying4 h3
    simp at e0 e1 e2 e3
    subst e0 e1 e2 e3
    exact ⟨⟨z0, z1, z2, z3⟩, b, off, rfl, c0, c1, c2, c3⟩
  refine ⟨a, len, cap, fun i => if h : i < len then (hq i h).choose else ⟨0, 0, 0, false⟩, rfl, hl, fun i hi => ?_⟩
  have := (hq i hi).choose_spec
  simp only [dif_pos hi]
  exact this
/-- The first k events, and those from behind. -/
def fw (X : Nat → Ex) (k : Nat) : List Ex := (List.range k).map X
def bw (X : Nat → Ex) (m k : Nat) : List Ex := (List.range k).map (fun j => X (m - 1 - j))
theorem fw_succ (X : Nat → Ex) (k : Nat) : fw X (k + 1) = fw X k ++ [X k] := by unfold fw; rw [List.range_succ, List.map_append]; rfl
theorem bw_succ (X : Nat → Ex) (m k : Nat) : bw X m (k + 1) = bw X m k ++ [X (m - 1 - k)] := by unfold bw; rw [List.range_succ, List.map_append]; rfl
theorem bw_rev (X : Nat → Ex) (m : Nat) : bw X m m = (fw X m).reverse := by
  unfold fw bw
  apply List.ext_getElem
  · simp
  · intro i h1 h2
    simp
theorem evs_rev (n : Nat) (l : List Ex) : evs n l.reverse = (evs n l).reverse := by unfold evs; rw [List.filter_reverse, List.map_reverse]
theorem cn_rev (l : List Ev) (i : Nat) : cn l.reverse i = cn l i := by unfold cn; rw [List.countP_reverse]
/-- An event in a block of its own. -/
structure Cel (w : World) (q : Nat) (x : Ex) : Prop where
  c0 : w.cell? ⟨q, 0, none⟩ = some (.int .i64 x.a)
  c1 : w.cell? ⟨q, 1, none⟩ = some (.int .i64 x.b)
  c2 : w.cell? ⟨q, 2, none⟩ = some (.int .i64 x.c)
  c3 : w.cell? ⟨q, 3, none⟩ = some (.bool x.d)
theorem Cel.kept {w w' : World} {q : Nat} {x : Ex} {F : List Nat} (h : Cel w q x) (k : Kept F w w') (hq : q ∉ F) : Cel w' q x := ⟨k.cell h.c0 hq, k.cell h.c1 hq, k.cell h.c2 hq, k.cell h.c3 hq⟩
def Ex.obj (x : Ex) : Obj := .cells #[.int .i64 x.a, .int .i64 x.b, .int .i64 x.c, .bool x.d] 38
theorem Cel.new (w : World) (x : Ex) : Cel (w.alloc x.obj) w.heap.size x := by
  refine ⟨?_, ?_, ?_, ?_⟩ <;> (unfold Ex.obj; rw [World.cell?_alloc_mark]; rfl)
theorem two_cel (w : World) (x y : Ex) : Cel ((w.alloc x.obj).alloc y.obj).drew w.heap.size x ∧ Cel ((w.alloc x.obj).alloc y.obj).drew (w.heap.size + 1) y ∧ Kept [] w ((w.alloc x.obj).alloc y.obj).drew := by
  have k1 := (Kept.refl [] w).alloc x.obj
  have k2 := (Kept.refl [] (w.alloc x.obj)).alloc y.obj
  have h2 := Cel.new (w.alloc x.obj) y
  rw [show (w.alloc x.obj).heap.size = w.heap.size + 1 from Array.size_push _] at h2
  exact ⟨(Cel.new w x).kept k2.drew (by simp), h2.kept ((Kept.refl [] _).drew) (by simp), (k1.next k2).drew⟩
/-- It lies in none of the logs. -/
def Far (q p1 c1 : Nat) (e1 : Value) (p2 c2 : Nat) (e2 : Value) : Prop := q ∉ foot p1 c1 e1 ∧ q ∉ foot p2 c2 e2
theorem LL.far {W w : World} {n p1 c1 : Nat} {e1 : Value} {l1 : List Ex} {p2 c2 : Nat} {e2 : Value} {l2 : List Ex} (h : LL W w p1 c1 e1 l1 p2 c2 e2 l2 n) {q : Nat} (hq : w.heap.size ≤ q) : Far q p1 c1 e1 p2 c2 e2 :=
  ⟨fun h1 => by have := h.one.la.lt h1; omega, fun h1 => by have := h.two.la.lt h1; omega⟩
end Go.Proofs.Ytbejafjpdplofaa.St
