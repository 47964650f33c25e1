
/-
  No statement of the program: the program's space and the document's side by side, over this seat's translation.
-/
import Derived.Test.YtdgmfcnblaamcaaSpc21
import Derived.Test.YtdgmfcnblaamcaaStructs
import Derived.OwnWalk
import Derived.BigRegion
import Derived.BigQuiet
import Derived.Deep.RegionHeld3
import Derived.Deep.RegionHeld
namespace Go.Proofs.Ytdgmfcnblaamcaa.Sc
open Go.ChangeShapes Go.WideShapes Go.ChangeAt Go.RowKit
/-- Both spaces, side by side: the program's at r, the document's at q. -/
structure SD (W w : World) (r q : Nat) (B : List Nat) (base : Nat) (v : Value) (n : Nat) (F C : Nat → Nat) (n' : Nat) (F' C' : Nat → Nat) : Prop where
  sb : SB W w r B n F C
  rq : RQ w q base v n' F' C'
  hq : W.heap.size ≤ q
  hb : W.heap.size ≤ base
  qB : q ∉ B
  vB : ∀ b, v.ownBlock = some b → b ∉ B
def SE (W w : World) (r q n : Nat) (F C : Nat → Nat) (n' : Nat) (F' C' : Nat → Nat) : Prop := ∃ B base v, SD W w r q B base v n F C n' F' C'
section
variable {W w : World} {r q n n' : Nat} {F C F' C' : Nat → Nat}
theorem SE.next {w' : World} (h : SE W w r q n F C n' F' C') (k : Kept [] w w') : SE W w' r q n F C n' F' C' := by
  obtain ⟨B, base, v, h1, h2, h3, h4, h5, h6⟩ := h
  exact ⟨B, base, v, h1.next k, h2.next k, h3, h4, h5, h6⟩
theorem SE.kept (h : SE W w r q n F C n' F' C') : Kept [] W w := by
  obtain ⟨B, base, v, h1, -⟩ := h
  exact h1.kept
/-- The program's space turned. -/
theorem SD.one {w' : World} {B B' : List Nat} {base n2 : Nat} {v : Value} {F2 C2 : Nat → Nat} (h : SD W w r q B base v n F C n' F' C') (hs : SB W w' r B' n2 F2 C2) (hk : Kept B w w') (hb : ∀ b, b ∈ B' → b ∈ B ∨ w.heap.size ≤ b) : SE W w' r q n2 F2 C2 n' F' C' := by
  obtain ⟨f, hf⟩ := h.rq.row
  have hql := hf.lt
  refine ⟨B', base, v, hs, ⟨hk.cell h.rq.c h.qB, ⟨f, hk.row hf h.qB⟩, own_far h.rq.own hk h.vB, h.rq.ap, h.rq.ne⟩, h.hq, h.hb, fun hm => ?_, fun b hv hm => ?_⟩
  · rcases hb _ hm with h1 | h1
    · exact h.qB h1
    · omega
  · rcases hb _ hm with h1 | h1
    · exact h.vB b hv h1
    · have := (h.rq.own.lt b hv).2; omega
/-- The document's space turned. -/
theorem SD.two {w' : World} {B : List Nat} {base base' n2 : Nat} {v v' : Value} {F2 C2 : Nat → Nat} (h : SD W w r q B base v n F C n' F' C') (hs : RQ w' q base' v' n2 F2 C2) (hk : Kept [q] w w') (hb : w.heap.size ≤ base') : SE W w' r q n F C n2 F2 C2 := by
  refine ⟨B, base', v', ⟨h.sb.sq.kept hk (fun b hb hm => h.qB (by have := List.mem_singleton.1 hm; rw [← this]; exact hb)), h.sb.kept.trans hk (fun x hx hl => by have := List.mem_singleton.1 hx; have := h.hq; omega), h.sb.far⟩, hs, h.hq, Nat.le_trans h.sb.kept.size hb, h.qB, fun b hv hm => ?_⟩
  have := (hs.own.lt b hv).1
  have := h.sb.sq.lt b hm
  omega
theorem SE.takes (h : SE W w r q n F C n F C) (need : Int) : ∃ x g : Int, Calls Try.prog 7 #[.pointer (some ⟨r, 0, none⟩), .int .i64 need] w fun e w1 => e = .returned (.tuple #[.int .i64 x, .int .i64 g]) ∧ Kept [] W w1 ∧ ∀ w1', Kept [] w1 w1' →
    Calls Try.prog 14 #[.pointer (some ⟨q, 0, none⟩), .int .i64 need] w1' fun e w2 => e = .returned (.tuple #[.int .i64 x, .int .i64 g]) ∧ ∃ n2 F2 C2, SE W w2 r q n2 F2 C2 n2 F2 C2 := by
  obtain ⟨B, base, v, hD⟩ := h
  by_cases hb : need < 1 ∨ 4095 < need
  · refine ⟨0, 1, (take_bad hb).mono ?_⟩
    rintro e w1 ⟨rfl, k1⟩
    refine ⟨rfl, hD.sb.kept.next k1, fun w1' j1 => (rtake_bad hb).mono ?_⟩
    rintro e w2 ⟨rfl, k2⟩
    exact ⟨rfl, n, F, C, SE.next (SE.next (SE.next ⟨B, base, v, hD⟩ k1) j1) k2⟩
  · obtain ⟨nd, rfl⟩ := Int.eq_ofNat_of_zero_le (show 0 ≤ need by omega)
    have h1 : 1 ≤ nd := by omega
    have h2 : nd ≤ 4095 := by omega
    obtain ⟨k, hk⟩ := Fit.some n F C nd
    by_cases hf : fstAt F C k + nd ≤ 4096
    · refine ⟨(fstAt F C k : Nat), 0, (hD.sb.take hk h1 hf).mono ?_⟩
      rintro e w1 ⟨rfl, B', hs, hkk, hb'⟩
      refine ⟨rfl, hs.kept, fun w1' j1 => ?_⟩
      obtain ⟨B2, base2, v2, hD2⟩ := (hD.one hs hkk hb').next j1
      refine (rtake_any hD2.rq hk h1 h2).mono ?_
      rintro e w2 (⟨h9, -⟩ | ⟨-, rfl, v', base', hr, hkr, hbr⟩)
      · omega
      · exact ⟨rfl, _, _, _, hD2.two hr hkr hbr⟩
    · refine ⟨0, 14, (hD.sb.sq.full hk h1 h2 (by omega)).mono ?_⟩
      rintro e w1 ⟨rfl, k1⟩
      refine ⟨rfl, hD.sb.kept.next k1, fun w1' j1 => ?_⟩
      obtain ⟨B2, base2, v2, hD2⟩ := ((SE.next ⟨B, base, v, hD⟩ k1).next j1 : SE W w1' r q n F C n F C)
      refine (rtake_any hD2.rq hk h1 h2).mono ?_
      rintro e w2 (⟨-, rfl, k2⟩ | ⟨h9, -⟩)
      · exact ⟨rfl, n, F, C, SE.next ⟨B2, base2, v2, hD2⟩ k2⟩
      · omega
theorem SE.gives (h : SE W w r q n F C n F C) (first : Int) : ∃ x g : Int, Calls Try.prog 8 #[.pointer (some ⟨r, 0, none⟩), .int .i64 first] w fun e w1 => e = .returned (.tuple #[.int .i64 x, .int .i64 g]) ∧ Kept [] W w1 ∧ ∀ w1', Kept [] w1 w1' →
    Calls Try.prog 15 #[.pointer (some ⟨q, 0, none⟩), .int .i64 first] w1' fun e w2 => e = .returned (.tuple #[.int .i64 x, .int .i64 g]) ∧ ∃ n2 F2 C2, SE W w2 r q n2 F2 C2 n2 F2 C2 := by
  obtain ⟨B, base, v, hD⟩ := h
  by_cases hb : ∃ k, k < n ∧ (F k : Int) = first
  · obtain ⟨k, hk, rfl⟩ := hb
    refine ⟨(C k : Nat), 0, (hD.sb.give hk).mono ?_⟩
    rintro e w1 ⟨rfl, hs, hkk⟩
    refine ⟨rfl, hs.kept, fun w1' j1 => ?_⟩
    obtain ⟨B2, base2, v2, hD2⟩ := (hD.one hs hkk (fun b hb => .inl hb)).next j1
    refine (rgive_at hD2.rq hk).mono ?_
    rintro e w2 ⟨v', base', rfl, hr, hkr, hbr⟩
    exact ⟨rfl, _, _, _, hD2.two hr hkr hbr⟩
  · have hno : ∀ i, i < n → (F i : Int) ≠ first := fun i hi e => hb ⟨i, hi, e⟩
    refine ⟨0, 13, (hD.sb.sq.miss hno).mono ?_⟩
    rintro e w1 ⟨rfl, k1⟩
    refine ⟨rfl, hD.sb.kept.next k1, fun w1' j1 => ?_⟩
    obtain ⟨B2, base2, v2, hD2⟩ := ((SE.next ⟨B, base, v, hD⟩ k1).next j1 : SE W w1' r q n F C n F C)
    refine (rgive_no hD2.rq hno).mono ?_
    rintro e w2 ⟨rfl, k2⟩
    exact ⟨rfl, n, F, C, SE.next ⟨B2, base2, v2, hD2⟩ k2⟩
theorem SE.ofs (h : SE W w r q n F C n F C) {page : Int} (hp : page ≤ 9223372036854775807) : ∃ (a b : Int) (t : Bool), Calls Try.prog 9 #[.pointer (some ⟨r, 0, none⟩), .int .i64 page] w fun e w1 => e = .returned (.tuple #[.int .i64 a, .int .i64 b, .bool t]) ∧ SE W w1 r q n F C n F C ∧ ∀ w1', Kept [] w1 w1' →
    Calls Try.prog 16 #[.pointer (some ⟨q, 0, none⟩), .int .i64 page] w1' fun e w2 => e = .returned (.tuple #[.int .i64 a, .int .i64 b, .bool t]) ∧ SE W w2 r q n F C n F C := by
  obtain ⟨B, base, v, hD⟩ := h
  have huniq : ∀ i j, i < n → j < n → (F i : Int) ≤ page → page < (F i : Int) + (C i : Int) → (F j : Int) ≤ page → page < (F j : Int) + (C j : Int) → i = j := by
    intro i j hi hj a1 a2 a3 a4
    have hA := hD.sb.sq.ap
    by_cases h1 : i < j
    · have := hA.far (i := i) j h1 hj; omega
    · by_cases h2 : j < i
      · have := hA.far (i := j) i h2 hi; omega
      · omega
  have two : ∀ w1, Kept [] w w1 → SE W w1 r q n F C n F C ∧ ∀ w1', Kept [] w1 w1' → Calls Try.prog 16 #[.pointer (some ⟨q, 0, none⟩), .int .i64 page] w1' fun e w2 => OfIs n F C page e ∧ SE W w2 r q n F C n F C := by
    intro w1 k1
    have h1 : SE W w1 r q n F C n F C := SE.next ⟨B, base, v, hD⟩ k1
    refine ⟨h1, fun w1' j1 => ?_⟩
    obtain ⟨B2, base2, v2, hD2⟩ := h1.next j1
    refine (rof_any hD2.rq page).mono ?_
    rintro e w2 ⟨k2, he⟩
    exact ⟨he, SE.next ⟨B2, base2, v2, hD2⟩ k2⟩
  by_cases hb : ∃ i, i < n ∧ (F i : Int) ≤ page ∧ page < (F i : Int) + (C i : Int)
  · obtain ⟨i, hi, a1, a2⟩ := hb
    refine ⟨(F i : Nat), (C i : Nat), true, (hD.sb.sq.of_hit hi a1 a2).mono ?_⟩
    rintro e w1 ⟨rfl, k1⟩
    obtain ⟨t1, t2⟩ := two w1 k1
    refine ⟨rfl, t1, fun w1' j1 => (t2 w1' j1).mono ?_⟩
    rintro e w2 ⟨⟨j, hj, b1, b2, rfl⟩ | ⟨hno, -⟩, hS⟩
    · obtain rfl := huniq i j hi hj a1 a2 b1 b2
      exact ⟨rfl, hS⟩
    · exact absurd ⟨a1, a2⟩ (hno i hi)
  · have hno : ∀ i, i < n → ¬ ((F i : Int) ≤ page ∧ page < (F i : Int) + (C i : Int)) := fun i hi h => hb ⟨i, hi, h⟩
    refine ⟨0, 0, false, (hD.sb.sq.of_none hp hno).mono ?_⟩
    rintro e w1 ⟨rfl, k1⟩
    obtain ⟨t1, t2⟩ := two w1 k1
    refine ⟨rfl, t1, fun w1' j1 => (t2 w1' j1).mono ?_⟩
    rintro e w2 ⟨⟨j, hj, b1, b2, -⟩ | ⟨-, rfl⟩, hS⟩
    · exact absurd ⟨b1, b2⟩ (hno j hj)
    · exact ⟨rfl, hS⟩
end
/-- A row of acts among the arguments. -/
def IsActs (w : World) (a : Option Addr) (len : Nat) : Prop := ∀ i, i < len → ∃ b off, ∃ x y : Int, a = some ⟨b, off, none⟩ ∧ w.cell? ⟨b, off + i * 2, none⟩ = some (.int .i64 x) ∧ w.cell? ⟨b, off + i * 2 + 1, none⟩ = some (.int .i64 y) ∧ y ≤ 9223372036854775807
theorem IsActs.kept {w w' : World} {a : Option Addr} {len : Nat} (h : IsActs w a len) (k : Kept [] w w') : IsActs w' a len := by
  intro i hi
  obtain ⟨b, off, x, y, e, c0, c1, hy⟩ := h i hi
  exact ⟨b, off, x, y, e, k.cell c0 (by simp), k.cell c1 (by simp), hy⟩
theorem list2 {α : Type} (l : List α) (h : l.length = 2) : ∃ a b, l = [a, b] := by
  match l, h with
  | [a, b], _ => exact ⟨a, b, rfl⟩
theorem open_acts {H : Type} {enc : TypeId × Value → H} {W : World} {v : Value} {d : DataW H} {p : List MemPlace} (hv : ∃ a len cap, v = .slice a len cap)
    (h : DataW.Trod enc Try.prog W 0 (fun _ => true) true 22 v d p) : ∃ a len cap, v = .slice a len cap ∧ len ≤ maxLen ∧ IsActs W a len := by
  obtain ⟨a, len, cap, rfl, hl, hx⟩ := open_structs (P := Try.prog) (kc := 2) Try.underlying22 Try.underlying39 (by kernel_rfl) (by decide) hv h
  refine ⟨a, len, cap, rfl, hl, fun i hi => ?_⟩
  obtain ⟨b, off, rfl, fuel, cs, hcs, hc, hf⟩ := hx i hi
  obtain ⟨x0, x1, rfl⟩ := list2 cs hcs
  obtain ⟨y0, h0⟩ := hf 0 _ rfl
  obtain ⟨y1, h1⟩ := hf 1 _ rfl
  have c0 := hc 0 x0 rfl
  have c1 := hc 1 x1 rfl
  have hc3 : Try.prog.cellsOf 3 = 1 := by kernel_rfl
  have h0 : DataW.trod enc Try.prog W 0 (fun _ => true) true fuel 3 (([x0, x1].drop 0).take (Try.prog.cellsOf 3)) = some y0 := h0
  have h1 : DataW.trod enc Try.prog W 0 (fun _ => true) true fuel 3 (([x0, x1].drop 1).take (Try.prog.cellsOf 3)) = some y1 := h1
  rw [hc3] at h0 h1
  obtain ⟨z0, e0, -, -⟩ := DataW.trod_int Try.underlying3 h0
  obtain ⟨z1, e1, hw, hw2⟩ := DataW.trod_int Try.underlying3 h1
  simp at e0 e1
  subst e0 e1
  exact ⟨b, off, z0, z1, rfl, c0, c1, by simp [Lit.wf, IntKind.min, IntKind.max, IntKind.signed, IntKind.bits] at hw2; omega⟩
end Go.Proofs.Ytdgmfcnblaamcaa.Sc
