
/-
  No statement of the program: the contracts of package table at one pair of types (numbers and numbers), over this seat's translation.
-/
import Derived.Test.YtdgmfcnblaamcabPairII
namespace Go.Proofs.Ytdgmfcnblaamcab.Tb.TII
open Go.RowKit

/-- A table in memory: block g holds its two maps and its count, blocks bt and bf the maps. -/
structure TwoAt (w : World) (g bt bf n : Nat) (p : Int) (to : Int → Option Int) (fr : Int → Option Int) : Prop where
  obj : w.heap[g]? = some (.cells #[.map (some bt), .map (some bf), .int .i64 p] 57 (0, 0))
  mt : MapAt SI SI w bt n to
  mf : MapAt SI SI w bf n fr
  ne : bt ≠ bf

namespace TwoAt
variable {w w' : World} {g bt bf n : Nat} {p : Int} {to : Int → Option Int} {fr : Int → Option Int} {L : List Nat}
theorem c0 (h : TwoAt w g bt bf n p to fr) : w.cell? ⟨g, 0, none⟩ = some (.map (some bt)) := blk_cell h.obj 0 rfl
theorem c1 (h : TwoAt w g bt bf n p to fr) : w.cell? ⟨g, 1, none⟩ = some (.map (some bf)) := blk_cell h.obj 1 rfl
theorem c2 (h : TwoAt w g bt bf n p to fr) : w.cell? ⟨g, 2, none⟩ = some (.int .i64 p) := blk_cell h.obj 2 rfl
theorem fz (h : TwoAt w g bt bf n p to fr) (i : Nat) : w.frozen? ⟨g, i, none⟩ = false := blk_free h.obj i
theorem gt (h : TwoAt w g bt bf n p to fr) : g ≠ bt := h.mt.row_ne h.obj
theorem gf (h : TwoAt w g bt bf n p to fr) : g ≠ bf := h.mf.row_ne h.obj
theorem kept (h : TwoAt w g bt bf n p to fr) (k : Kept L w w') (hg : g ∉ L) (h1 : bt ∉ L) (h2 : bf ∉ L) : TwoAt w' g bt bf n p to fr :=
  ⟨k.blk h.obj hg, h.mt.kept k h1, h.mf.kept k h2, h.ne⟩
theorem kept0 (h : TwoAt w g bt bf n p to fr) (k : Kept [] w w') : TwoAt w' g bt bf n p to fr := h.kept k (by simp) (by simp) (by simp)
theorem mono (h : TwoAt w g bt bf n p to fr) {n' : Nat} (hn : n ≤ n') : TwoAt w g bt bf n' p to fr := ⟨h.obj, h.mt.mono hn, h.mf.mono hn, h.ne⟩
theorem congr (h : TwoAt w g bt bf n p to fr) {to' : Int → Option Int} {fr' : Int → Option Int} (e1 : ∀ x, (SI).ok x → to x = to' x) (e2 : ∀ x, (SI).ok x → fr x = fr' x) : TwoAt w g bt bf n p to' fr' :=
  ⟨h.obj, h.mt.congr e1, h.mf.congr e2, h.ne⟩
theorem count (h : TwoAt w g bt bf n p to fr) (q : Int) : TwoAt (w.setCell ⟨g, 2, none⟩ (.int .i64 q)) g bt bf n q to fr := by
  have h1 := h.gt
  have h2 := h.gf
  refine ⟨?_, h.mt.of_block (heap_setCell_other w ⟨g, 2, none⟩ bt _ (fun e => h1 e.symm)), h.mf.of_block (heap_setCell_other w ⟨g, 2, none⟩ bf _ (fun e => h2 e.symm)), h.ne⟩
  simp [World.setCell, Array.getElem?_modify, h.obj]
end TwoAt

set_option maxHeartbeats 400000 in
theorem isMade_any (g bt : Nat) (w : World) (h : w.cell? ⟨g, 0, none⟩ = some (.map (some bt))) :
    Calls Try.prog 24 #[.pointer (some ⟨g, 0, none⟩)] w fun e w' => e = .returned (.bool true) ∧ w' = w := by
  have hnn := fun w => run_neq_map_nil (P := Try.prog) w 55 (SI).t (SI).t (some bt) PII.tm
  go_enter Try.func24, Try.ntmps24
  go_wp2
  go_ret
  exact ⟨rfl, rfl⟩

set_option maxHeartbeats 400000 in
theorem new_walk (w : World) :
    Calls Try.prog 10 #[] w fun e w' => e = .returned (.pointer (some ⟨w.heap.size + 2, 0, none⟩)) ∧ w' = ((w.alloc (.map #[] 0)).alloc (.map #[] 0)).alloc (.cells #[.map (some w.heap.size), .map (some (w.heap.size + 1)), .int .i64 0] 57) := by
  have hmm := @run_makeMap Try.prog
  go_enter Try.func10, Try.ntmps10
  go_wp2
  go_ret
  exact ⟨rfl, rfl⟩
theorem new_ok (w : World) :
    Calls Try.prog 10 #[] w fun e w' => ∃ g bt bf : Nat, e = .returned (.pointer (some ⟨g, 0, none⟩)) ∧ TwoAt w' g bt bf 0 0 (fun _ => none) (fun _ => none) ∧ w.heap.size ≤ g ∧ w.heap.size ≤ bt ∧ w.heap.size ≤ bf ∧ Kept [] w w' := by
  refine (new_walk w).mono ?_
  rintro e w' ⟨rfl, rfl⟩
  have k1 := (Kept.refl [] w).alloc (.map #[] 0)
  have k2 : Kept [] (w.alloc (.map #[] 0)) (((w.alloc (.map #[] 0)).alloc (.map #[] 0)).alloc (.cells #[.map (some w.heap.size), .map (some (w.heap.size + 1)), .int .i64 0] 57)) := ((Kept.refl [] _).alloc _).alloc _
  have k3 : Kept [] ((w.alloc (.map #[] 0)).alloc (.map #[] 0)) (((w.alloc (.map #[] 0)).alloc (.map #[] 0)).alloc (.cells #[.map (some w.heap.size), .map (some (w.heap.size + 1)), .int .i64 0] 57)) := (Kept.refl [] _).alloc _
  have m1 : MapAt SI SI (w.alloc (.map #[] 0)) w.heap.size 0 (fun _ => none) := MapAt.made w
  have m2 : MapAt SI SI ((w.alloc (.map #[] 0)).alloc (.map #[] 0)) (w.heap.size + 1) 0 (fun _ => none) := by
    have := MapAt.made (A := SI) (B := SI) (w.alloc (.map #[] 0))
    rwa [show (w.alloc (.map #[] 0)).heap.size = w.heap.size + 1 by simp] at this
  refine ⟨w.heap.size + 2, w.heap.size, w.heap.size + 1, rfl, ⟨?_, m1.kept k2 (by simp), m2.kept k3 (by simp), by omega⟩, by omega, by omega, by omega, k1.next k2⟩
  have e : ((w.alloc (.map #[] 0)).alloc (.map #[] 0)).heap.size = w.heap.size + 2 := by simp
  rw [← e]
  exact Go.heap_alloc_new _ _

set_option maxHeartbeats 400000 in
/-- Map, of two that have nothing. -/
theorem map_ok {w : World} {g bt bf n : Nat} {p : Int} {to : Int → Option Int} {fr : Int → Option Int} (a : Int) (b : Int) (ha : (SI).ok a) (hb : (SI).ok b) (h : TwoAt w g bt bf n p to fr) (hn : n ≤ 1000000) (hp : -1000000 ≤ p) (hp2 : p ≤ 1000000)
    (h1 : (to a).isSome = false) (h2 : (fr b).isSome = false) :
    Calls Try.prog 16 #[.pointer (some ⟨g, 0, none⟩), .int .i64 a, .int .i64 b] w fun e w' => e = .returned (.int .i64 0) ∧ TwoAt w' g bt bf (n + 1) (p + 1) (mput to a b) (mput fr b a) ∧ Kept [g, bt, bf] w w' := by
  have H := hide h
  have H1 := hide h1
  have H2 := hide h2
  have c0 := h.c0
  clear h h1 h2
  go_enter Try.func16, Try.ntmps16
  go_wp2_with fail
  refine (isMade_any g bt _ c0).mono ?_
  rintro e w0 ⟨rfl, hw0⟩
  subst w0
  go_wp2_with fail
  refine (PII.has_any a ha H.out.mt false H1.out).mono ?_
  rintro e w1 ⟨rfl, k1⟩
  have T1 := hide (H.out.kept0 k1)
  have c1 := T1.out.c1
  have K1 := hide k1
  clear k1 H c0
  go_wp2_with fail
  refine (PII.has_any b hb T1.out.mf false H2.out).mono ?_
  rintro e w2 ⟨rfl, k2⟩
  have T2 := hide (T1.out.kept0 k2)
  have c0 := T2.out.c0
  have K2 := hide (K1.out.next k2)
  clear k2 T1 c1 K1
  go_wp2_with fail
  refine (PII.keep_any a ha b hb T2.out.mt hn).mono ?_
  rintro e w3 ⟨rfl, hm3, k3⟩
  have hobj := k3.blk T2.out.obj (by simp [T2.out.gt])
  have hmf := T2.out.mf.kept k3 (by simp; exact fun e => T2.out.ne e.symm)
  have c1 : w3.cell? ⟨g, 1, none⟩ = some (.map (some bf)) := blk_cell hobj 1 rfl
  have NE := hide T2.out.ne
  have GF := hide T2.out.gf
  have R3 := hide (And.intro hobj (And.intro hm3 hmf))
  have K3 := hide ((K2.out.mono (M := [g, bt, bf]) (by simp)).trans k3 (by intro x hx; simp at hx; simp [hx]))
  clear k3 hm3 hobj hmf T2 c0 K2
  go_wp2_with fail
  refine (PII.keep_any b hb a ha R3.out.2.2 hn).mono ?_
  rintro e w4 ⟨rfl, hm4, k4⟩
  have T4 : TwoAt w4 g bt bf (n + 1) p (mput to a b) (mput fr b a) := ⟨k4.blk R3.out.1 (by simp; exact GF.out), R3.out.2.1.kept k4 (by simp; exact NE.out), hm4, NE.out⟩
  have c2 := T4.c2
  have fz := T4.fz 2
  have R4 := hide (And.intro (T4.count (p + 1)) ((K3.out.trans k4 (by intro x hx; simp at hx; simp [hx])).setCell (p := ⟨g, 2, none⟩) (by simp) (.int .i64 (p + 1))))
  clear T4 k4 hm4 K3 R3 NE GF c1
  go_wp2
  go_ret
  exact ⟨rfl, R4.out⟩
set_option maxHeartbeats 400000 in
/-- Map, of two of which one has something. -/
theorem map_bad {w : World} {g bt bf n : Nat} {p : Int} {to : Int → Option Int} {fr : Int → Option Int} (a : Int) (b : Int) (ha : (SI).ok a) (hb : (SI).ok b) (h : TwoAt w g bt bf n p to fr)
    (h1 : (to a).isSome = true ∨ (to a).isSome = false ∧ (fr b).isSome = true) :
    Calls Try.prog 16 #[.pointer (some ⟨g, 0, none⟩), .int .i64 a, .int .i64 b] w fun e w' => e = .returned (.int .i64 9) ∧ Kept [] w w' := by
  have H := hide h
  have c0 := h.c0
  clear h
  rcases h1 with h1 | ⟨h1, h2⟩
  · have H1 := hide h1
    clear h1
    go_enter Try.func16, Try.ntmps16
    go_wp2_with fail
    refine (isMade_any g bt _ c0).mono ?_
    rintro e w0 ⟨rfl, hw0⟩
    subst w0
    go_wp2_with fail
    refine (PII.has_any a ha H.out.mt true H1.out).mono ?_
    rintro e w1 ⟨rfl, k1⟩
    go_wp2
    go_ret
    exact ⟨rfl, k1⟩
  · have H1 := hide h1
    have H2 := hide h2
    clear h1 h2
    go_enter Try.func16, Try.ntmps16
    go_wp2_with fail
    refine (isMade_any g bt _ c0).mono ?_
    rintro e w0 ⟨rfl, hw0⟩
    subst w0
    go_wp2_with fail
    refine (PII.has_any a ha H.out.mt false H1.out).mono ?_
    rintro e w1 ⟨rfl, k1⟩
    have T1 := hide (H.out.kept0 k1)
    have c1 := T1.out.c1
    have K1 := hide k1
    clear k1 H c0
    go_wp2_with fail
    refine (PII.has_any b hb T1.out.mf true H2.out).mono ?_
    rintro e w2 ⟨rfl, k2⟩
    go_wp2
    go_ret
    exact ⟨rfl, K1.out.next k2⟩

set_option maxHeartbeats 400000 in
/-- Unmap, of one that has something. -/
theorem unmap_ok {w : World} {g bt bf n : Nat} {p : Int} {to : Int → Option Int} {fr : Int → Option Int} (a : Int) (b : Int) (ha : (SI).ok a) (hb : (SI).ok b) (h : TwoAt w g bt bf n p to fr) (hp : -1000000 ≤ p) (hp2 : p ≤ 1000000)
    (h1 : to a = some b) :
    Calls Try.prog 31 #[.pointer (some ⟨g, 0, none⟩), .int .i64 a] w fun e w' => e = .returned (.tuple #[.int .i64 b, .int .i64 0]) ∧ TwoAt w' g bt bf n (p - 1) (mdel to a) (mdel fr b) ∧ Kept [g, bt, bf] w w' := by
  have H := hide h
  have H1 := hide h1
  have c0 := h.c0
  clear h h1
  go_enter Try.func31, Try.ntmps31
  go_wp2_with fail
  refine (isMade_any g bt _ c0).mono ?_
  rintro e w0 ⟨rfl, hw0⟩
  subst w0
  go_wp2_with fail
  refine (PII.find_any a ha H.out.mt b true (by rw [H1.out]; rfl) (by rw [H1.out]; rfl)).mono ?_
  rintro e w2 ⟨rfl, k2⟩
  have T2 := hide (H.out.kept0 k2)
  have K2 := hide k2
  clear k2 H c0
  have c0 := T2.out.c0
  go_wp2_with fail
  refine (PII.drop_any a ha T2.out.mt).mono ?_
  rintro e w3 ⟨rfl, hm3, k3⟩
  have hobj := k3.blk T2.out.obj (by simp [T2.out.gt])
  have hmf := T2.out.mf.kept k3 (by simp; exact fun e => T2.out.ne e.symm)
  have c1 : w3.cell? ⟨g, 1, none⟩ = some (.map (some bf)) := blk_cell hobj 1 rfl
  have NE := hide T2.out.ne
  have GF := hide T2.out.gf
  have R3 := hide (And.intro hobj (And.intro hm3 hmf))
  have K3 := hide ((K2.out.mono (M := [g, bt, bf]) (by simp)).trans k3 (by intro x hx; simp at hx; simp [hx]))
  clear k3 hm3 hobj hmf T2 c0 K2
  go_wp2_with fail
  refine (PII.drop_any b hb R3.out.2.2).mono ?_
  rintro e w4 ⟨rfl, hm4, k4⟩
  have T4 : TwoAt w4 g bt bf n p (mdel to a) (mdel fr b) := ⟨k4.blk R3.out.1 (by simp; exact GF.out), R3.out.2.1.kept k4 (by simp; exact NE.out), hm4, NE.out⟩
  have c2 := T4.c2
  have fz := T4.fz 2
  have R4 := hide (And.intro (T4.count (p - 1)) ((K3.out.trans k4 (by intro x hx; simp at hx; simp [hx])).setCell (p := ⟨g, 2, none⟩) (by simp) (.int .i64 (p - 1))))
  clear T4 k4 hm4 K3 R3 NE GF c1
  go_wp2
  go_ret2
  exact ⟨rfl, R4.out⟩
set_option maxHeartbeats 400000 in
/-- Unmap, of one that has nothing. -/
theorem unmap_bad {w : World} {g bt bf n : Nat} {p : Int} {to : Int → Option Int} {fr : Int → Option Int} (a : Int) (ha : (SI).ok a) (h : TwoAt w g bt bf n p to fr) (h1 : to a = none) :
    Calls Try.prog 31 #[.pointer (some ⟨g, 0, none⟩), .int .i64 a] w fun e w' => e = .returned (.tuple #[.int .i64 0, .int .i64 9]) ∧ Kept [] w w' := by
  have H := hide h
  have H1 := hide h1
  have c0 := h.c0
  clear h h1
  go_enter Try.func31, Try.ntmps31
  go_wp2_with fail
  refine (isMade_any g bt _ c0).mono ?_
  rintro e w0 ⟨rfl, hw0⟩
  subst w0
  go_wp2_with fail
  refine (PII.find_any a ha H.out.mt 0 false (by rw [H1.out]; rfl) (by rw [H1.out]; rfl)).mono ?_
  rintro e w2 ⟨rfl, k2⟩
  go_wp2
  go_ret2
  exact ⟨rfl, k2⟩

set_option maxHeartbeats 400000 in
/-- Remap, of one that has something to one that has nothing. -/
theorem remap_ok {w : World} {g bt bf n : Nat} {p : Int} {to : Int → Option Int} {fr : Int → Option Int} (a : Int) (b c : Int) (ha : (SI).ok a) (hb : (SI).ok b) (hc : (SI).ok c) (h : TwoAt w g bt bf n p to fr) (hn : n ≤ 1000000) (hp : -999999 ≤ p) (hp2 : p ≤ 1000000)
    (h1 : to a = some b) (h2 : fr c = none) :
    Calls Try.prog 20 #[.pointer (some ⟨g, 0, none⟩), .int .i64 a, .int .i64 c] w fun e w' => e = .returned (.tuple #[.int .i64 b, .int .i64 0]) ∧ TwoAt w' g bt bf (n + 1) p (mput (mdel to a) a c) (mput (mdel fr b) c a) ∧ Kept [g, bt, bf] w w' := by
  have H := hide h
  have H1 := hide h1
  have H2 := hide h2
  have E1 : (mdel to a a).isSome = false := by rw [mdel_same]; rfl
  have E2 : (mdel fr b c).isSome = false := by
    unfold mdel; split
    · rfl
    · rw [h2]; rfl
  have HE1 := hide E1
  have HE2 := hide E2
  have c0 := h.c0
  clear h h1 h2 E1 E2
  go_enter Try.func20, Try.ntmps20
  go_wp2_with fail
  refine (isMade_any g bt _ c0).mono ?_
  rintro e w0 ⟨rfl, hw0⟩
  subst w0
  have c1 := H.out.c1
  go_wp2_with fail
  refine (PII.has_any c hc H.out.mf false (by rw [H2.out]; rfl)).mono ?_
  rintro e w1 ⟨rfl, k1⟩
  have T1 := hide (H.out.kept0 k1)
  have K1 := hide k1
  clear k1 H c0 c1
  go_wp2_with fail
  refine (unmap_ok a b ha hb T1.out (by omega) hp2 H1.out).mono ?_
  rintro e w2 ⟨rfl, t2, k2⟩
  have T2 := hide t2
  have K2 := hide ((K1.out.mono (M := [g, bt, bf]) (by simp)).trans k2 (by intro x hx _; exact hx))
  clear t2 k2 T1 K1
  go_wp2_with fail
  refine (map_ok a c ha hc T2.out hn (by omega) (by omega) HE1.out HE2.out).mono ?_
  rintro e w3 ⟨rfl, t3, k3⟩
  rw [show p - 1 + 1 = p by omega] at t3
  have R3 := hide (And.intro t3 (K2.out.trans k3 (by intro x hx _; exact hx)))
  clear t3 k3 T2 K2
  go_wp2
  go_ret2
  exact ⟨rfl, R3.out⟩
set_option maxHeartbeats 400000 in
/-- Remap, to one that has something. -/
theorem remap_bad {w : World} {g bt bf n : Nat} {p : Int} {to : Int → Option Int} {fr : Int → Option Int} (a : Int) (c : Int) (hc : (SI).ok c) (h : TwoAt w g bt bf n p to fr) (h2 : (fr c).isSome = true) :
    Calls Try.prog 20 #[.pointer (some ⟨g, 0, none⟩), .int .i64 a, .int .i64 c] w fun e w' => e = .returned (.tuple #[.int .i64 0, .int .i64 9]) ∧ Kept [] w w' := by
  have H := hide h
  have H2 := hide h2
  have c0 := h.c0
  clear h h2
  go_enter Try.func20, Try.ntmps20
  go_wp2_with fail
  refine (isMade_any g bt _ c0).mono ?_
  rintro e w0 ⟨rfl, hw0⟩
  subst w0
  have c1 := H.out.c1
  go_wp2_with fail
  refine (PII.has_any c hc H.out.mf true H2.out).mono ?_
  rintro e w1 ⟨rfl, k1⟩
  go_wp2
  go_ret2
  exact ⟨rfl, k1⟩

set_option maxHeartbeats 400000 in
theorem to_any {w : World} {g bt bf n : Nat} {p : Int} {to : Int → Option Int} {fr : Int → Option Int} (a : Int) (ha : (SI).ok a) (h : TwoAt w g bt bf n p to fr) (y : Int) (bo : Bool) (hy : (to a).getD 0 = y) (hb : (to a).isSome = bo) :
    Calls Try.prog 35 #[.pointer (some ⟨g, 0, none⟩), .int .i64 a] w fun e w' => e = .returned (.tuple #[.int .i64 y, .bool bo]) ∧ Kept [] w w' := by
  have H := hide h
  have HY := hide hy
  have HB := hide hb
  have c0 := h.c0
  clear h hy hb
  go_enter Try.func35, Try.ntmps35
  go_wp2_with fail
  refine (isMade_any g bt _ c0).mono ?_
  rintro e w0 ⟨rfl, hw0⟩
  subst w0
  go_wp2_with fail
  refine (PII.find_any a ha H.out.mt y bo HY.out HB.out).mono ?_
  rintro e w2 ⟨rfl, k2⟩
  go_wp2
  go_ret2
  exact ⟨rfl, k2⟩
set_option maxHeartbeats 400000 in
theorem len_any {w : World} {g bt bf n : Nat} {p : Int} {to : Int → Option Int} {fr : Int → Option Int} (h : TwoAt w g bt bf n p to fr) :
    Calls Try.prog 22 #[.pointer (some ⟨g, 0, none⟩)] w fun e w' => e = .returned (.int .i64 p) ∧ w' = w := by
  have c0 := h.c0
  have c2 := h.c2
  clear h
  go_enter Try.func22, Try.ntmps22
  go_wp2_with fail
  refine (isMade_any g bt _ c0).mono ?_
  rintro e w0 ⟨rfl, hw0⟩
  subst w0
  go_wp2
  go_ret
  exact ⟨rfl, rfl⟩
end Go.Proofs.Ytdgmfcnblaamcab.Tb.TII
