
/-
  No statement of the program: the contracts of package memory, over this seat's translation (all but Read and Write).
-/
import Derived.Test.YtdgmfcnblaamcabFrm3
import Derived.Test.YtdgmfcnblaamcabTwoII
namespace Go.Proofs.Ytdgmfcnblaamcab.Me
open Go.RowKit Tb

theorem okN {x : Int} (h : -9223372036854775808 ≤ x) (h2 : x ≤ 9223372036854775807) : SI.ok x := okI_of h h2
theorem ne_of_obj {w : World} {a b : Nat} {o p : Obj} (h : w.heap[a]? = some o) (h2 : w.heap[b]? = some p) (hne : o ≠ p) : a ≠ b := by
  rintro rfl
  rw [h] at h2
  exact hne (Option.some.inj h2)
/-- A memory: block m holds its store (g, c) and its table (u, bt, bf). -/
structure MemAt (w : World) (m g c n e t : Nat) (f : Nat → UInt8) (u bt bf N : Nat) (p : Int) (to fr : Int → Option Int) : Prop where
  obj : w.heap[m]? = some (.cells #[.pointer (some ⟨g, 0, none⟩), .pointer (some ⟨u, 0, none⟩)] 43 (0, 0))
  st : Fr.StoreAt w g c n e t f
  tw : TII.TwoAt w u bt bf N p to fr

namespace MemAt
variable {w w' : World} {m g c n e t : Nat} {f : Nat → UInt8} {u bt bf N : Nat} {p : Int} {to fr : Int → Option Int} {L : List Nat}
theorem c0 (h : MemAt w m g c n e t f u bt bf N p to fr) : w.cell? ⟨m, 0, none⟩ = some (.pointer (some ⟨g, 0, none⟩)) := blk_cell h.obj 0 rfl
theorem c1 (h : MemAt w m g c n e t f u bt bf N p to fr) : w.cell? ⟨m, 1, none⟩ = some (.pointer (some ⟨u, 0, none⟩)) := blk_cell h.obj 1 rfl
theorem kept0 (h : MemAt w m g c n e t f u bt bf N p to fr) (k : Kept [] w w') : MemAt w' m g c n e t f u bt bf N p to fr :=
  ⟨k.blk h.obj (by simp), h.st.kept0 k, h.tw.kept0 k⟩
theorem row_obj (h : MemAt w m g c n e t f u bt bf N p to fr) : ∃ d : Array Value, w.heap[c]? = some (.cells d 5 (0, 0)) := by
  obtain ⟨d, hb, -, -⟩ := h.st.row
  exact ⟨d, hb⟩
/-- The bytes alone have changed. -/
theorem bytes (h : MemAt w m g c n e t f u bt bf N p to fr) {f' : Nat → UInt8} (k : Kept [c] w w') (s : Fr.StoreAt w' g c n e t f') : MemAt w' m g c n e t f' u bt bf N p to fr := by
  obtain ⟨d, hd⟩ := h.row_obj
  have h1 : m ≠ c := ne_of_obj h.obj hd (by simp)
  have h2 : u ≠ c := ne_of_obj h.tw.obj hd (by simp)
  have h3 : c ≠ bt := h.tw.mt.row_ne hd
  have h4 : c ≠ bf := h.tw.mf.row_ne hd
  exact ⟨k.blk h.obj (by simpa using h1), s, h.tw.kept k (by simpa using h2) (by simpa using fun e => h3 e.symm) (by simpa using fun e => h4 e.symm)⟩
/-- The table alone has changed. -/
theorem table (h : MemAt w m g c n e t f u bt bf N p to fr) {N' : Nat} {p' : Int} {to' fr' : Int → Option Int} (k : Kept [u, bt, bf] w w') (s : TII.TwoAt w' u bt bf N' p' to' fr') : MemAt w' m g c n e t f u bt bf N' p' to' fr' := by
  obtain ⟨d, hd⟩ := h.row_obj
  have a1 : m ≠ u := ne_of_obj h.obj h.tw.obj (by simp)
  have a2 : m ≠ bt := h.tw.mt.row_ne h.obj
  have a3 : m ≠ bf := h.tw.mf.row_ne h.obj
  have b1 : g ≠ u := ne_of_obj h.st.obj h.tw.obj (by simp)
  have b2 : g ≠ bt := h.tw.mt.row_ne h.st.obj
  have b3 : g ≠ bf := h.tw.mf.row_ne h.st.obj
  have c1 : u ≠ c := ne_of_obj h.tw.obj hd (by simp)
  have c2 : c ≠ bt := h.tw.mt.row_ne hd
  have c3 : c ≠ bf := h.tw.mf.row_ne hd
  exact ⟨k.blk h.obj (by simp [a1, a2, a3]), h.st.kept k (by simp [b1, b2, b3]) (by simp [c2, c3]; exact fun e => c1 e.symm), s⟩
theorem congr (h : MemAt w m g c n e t f u bt bf N p to fr) {to' fr' : Int → Option Int} (e1 : ∀ x, to x = to' x) (e2 : ∀ x, fr x = fr' x) : MemAt w m g c n e t f u bt bf N p to' fr' :=
  ⟨h.obj, h.st, h.tw.congr (fun x _ => e1 x) (fun x _ => e2 x)⟩
end MemAt

set_option maxHeartbeats 400000 in
theorem isMade_any (m g : Nat) (w : World) (h : w.cell? ⟨m, 0, none⟩ = some (.pointer (some ⟨g, 0, none⟩))) :
    Calls Try.prog 13 #[.pointer (some ⟨m, 0, none⟩)] w fun e w' => e = .returned (.bool true) ∧ w' = w := by
  go_enter Try.func13, Try.ntmps13
  go_wp2
  go_ret
  exact ⟨rfl, rfl⟩
/-- A frame with the bytes of another one. -/
def _root_.Go.Proofs.Ytdgmfcnblaamcab.Fr.movd (f : Nat → UInt8) (q y : Nat) : Nat → UInt8 := over f (y * 64) 64 (fun i => f (q * 64 + i))
def pageB (x : Int) : Bool := decide (0 ≤ x ∧ x < 4096)
theorem pageB_true {x : Int} (h : 0 ≤ x ∧ x < 4096) : pageB x = true := decide_eq_true h
set_option maxHeartbeats 400000 in
theorem isPage_ok (x : Int) (w : World) (h : 0 ≤ x) (h2 : x < 4096) :
    Calls Try.prog 14 #[.int .i64 x] w fun e w' => e = .returned (.bool true) ∧ w' = w := by
  go_enter Try.func14, Try.ntmps14
  go_wp2
  go_ret
  exact ⟨rfl, rfl⟩
set_option maxHeartbeats 400000 in
theorem hasFrame_ok {w : World} {m g c n e t : Nat} {f : Nat → UInt8} {u bt bf N : Nat} {p : Int} {to fr : Int → Option Int} (h : MemAt w m g c n e t f u bt bf N p to fr) (x : Int) (h1 : 0 ≤ x) (h2 : x < t) :
    Calls Try.prog 15 #[.pointer (some ⟨m, 0, none⟩), .int .i64 x] w fun e w' => e = .returned (.bool true) ∧ Kept [] w w' := by
  have H := hide h
  have c0 := h.c0
  clear h
  go_enter Try.func15, Try.ntmps15
  go_wp2_with (go_at_call 23; refine (Fr.len_any H.out.st).mono ?_; rintro r w1 ⟨rfl, k1⟩)
  go_ret
  exact ⟨rfl, k1⟩

set_option maxHeartbeats 400000 in
theorem new_ok {w : World} {g c n e t : Nat} {f : Nat → UInt8} (h : Fr.StoreAt w g c n e t f) :
    Calls Try.prog 5 #[.pointer (some ⟨g, 0, none⟩)] w fun r w' => ∃ m u bt bf : Nat, r = .returned (.tuple #[.pointer (some ⟨m, 0, none⟩), .int .i64 0]) ∧ MemAt w' m g c n e t f u bt bf 0 0 (fun _ => none) (fun _ => none) ∧
      w.heap.size ≤ m ∧ w.heap.size ≤ u ∧ w.heap.size ≤ bt ∧ w.heap.size ≤ bf ∧ Kept [] w w' := by
  have H := hide h
  clear h
  go_enter Try.func5, Try.ntmps5
  go_wp2_with fail
  refine (TII.new_ok _).mono ?_
  rintro r w1 ⟨u, bt, bf, rfl, t1, hu, hbt, hbf, k1⟩
  have T1 := hide t1
  have K1 := hide k1
  clear t1 k1
  go_wp2
  go_ret2
  have k2 : Kept [] w1 (w1.alloc (.cells #[.pointer (some ⟨g, 0, none⟩), .pointer (some ⟨u, 0, none⟩)] 43)) := (Kept.refl [] w1).alloc _
  exact ⟨w1.heap.size, u, bt, bf, rfl, ⟨Go.heap_alloc_new _ _, (H.out.kept0 K1.out).kept0 k2, T1.out.kept0 k2⟩, K1.out.size, hu, hbt, hbf, K1.out.next k2⟩
set_option maxHeartbeats 400000 in
theorem new_nil (w : World) : Calls Try.prog 5 #[.pointer none] w fun r w' => r = .returned (.tuple #[.pointer none, .int .i64 1]) ∧ w' = w := by
  go_enter Try.func5, Try.ntmps5
  go_wp2
  go_ret2
  exact ⟨rfl, rfl⟩

set_option maxHeartbeats 400000 in
/-- Map, of a page and a frame that are free. -/
theorem map_ok {w : World} {m g c n e t : Nat} {f : Nat → UInt8} {u bt bf N : Nat} {p : Int} {to fr : Int → Option Int} (h : MemAt w m g c n e t f u bt bf N p to fr) (x y : Int) (hx : 0 ≤ x) (hx2 : x < 4096) (hy : 0 ≤ y) (hy2 : y < t)
    (hn : N ≤ 1000000) (hp : -1000000 ≤ p) (hp2 : p ≤ 1000000) (h1 : to x = none) (h2 : fr y = none) :
    Calls Try.prog 7 #[.pointer (some ⟨m, 0, none⟩), .int .i64 x, .int .i64 y] w fun r w' => r = .returned (.int .i64 0) ∧ MemAt w' m g c n e t f u bt bf (N + 1) (p + 1) (mput to x y) (mput fr y x) ∧ Kept [u, bt, bf] w w' := by
  have H := hide h
  have H1 := hide h1
  have H2 := hide h2
  have c0 := h.c0
  have ht := h.st.t8192
  clear h h1 h2
  go_enter Try.func7, Try.ntmps7
  go_wp2_with fail
  refine (isMade_any m g _ c0).mono ?_
  rintro r w0 ⟨rfl, hw0⟩
  subst w0
  go_wp2_with fail
  refine (isPage_ok x _ hx hx2).mono ?_
  rintro r w0 ⟨rfl, hw0⟩
  subst w0
  go_wp2_with fail
  refine (hasFrame_ok H.out y hy hy2).mono ?_
  rintro r w1 ⟨rfl, k1⟩
  have M1 := hide (H.out.kept0 k1)
  have K1 := hide k1
  have c1 := M1.out.c1
  clear H k1 c0
  go_wp2_with fail
  refine (TII.map_ok x y (okN (by omega) (by omega)) (okN (by omega) (by omega)) M1.out.tw hn hp hp2 (by rw [H1.out]; rfl) (by rw [H2.out]; rfl)).mono ?_
  rintro r w2 ⟨rfl, t2, k2⟩
  have R := hide (And.intro (M1.out.table k2 t2) ((K1.out.mono (M := [u, bt, bf]) (by simp)).trans k2 (by intro x hx _; exact hx)))
  clear t2 k2 K1 M1 c1
  go_wp2
  go_ret
  exact ⟨rfl, R.out⟩

set_option maxHeartbeats 400000 in
/-- Move, to a frame that is free. -/
theorem move_ok {w : World} {m g c n e t : Nat} {f : Nat → UInt8} {u bt bf N : Nat} {p : Int} {to fr : Int → Option Int} (h : MemAt w m g c n e t f u bt bf N p to fr) (x : Int) (y q : Nat) (hx : 0 ≤ x) (hx2 : x < 4096) (hy2 : y < t) (hq : q < t)
    (hn : N ≤ 1000000) (hp : -999999 ≤ p) (hp2 : p ≤ 1000000) (h1 : to x = some (q : Int)) (h2 : fr y = none) :
    Calls Try.prog 11 #[.pointer (some ⟨m, 0, none⟩), .int .i64 x, .int .i64 y] w fun r w' => r = .returned (.tuple #[.int .i64 q, .int .i64 0]) ∧
      MemAt w' m g c n e t (Fr.movd f q y) u bt bf (N + 1) p (mput (mdel to x) x y) (mput (mdel fr q) y x) ∧ Kept [c, u, bt, bf] w w' := by
  have H := hide h
  have H1 := hide h1
  have H2 := hide h2
  have c0 := h.c0
  have ht := h.st.t8192
  clear h h1 h2
  go_enter Try.func11, Try.ntmps11
  go_wp2_with fail
  refine (isMade_any m g _ c0).mono ?_
  rintro r w0 ⟨rfl, hw0⟩
  subst w0
  go_wp2_with fail
  refine (isPage_ok x _ hx hx2).mono ?_
  rintro r w0 ⟨rfl, hw0⟩
  subst w0
  go_wp2_with fail
  refine (hasFrame_ok H.out y (by omega) (by omega)).mono ?_
  rintro r w1 ⟨rfl, k1⟩
  have M1 := hide (H.out.kept0 k1)
  have K1 := hide k1
  have c1 := M1.out.c1
  clear H k1 c0
  go_wp2_with fail
  refine (TII.remap_ok x q y (okN (by omega) (by omega)) (okN (by omega) (by omega)) (okN (by omega) (by omega)) M1.out.tw hn hp hp2 H1.out H2.out).mono ?_
  rintro r w2 ⟨rfl, t2, k2⟩
  have M2 := hide (M1.out.table k2 t2)
  have K2 := hide ((K1.out.mono (M := [c, u, bt, bf]) (by simp)).trans k2 (by intro x hx _; exact List.mem_cons_of_mem _ hx))
  have c0 := M2.out.c0
  clear t2 k2 K1 M1 c1
  go_wp2_with fail
  refine (Fr.copy_ok q y M2.out.st hq hy2).mono ?_
  rintro r w3 ⟨rfl, s3, k3⟩
  have R := hide (And.intro (M2.out.bytes k3 s3) (K2.out.trans k3 (by intro x hx _; simp at hx; simp [hx])))
  clear s3 k3 K2 M2 c0
  go_wp2
  go_ret2
  exact ⟨rfl, R.out⟩
set_option maxHeartbeats 400000 in
/-- Move, to a frame that is taken. -/
theorem move_bad {w : World} {m g c n e t : Nat} {f : Nat → UInt8} {u bt bf N : Nat} {p : Int} {to fr : Int → Option Int} (h : MemAt w m g c n e t f u bt bf N p to fr) (x y : Int) (hx : 0 ≤ x) (hx2 : x < 4096) (hy : 0 ≤ y) (hy2 : y < t)
    (h2 : (fr y).isSome = true) :
    Calls Try.prog 11 #[.pointer (some ⟨m, 0, none⟩), .int .i64 x, .int .i64 y] w fun r w' => r = .returned (.tuple #[.int .i64 0, .int .i64 9]) ∧ Kept [] w w' := by
  have H := hide h
  have H2 := hide h2
  have c0 := h.c0
  have ht := h.st.t8192
  clear h h2
  go_enter Try.func11, Try.ntmps11
  go_wp2_with fail
  refine (isMade_any m g _ c0).mono ?_
  rintro r w0 ⟨rfl, hw0⟩
  subst w0
  go_wp2_with fail
  refine (isPage_ok x _ hx hx2).mono ?_
  rintro r w0 ⟨rfl, hw0⟩
  subst w0
  go_wp2_with fail
  refine (hasFrame_ok H.out y (by omega) (by omega)).mono ?_
  rintro r w1 ⟨rfl, k1⟩
  have M1 := hide (H.out.kept0 k1)
  have K1 := hide k1
  have c1 := M1.out.c1
  clear H k1 c0
  go_wp2_with fail
  refine (TII.remap_bad x y (okN (by omega) (by omega)) M1.out.tw H2.out).mono ?_
  rintro r w2 ⟨rfl, k2⟩
  have K2 := hide (K1.out.next k2)
  clear k2 K1 M1 c1
  go_wp2
  go_ret2
  exact ⟨rfl, K2.out⟩

set_option maxHeartbeats 400000 in
theorem frame_any {w : World} {m g c n e t : Nat} {f : Nat → UInt8} {u bt bf N : Nat} {p : Int} {to fr : Int → Option Int} (h : MemAt w m g c n e t f u bt bf N p to fr) (x : Int) (hx : SI.ok x) (y : Int) (bo : Bool) (hy : (to x).getD 0 = y) (hb : (to x).isSome = bo) :
    Calls Try.prog 28 #[.pointer (some ⟨m, 0, none⟩), .int .i64 x] w fun r w' => r = .returned (.tuple #[.int .i64 y, .bool bo]) ∧ Kept [] w w' := by
  have H := hide h
  have HY := hide hy
  have HB := hide hb
  have c0 := h.c0
  clear h hy hb
  go_enter Try.func28, Try.ntmps28
  go_wp2_with fail
  refine (isMade_any m g _ c0).mono ?_
  rintro r w0 ⟨rfl, hw0⟩
  subst w0
  have c1 := H.out.c1
  go_wp2_with fail
  refine (TII.to_any x hx H.out.tw y bo HY.out HB.out).mono ?_
  rintro r w1 ⟨rfl, k1⟩
  go_wp2
  go_ret2
  exact ⟨rfl, k1⟩
set_option maxHeartbeats 400000 in
theorem mapped_any {w : World} {m g c n e t : Nat} {f : Nat → UInt8} {u bt bf N : Nat} {p : Int} {to fr : Int → Option Int} (h : MemAt w m g c n e t f u bt bf N p to fr) :
    Calls Try.prog 12 #[.pointer (some ⟨m, 0, none⟩)] w fun r w' => r = .returned (.int .i64 p) ∧ w' = w := by
  have H := hide h
  have c0 := h.c0
  clear h
  go_enter Try.func12, Try.ntmps12
  go_wp2_with fail
  refine (isMade_any m g _ c0).mono ?_
  rintro r w0 ⟨rfl, hw0⟩
  subst w0
  have c1 := H.out.c1
  go_wp2_with fail
  refine (TII.len_any H.out.tw).mono ?_
  rintro r w1 ⟨rfl, hw1⟩
  subst w1
  go_wp2
  go_ret
  exact ⟨rfl, rfl⟩
end Go.Proofs.Ytdgmfcnblaamcab.Me
