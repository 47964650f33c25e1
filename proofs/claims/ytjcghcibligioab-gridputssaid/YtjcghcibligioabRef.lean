/-
  No statement of the program: the contracts of the document's own table (messuageref02), and of the statements' helper 'same', over this seat's translation.
-/
import Derived.Test.YtjcghcibligioabGridI
namespace Go.Proofs.Ytjcghcibligioab.RF
open Go.RowKit GI

structure RefAt (w : World) (g c m n : Nat) (f : Nat → Int) : Prop where
  obj : w.heap[g]? = some (.cells #[.int .i64 m, .int .i64 n, .slice (some ⟨c, 0, none⟩) (m * n) (m * n)] 66 (0, 0))
  row : w.rowIs c 3 (m * n) (fun i => .int .i64 (f i))
  m64 : m ≤ 64
  n64 : n ≤ 64

namespace RefAt
variable {w w' : World} {g c m n : Nat} {f : Nat → Int} {L : List Nat}
theorem c0 (h : RefAt w g c m n f) : w.cell? ⟨g, 0, none⟩ = some (.int .i64 m) := blk_cell h.obj 0 rfl
theorem c1 (h : RefAt w g c m n f) : w.cell? ⟨g, 1, none⟩ = some (.int .i64 n) := blk_cell h.obj 1 rfl
theorem c2 (h : RefAt w g c m n f) : w.cell? ⟨g, 2, none⟩ = some (.slice (some ⟨c, 0, none⟩) (m * n) (m * n)) := blk_cell h.obj 2 rfl
theorem kept (h : RefAt w g c m n f) (k : Kept L w w') (hg : g ∉ L) (hc : c ∉ L) : RefAt w' g c m n f :=
  ⟨k.blk h.obj hg, k.row h.row hc, h.m64, h.n64⟩
theorem ne (h : RefAt w g c m n f) : g ≠ c := by
  rintro rfl
  obtain ⟨d, hb, -, -⟩ := h.row
  have h2 := h.obj
  rw [hb] at h2
  simp at h2
theorem glt (h : RefAt w g c m n f) : g < w.heap.size := lt_of_blk h.obj
theorem clt (h : RefAt w g c m n f) : c < w.heap.size := h.row.lt
theorem congr (h : RefAt w g c m n f) {f' : Nat → Int} (e : ∀ i, i < m * n → f i = f' i) : RefAt w g c m n f' :=
  ⟨h.obj, h.row.congr (fun i hi => by rw [e i hi]), h.m64, h.n64⟩
theorem set (h : RefAt w g c m n f) (i : Nat) (x : Int) : RefAt (w.setCell ⟨c, i, none⟩ (.int .i64 x)) g c m n (fun j => if j = i then x else f j) :=
  ⟨(heap_setCell_other w _ g _ h.ne).trans h.obj, (h.row.set i (.int .i64 x)).congr (fun j _ => by by_cases e : j = i <;> simp [e]), h.m64, h.n64⟩
end RefAt

set_option maxHeartbeats 400000 in
theorem new_walk (m n : Nat) (w : World) (hm : m ≤ 64) (hn : n ≤ 64) :
    Calls Try.prog 17 #[.int .i64 m, .int .i64 n] w fun e w' => e = .returned (.pointer (some ⟨w.heap.size + 1, 0, none⟩)) ∧
      w' = (w.alloc (.cells (madeCells #[.int .i64 0] (m * n)) 3)).alloc (.cells #[.int .i64 m, .int .i64 n, .slice (some ⟨w.heap.size, 0, none⟩) (m * n) (m * n)] 66) := by
  have hb := pos_le (Nat.le_refl m) hm hn
  have hmk := run_make_row' (P := Try.prog) 31 3 (.int .i64 0) 8 Try.underlying31 info rfl .i64 .i64 (m * n) (by omega) (by omega)
  rw [show (((m * n : Nat)) : Int) = (m : Int) * (n : Int) from Int.natCast_mul m n] at hmk
  go_enter Try.func17, Try.ntmps17
  go_wp2
  go_ret
  exact ⟨rfl, rfl⟩
theorem new_ok (m n : Nat) {w : World} (hm : m ≤ 64) (hn : n ≤ 64) :
    Calls Try.prog 17 #[.int .i64 m, .int .i64 n] w fun e w' => ∃ g c : Nat, e = .returned (.pointer (some ⟨g, 0, none⟩)) ∧ RefAt w' g c m n (fun _ => 0) ∧ w.heap.size ≤ g ∧ w.heap.size ≤ c ∧ Kept [] w w' := by
  refine (new_walk m n w hm hn).mono ?_
  rintro e w' ⟨rfl, rfl⟩
  refine ⟨w.heap.size + 1, w.heap.size, rfl, ⟨?_, ?_, hm, hn⟩, by omega, by omega, ((Kept.refl _ _).alloc _).alloc _⟩
  · exact heap_alloc2_new _ _ _
  · exact (World.rowIs_made w (.int .i64 0) (m * n) 3).alloc _

set_option maxHeartbeats 400000 in
theorem has_any (g : Nat) (m n r c : Int) (w : World) (h0 : w.cell? ⟨g, 0, none⟩ = some (.int .i64 m)) (h1 : w.cell? ⟨g, 1, none⟩ = some (.int .i64 n)) :
    Calls Try.prog 18 #[.pointer (some ⟨g, 0, none⟩), .int .i64 r, .int .i64 c] w fun e w' => e = .returned (.bool (hasB m n r c)) ∧ w' = w := by
  rcases (show r < 0 ∨ (0 ≤ r ∧ m ≤ r) ∨ (0 ≤ r ∧ r < m ∧ c < 0) ∨ (0 ≤ r ∧ r < m ∧ 0 ≤ c ∧ n ≤ c) ∨ (0 ≤ r ∧ r < m ∧ 0 ≤ c ∧ c < n) from by omega) with h | ⟨ha, hb⟩ | ⟨ha, hb, hc⟩ | ⟨ha, hb, hc, hd⟩ | ⟨ha, hb, hc, hd⟩
  all_goals
    go_enter Try.func18, Try.ntmps18
    go_wp2
    go_ret
  · exact ⟨ret_bool (hasB_false (by omega)).symm, rfl⟩
  · exact ⟨ret_bool (hasB_false (by omega)).symm, rfl⟩
  · exact ⟨ret_bool (hasB_false (by omega)).symm, rfl⟩
  · exact ⟨ret_bool ((decide_eq_false (by omega)).trans (hasB_false (by omega)).symm), rfl⟩
  · exact ⟨ret_bool (hasB_true (by omega)).symm, rfl⟩

set_option maxHeartbeats 400000 in
theorem put_walk (g c m n : Nat) (f : Nat → Int) (r k : Nat) (x : Int) (w : World) (h : RefAt w g c m n f) (hr : r < m) (hk : k < n) :
    Calls Try.prog 19 #[.pointer (some ⟨g, 0, none⟩), .int .i64 r, .int .i64 k, .int .i64 x] w fun e w' => e = .returned (.tuple #[]) ∧ w' = (w.setCell ⟨c, r * n + k, none⟩ (.int .i64 x)).drew := by
  have h0 := h.c0
  have h1 := h.c1
  have h2 := h.c2
  have hin := pos_lt hr hk
  have hb := pos_le (Nat.le_of_lt hr) h.m64 h.n64
  have hk64 : k < 64 := Nat.lt_of_lt_of_le hk h.n64
  have hc := h.row.cell hin
  have hf := h.row.frozen (r * n + k)
  clear h
  go_enter Try.func19, Try.ntmps19
  go_wp2
  go_region
  all_goals go_wp2
  all_goals go_end0
  all_goals exact ⟨rfl, rfl⟩
theorem put_ok {g c m n : Nat} {f : Nat → Int} {ri ki : Int} (r k : Nat) (er : ri = r) (ek : ki = k) (x : Int) {w : World} (h : RefAt w g c m n f) (hr : r < m) (hk : k < n) :
    Calls Try.prog 19 #[.pointer (some ⟨g, 0, none⟩), .int .i64 ri, .int .i64 ki, .int .i64 x] w fun e w' => e = .returned (.tuple #[]) ∧ RefAt w' g c m n (fun j => if j = r * n + k then x else f j) ∧ Kept [c] w w' := by
  subst er ek
  refine (put_walk g c m n f r k x w h hr hk).mono ?_
  rintro e w' ⟨rfl, rfl⟩
  have hk2 : Kept [c] w (w.setCell ⟨c, r * n + k, none⟩ (.int .i64 x)) := (Kept.refl _ _).setCell (fun _ => by simp) _
  exact ⟨rfl, (h.set (r * n + k) x).kept ((Kept.refl [] _).drew) (by simp) (by simp), hk2.drew⟩

set_option maxHeartbeats 400000 in
theorem at_ok {g c m n : Nat} {f : Nat → Int} (r k : Nat) {w : World} (h : RefAt w g c m n f) (hr : r < m) (hk : k < n) :
    Calls Try.prog 21 #[.pointer (some ⟨g, 0, none⟩), .int .i64 r, .int .i64 k] w fun e w' => e = .returned (.int .i64 (f (r * n + k))) ∧ w' = w.drew := by
  have h0 := h.c0
  have h1 := h.c1
  have h2 := h.c2
  have hin := pos_lt hr hk
  have hb := pos_le (Nat.le_of_lt hr) h.m64 h.n64
  have hk64 : k < 64 := Nat.lt_of_lt_of_le hk h.n64
  have hc := h.row.cell hin
  clear h
  go_enter Try.func21, Try.ntmps21
  go_wp2
  go_region
  all_goals go_wp2
  all_goals go_ret
  all_goals exact ⟨rfl, rfl⟩

/-- Is the table the same, turned? -/
def SymIs (b : Bool) (m n : Nat) (f : Nat → Int) : Prop := b = true ↔ m = n ∧ ∀ r c, r < m → c < n → f (r * n + c) = f (c * n + r)

set_option maxHeartbeats 1000000 in
theorem same_ok {g c m n : Nat} {f : Nat → Int} {w : World} (h : RefAt w g c m n f) :
    Calls Try.prog 20 #[.pointer (some ⟨g, 0, none⟩)] w fun e w' => ∃ b : Bool, e = .returned (.bool b) ∧ SymIs b m n f ∧ Kept [] w w' := by
  have h0 := h.c0
  have h1 := h.c1
  have hm64 := h.m64
  have H := hide h
  clear h
  by_cases hmn : m = n
  · subst hmn
    go_enter Try.func20, Try.ntmps20
    go_wp2
    go_region
    all_goals go_wp2
    go_loopw [3] (fun i wr => ∃ r q : Nat, r ≤ m ∧ i = .int .i64 r ∧ (∀ a b, a < r → b < m → f (a * m + b) = f (b * m + a)) ∧ wr = w.drewN q) (fun i _ => m - (intOf i).toNat)
    case atStart => exact ⟨0, 1, by omega, rfl, fun a b ha => absurd ha (Nat.not_lt_zero _), rfl⟩
    case round =>
      obtain ⟨r, q, hr, rfl, hall, rfl⟩ := hrel
      have HA := hide hall
      clear hall
      by_cases hrm : r < m
      · go_wp2_with fail
        go_loopw [4] (fun i wr => ∃ k q : Nat, k ≤ m ∧ i = .int .i64 k ∧ (∀ b, b < k → f (r * m + b) = f (b * m + r)) ∧ wr = w.drewN q) (fun i _ => m - (intOf i).toNat)
        case atStart => exact ⟨0, q, by omega, rfl, fun b hb => absurd hb (Nat.not_lt_zero _), rfl⟩
        case round =>
          obtain ⟨k, q, hk, rfl, hall, rfl⟩ := hrel
          have HB := hide hall
          clear hall
          by_cases hkm : k < m
          · have R1 : RefAt (w.drewN q) g c m m f := H.out.kept ((Kept.refl [] w).drewN q) (by simp) (by simp)
            have R2 : RefAt (w.drewN q).drew g c m m f := R1.kept (Kept.refl [] _).drew (by simp) (by simp)
            have A1 := hide (at_ok r k R1 hrm hkm)
            have A2 := hide (at_ok k r R2 hkm hrm)
            clear R1 R2
            go_wp2_with fail
            refine A1.out.mono ?_
            rintro e w5 ⟨rfl, rfl⟩
            go_wp2_with fail
            refine A2.out.mono ?_
            rintro e w5 ⟨rfl, rfl⟩
            by_cases hv : f (r * m + k) = f (k * m + r)
            · have hv2 : (f (r * m + k) != f (k * m + r)) = false := by rw [hv]; simp
              have HV := hide hv
              clear hv
              go_wp2
              go_roundw
              case rel => exact ⟨k + 1, q + 1 + 1, by omega, by go_num, fun b hb => if e : b = k then e ▸ HV.out else HB.out b (by omega), rfl⟩
              case measure => simp [intOf]; omega
            · have hv2 : (f (r * m + k) != f (k * m + r)) = true := by rw [bne_iff_ne]; exact hv
              have HV := hide hv
              clear hv
              go_wp2
              go_ret
              exact ⟨false, rfl, ⟨fun h => by simp at h, fun h => absurd (h.2 r k hrm hkm) HV.out⟩, ((Kept.refl [] w).drewN _)⟩
          · have e : k = m := by omega
            subst e
            go_wp2
            go_roundw
            case rel => exact ⟨r + 1, q, by omega, by go_num, fun a b ha hb => if e : a = r then e ▸ HB.out b hb else HA.out a b (by omega) hb, rfl⟩
            case measure => simp [intOf]; omega
      · have e : r = m := by omega
        subst e
        go_wp2
        go_ret
        exact ⟨true, rfl, ⟨fun _ => ⟨rfl, HA.out⟩, fun _ => rfl⟩, ((Kept.refl [] w).drewN _)⟩
  · have hb : ((m : Int) != (n : Int)) = true := by rw [bne_iff_ne]; omega
    have HN := hide hmn
    clear hmn
    go_enter Try.func20, Try.ntmps20
    go_wp2
    go_region
    all_goals go_wp2
    all_goals go_ret
    all_goals exact ⟨false, rfl, ⟨fun h => by simp at h, fun h => absurd h.1 HN.out⟩, (Kept.refl [] w).drew⟩
end Go.Proofs.Ytjcghcibligioab.RF
