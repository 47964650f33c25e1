
/-
  No statement of the program: package span's New and Index, and the document's span, over this seat's translation.
-/
import Derived.Test.YtdgmfcnblaamcabDoorSpn2
namespace Go.Proofs.YtdgmfcnblaamcabDoor.Sp
open Go.ChangeShapes Go.WideShapes Go.ChangeAt Go.RowKit Cl
section
variable {w : World} {p tb : Nat} {c sz : Int} {n : Nat} {u : Nat → Bool}
set_option maxHeartbeats 1000000 in
theorem new_no (c : Int) (hc : ¬ (0 ≤ c ∧ c < 4)) (hT : Tab w) : Calls Tryd.prog 23 #[.int .i64 c] w fun e w' => e = .returned (.tuple #[.pointer none, .int .i64 1]) ∧ Kept [] w w' := by
  have hf := count_any c hT
  have e1 : tellsE c = 1 := by unfold tellsE; rw [if_neg hc]
  rw [e1] at hf
  generalize tells c 2 = z2 at hf
  have HF := hide hf
  clear hf e1 hc hT
  go_enter Tryd.func23, Tryd.ntmps23
  go_wp2_with (first | (go_at_call 26; refine HF.out.mono ?_; rintro e w1 ⟨rfl, hk⟩; have K := hide hk; clear hk))
  go_ret2
  exact ⟨rfl, K.out⟩
theorem info : (Tryd.prog.info? 4).map (fun i => (i.zero, i.size, i.bytes)) = some (some (.bool false), 1, 1) := by kernel_rfl
theorem sa_new (w : World) (c sz : Int) (n : Nat) : SA ((w.alloc (.cells (madeCells #[.bool false] n) 4)).alloc (.cells #[.int .i64 c, .int .i64 sz, .slice (some ⟨w.heap.size, 0, none⟩) n n] 88)) (w.heap.size + 1) w.heap.size c sz n (fun _ => false) ∧
    Kept [] w ((w.alloc (.cells (madeCells #[.bool false] n) 4)).alloc (.cells #[.int .i64 c, .int .i64 sz, .slice (some ⟨w.heap.size, 0, none⟩) n n] 88)) := by
  have k1 := (Kept.refl [] w).alloc (.cells (madeCells #[.bool false] n) 4)
  have r1 := World.rowIs_made w (.bool false) n 4
  have sz1 : (w.alloc (.cells (madeCells #[.bool false] n) 4)).heap.size = w.heap.size + 1 := Array.size_push _
  generalize w.alloc (.cells (madeCells #[.bool false] n) 4) = w1 at *
  have k2 := (Kept.refl [] w1).alloc (.cells #[.int .i64 c, .int .i64 sz, .slice (some ⟨w.heap.size, 0, none⟩) n n] 88)
  have r2 := World.rowIs_alloc w1 #[.int .i64 c, .int .i64 sz, .slice (some ⟨w.heap.size, 0, none⟩) n n] 88 (fun i => if i = 0 then .int .i64 c else if i = 1 then .int .i64 sz else .slice (some ⟨w.heap.size, 0, none⟩) n n) (by
    intro i hi
    match i, hi with
    | 0, _ => rfl
    | 1, _ => rfl
    | 2, _ => rfl)
  rw [sz1] at r2
  exact ⟨⟨r2, k2.row r1 (by simp), by omega⟩, k1.next k2⟩
/-- What is known of a class. -/
structure CZ (c n : Nat) (sz : Int) : Prop where
  c4 : c < 4
  size : tells c 0 = sz
  count : tells c 2 = n
  pos : 0 < n ∧ n ≤ 8
  spos : 8 ≤ sz ∧ sz ≤ 64
theorem cz (c : Nat) (h : c < 4) : ∃ n sz, CZ c n sz := by
  match c, h with
  | 0, _ => exact ⟨8, 8, by decide, by decide, by decide, by decide, by decide⟩
  | 1, _ => exact ⟨4, 16, by decide, by decide, by decide, by decide, by decide⟩
  | 2, _ => exact ⟨4, 32, by decide, by decide, by decide, by decide, by decide⟩
  | 3, _ => exact ⟨4, 64, by decide, by decide, by decide, by decide, by decide⟩
set_option maxHeartbeats 1000000 in
theorem new_ok (c : Nat) (hz : CZ c n sz) (hT : Tab w) : Calls Tryd.prog 23 #[.int .i64 c] w fun e w' => ∃ p tb, e = .returned (.tuple #[.pointer (some ⟨p, 0, none⟩), .int .i64 0]) ∧ SA w' p tb c sz n (fun _ => false) ∧ w.heap.size ≤ p ∧ w.heap.size ≤ tb ∧ Kept [] w w' := by
  have hf := count_any c hT
  have hg := fun (w' : World) (hk : Kept [] w w') => size_any c (hT.kept0 hk)
  have e1 : tellsE c = 0 := by unfold tellsE; rw [if_pos ⟨by omega, by have := hz.c4; omega⟩]
  rw [e1, hz.count] at hf
  rw [e1, hz.size] at hg
  have HF := hide hf
  have HG := hide hg
  obtain ⟨n1, n2⟩ := hz.pos
  have hmk := run_make_row' (P := Tryd.prog) 33 4 (.bool false) 1 Tryd.underlying33 info rfl .i64 .i64 n (by omega) (by omega)
  clear hf hg e1 hT
  go_enter Tryd.func23, Tryd.ntmps23
  go_wp2_with fail
  refine HF.out.mono ?_
  rintro e w1 ⟨rfl, hk⟩
  have K := hide hk
  clear hk HF
  go_wp2_with fail
  refine (HG.out _ K.out).mono ?_
  rintro e w2 ⟨rfl, hk⟩
  have K2 := hide (K.out.next hk)
  clear hk HG K
  go_wp2
  obtain ⟨hs, hk⟩ := sa_new w2 c sz n
  go_ret2
  exact ⟨_, _, rfl, hs, Nat.le_succ_of_le K2.out.size, K2.out.size, K2.out.next hk⟩
/-- What Index tells of a byte: the rest and the quotient by the size. -/
def IdxIs (n r q : Nat) (e : Ending) : Prop := (r = 0 ∧ q < n ∧ e = .returned (.tuple #[.int .i64 q, .int .i64 0])) ∨ (¬ (r = 0 ∧ q < n) ∧ e = .returned (.tuple #[.int .i64 0, .int .i64 6]))
end
end Go.Proofs.YtdgmfcnblaamcabDoor.Sp
