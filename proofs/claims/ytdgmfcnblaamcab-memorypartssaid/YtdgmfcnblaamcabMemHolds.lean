
/-
  No statement of the program: 'moves' of the statements on memory answers true, over this seat's translation.
-/
import Derived.Test.YtdgmfcnblaamcabMem4
import Derived.Lib.SlBytesConst
namespace Go.Proofs.Ytdgmfcnblaamcab.Me
open Go.RowKit Tb

theorem one_bytes (w : World) (fr : Nat × Nat) : Bs (w.alloc (.cells #[.int .u8 97] 5 fr)) (some ⟨w.heap.size, 0, none⟩) 1 (fun _ => 97) := by
  intro i hi
  refine ⟨w.heap.size, 0, rfl, ?_⟩
  rw [World.cell?_alloc_mark]
  obtain rfl : i = 0 := by omega
  rfl
theorem one_text : bt 1 (fun i => Fr.movd (wrt (pcs (fun _ => 0) 64 1) (fun _ => 0) (fun _ => 97)) 0 3 (pos (fun _ => 3) (64 + i))) = ⟨#[97]⟩ := by
  have h := wrt_pcs (fun _ => 0) (fun p => p = 1) (fun p q hp hq _ => by omega) 1 64 1 (fun _ => 0) (fun _ => 97) (Nat.le_refl _) (fun p h1 h2 => by show p = 1; omega) 64 (by decide)
  have h2 : Fr.movd (wrt (pcs (fun _ => 0) 64 1) (fun _ => 0) (fun _ => 97)) 0 3 (pos (fun _ => 3) (64 + 0)) = 97 := by
    show over _ (3 * 64) 64 _ (3 * 64 + 0) = 97
    rw [over_in (by decide)]
    exact h
  show (⟨((List.range 1).map (fun i => Fr.movd (wrt (pcs (fun _ => 0) 64 1) (fun _ => 0) (fun _ => 97)) 0 3 (pos (fun _ => 3) (64 + i)))).toArray⟩ : ByteArray) = _
  rw [show List.range 1 = [0] from rfl, List.map_cons, List.map_nil, h2]
set_option maxRecDepth 20000 in
set_option maxHeartbeats 1000000 in
theorem moves_true (w : World) : Calls Try.prog 6 #[] w fun e w' => e = .returned (.bool true) ∧ Kept [] w w' := by
  have kc := fun (w : World) (C : Array Value) (n c : Nat) => Lib.run_convert_bytes_const (P := Try.prog) w 23 5 C n c Try.underlying23 Try.underlying5
  have E1 := hide (mput_same (fun _ : Int => (none : Option Int)) 1 0)
  have E2 := hide (mput_other (fun _ : Int => (none : Option Int)) 0 3 1 (by decide))
  have E3 := hide (mput_same (mdel (mput (fun _ : Int => (none : Option Int)) 1 0) 1) 1 3)
  have W1 : Hid (∀ q : Nat, 64 / 64 ≤ q → q * 64 < 64 + 1 → 0 < 1 → mput (fun _ : Int => (none : Option Int)) 1 0 q = some (((fun _ => 0) q : Nat) : Int)) := hide (by
    intro q h1 h2 _
    obtain rfl : q = 1 := by omega
    exact E1.out)
  have W3 : Hid (∀ q : Nat, 64 / 64 ≤ q → q * 64 < 64 + 1 → 0 < 1 → mput (mdel (mput (fun _ : Int => (none : Option Int)) 1 0) 1) 1 3 q = some (((fun _ => 3) q : Nat) : Int)) := hide (by
    intro q h1 h2 _
    obtain rfl : q = 1 := by omega
    exact E3.out)
  go_enter Try.func6, Try.ntmps6
  go_wp2_with fail
  refine (Fr.new_ok 1 4 (by decide) (by decide) (by decide) (by decide) 4 rfl).mono ?_
  rintro r w1 ⟨g, c, rfl, s1, hg, hc, k1⟩
  have S1 := hide s1
  have K1 := hide k1
  clear s1 k1
  go_wp2_with fail
  refine (new_ok S1.out).mono ?_
  rintro r w2 ⟨m, u, bt, bf, rfl, m2, hm, hu, hbt, hbf, k2⟩
  have M2 := hide m2
  have K2 := hide (K1.out.next k2)
  have h1s := K1.out.size
  clear m2 k2 S1 K1
  go_wp2_with fail
  refine (new_nil _).mono ?_
  rintro r w3 ⟨rfl, hw3⟩
  subst w3
  go_wp2_with fail
  refine (map_ok M2.out 1 0 (by decide) (by decide) (by decide) (by decide) (by decide) (by decide) (by decide) rfl rfl).mono ?_
  rintro r w3 ⟨rfl, m3, k3⟩
  have M3 := hide m3
  have K3 := hide (K2.out.trans k3 (by intro x hx hl; simp at hx; omega))
  clear m3 k3 M2 K2
  have hsz := M3.out.st.clt
  go_wp2_with fail
  refine (write_ok (fun _ => 0) (M3.out.kept0 ((Kept.refl [] w3).alloc _)) 64 1 1 _ (by decide) (by decide) (by decide) (one_bytes w3 _) (by rintro a ha _; cases ha; show w3.heap.size ≠ c; omega) W1.out (by intro q _ _; show 0 < 4; omega)).mono ?_
  rintro r w4 ⟨rfl, m4, k4⟩
  have M4 := hide m4
  have K4 := hide ((K3.out.alloc _).trans k4 (by intro x hx hl; simp at hx; omega))
  clear m4 k4 M3 K3 hsz
  go_wp2_with fail
  refine (move_ok M4.out 1 3 0 (by decide) (by decide) (by decide) (by decide) (by decide) (by decide) (by decide) E1.out E2.out).mono ?_
  rintro r w5 ⟨rfl, m5, k5⟩
  have M5 := hide m5
  have K5 := hide (K4.out.trans k5 (by intro x hx hl; simp at hx; omega))
  clear m5 k5 M4 K4
  go_wp2_with fail
  refine (read_ok (fun _ => 3) M5.out 64 1 (by decide) (by decide) W3.out (by intro q _ _; show 3 < 4; omega)).mono ?_
  rintro r w6 ⟨ao, cap, rfl, b6, -, k6⟩
  have M6 := hide (M5.out.kept0 k6)
  have K6 := hide (K5.out.next k6)
  have hcv := run_text (cap := cap) Try.underlying23 Try.underlying5 Try.underlying9 b6
  rw [one_text] at hcv
  clear k6 M5 K5 b6
  go_wp2_with fail
  refine (mapped_any M6.out).mono ?_
  rintro r w7 ⟨rfl, hw7⟩
  subst w7
  go_wp2
  go_ret
  exact ⟨rfl, K6.out⟩
end Go.Proofs.Ytdgmfcnblaamcab.Me
