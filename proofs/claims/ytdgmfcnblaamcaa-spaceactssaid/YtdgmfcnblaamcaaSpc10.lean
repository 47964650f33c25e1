
/-
  No statement of the program: Give of package space, over this seat's translation.
-/
import Derived.Test.YtdgmfcnblaamcaaSpc9
namespace Go.Proofs.Ytdgmfcnblaamcaa.Sc
open Go.ChangeShapes Go.WideShapes Go.ChangeAt Go.RowKit

/-- A list of values without the one at i. -/
def del (F : Nat → Nat) (i j : Nat) : Nat := if j < i then F j else F (j + 1)

set_option maxHeartbeats 4000000 in
set_option maxRecDepth 100000 in
theorem give_any {w : World} {r : Nat} {ao : Option Addr} {n cap : Nat} {first : Int} {F C : Nat → Nat} (h : RW w r ao n cap F C) (hrow : ∃ f, w.rowIs r 53 1 f) (hm : ∀ i j, i < j → j < n → F i < F j) :
    Calls Try.prog 8 #[.pointer (some ⟨r, 0, none⟩), .int .i64 first] w fun e w' =>
      (hitB F n first = false ∧ e = .returned (.tuple #[.int .i64 0, .int .i64 13]) ∧ Kept [] w w') ∨
      (hitB F n first = true ∧ e = .returned (.tuple #[.int .i64 (C (kOf F n first)), .int .i64 0]) ∧ RW w' r ao (n - 1) cap (del F (kOf F n first)) (del C (kOf F n first)) ∧ (∃ f, w'.rowIs r 53 1 f) ∧ Kept (r :: (Value.slice ao n cap).ownBlock.toList) w w') := by
  have hc := h.c
  have hr : r < w.heap.size := block_lt_of_cell hc
  have HR := hide h
  have HM := hide hm
  have HW := hide hrow
  clear h hrow hm
  go_enter Try.func8, Try.ntmps8
  go_wp2_with fail
  refine (find_any HR.out HM.out first).mono ?_
  rintro e w1 ⟨rfl, k1⟩
  have c1 := k1.cell hc (by simp)
  have K1 := hide k1
  clear k1
  cases hB : hitB F n first with
  | false =>
    go_wp2_with fail
    go_ret2
    exact .inl ⟨hB, rfl, K1.out⟩
  | true =>
    obtain ⟨k, hk⟩ : ∃ k, k = kOf F n first := ⟨_, rfl⟩
    have hkn : k < n := by
      unfold hitB at hB
      rw [← hk] at hB
      exact (of_decide_eq_true hB).1
    rw [← hk]
    have HB := hide hB
    have HK := hide hk
    clear hB hk
    have hle := HR.out.le
    have hcm := HR.out.cm
    have hm4 := HR.out.m
    obtain ⟨b, f, rfl, nb, hR, hf⟩ := HR.out.at_ (show 0 < cap by omega)
    have hR1 := K1.out.row hR (by simp)
    have q0 := hR1.cell (show k * 2 < cap * 2 by omega)
    have q1 := hR1.cell (show k * 2 + 1 < cap * 2 by omega)
    rw [(hf k hkn).1] at q0
    rw [(hf k hkn).2] at q1
    have hone : ∀ t, t < n * 2 → (f t).oneCell' = true := by
      intro t ht
      obtain ⟨h0, h1⟩ := hf (t / 2) (by omega)
      rcases Nat.mod_two_eq_zero_or_one t with hh | hh
      · rw [show t = t / 2 * 2 by omega, h0]; rfl
      · rw [show t = t / 2 * 2 + 1 by omega, h1]; rfl
    have hD := hide (delete_any hR1 hle hkn hcm hone)
    have HFF := hide hf
    have hw1 : wrap64 ((k : Int) + 1) = (k : Int) + 1 := by unfold wrap64; omega
    have hki : (k : Int) < (n : Int) := by omega
    have hk0 : ¬ (k : Int) < 0 := by omega
    clear hR hR1 hone hf
    go_wp2_with fail
    rw [show (k : Int) + 1 = ((k + 1 : Nat) : Int) from rfl]
    refine hD.out.mono ?_
    rintro e w3 ⟨rfl, k3, g, hg, hgv⟩
    have nm : r ∉ [b] := by simp; exact fun e => nb e.symm
    have c3 : w3.cell? ⟨r, 0, none⟩ = some (.slice (some ⟨b, 0, none⟩) n cap) := k3.cell c1 nm
    obtain ⟨f0, hf0r⟩ := HW.out
    have r3 : w3.rowIs r 53 1 f0 := k3.row (K1.out.row hf0r (by simp)) nm
    have z3 : w3.frozen? ⟨r, 0, none⟩ = false := r3.frozen 0
    have R3 := hide r3
    have K3 := hide k3
    have GG := hide (And.intro hg hgv)
    clear r3 k3 hg hgv hf0r hD
    go_wp2_with fail
    go_ret2
    obtain ⟨hg, hgv⟩ := GG.out
    have hk4 : Kept [r] w3 (w3.setCells r 0 [.slice (some ⟨b, 0, none⟩) (n - 1) cap]) := kept_setCells r _ _ _
    rw [← HK.out]
    refine .inr ⟨HB.out, rfl, ⟨?_, by omega, by omega, hcm, fun _ => ⟨b, g, rfl, nb, hk4.row hg (by simp; exact nb), fun j hj => ?_⟩, fun h0 => by omega⟩, ⟨_, rowIs_setCells [.slice (some ⟨b, 0, none⟩) (n - 1) cap] 0 f0 _ R3.out⟩, ?_⟩
    · exact (rowIs_setCells [.slice (some ⟨b, 0, none⟩) (n - 1) cap] 0 f0 _ R3.out).cell (show 0 < 1 by omega)
    · have e0 := hgv (j * 2) (by omega)
      have e1 := hgv (j * 2 + 1) (by omega)
      unfold del
      by_cases h : j < k
      · rw [if_pos (show j * 2 < k * 2 by omega)] at e0
        rw [if_pos (show j * 2 + 1 < k * 2 by omega)] at e1
        rw [e0, e1, if_pos h, if_pos h]
        exact HFF.out j (by omega)
      · rw [if_neg (show ¬ j * 2 < k * 2 by omega), show j * 2 + 2 = (j + 1) * 2 by omega] at e0
        rw [if_neg (show ¬ j * 2 + 1 < k * 2 by omega), show j * 2 + 1 + 2 = (j + 1) * 2 + 1 by omega] at e1
        rw [e0, e1, if_neg h, if_neg h]
        exact HFF.out (j + 1) (by omega)
    · exact ((K1.out.mono (M := r :: (Value.slice (some ⟨b, 0, none⟩) n cap).ownBlock.toList) (by simp)).trans K3.out (fun x hx _ => List.mem_cons_of_mem _ hx)).trans hk4 (fun x hx _ => by simp at hx; simp [hx])
end Go.Proofs.Ytdgmfcnblaamcaa.Sc
