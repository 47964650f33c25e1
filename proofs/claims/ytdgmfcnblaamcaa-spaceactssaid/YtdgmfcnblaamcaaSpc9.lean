
/-
  No statement of the program: Take of package space, over this seat's translation.
-/
import Derived.Test.YtdgmfcnblaamcaaSpc8
namespace Go.Proofs.Ytdgmfcnblaamcaa.Sc
open Go.ChangeShapes Go.WideShapes Go.ChangeAt Go.RowKit

set_option maxHeartbeats 4000000 in
set_option maxRecDepth 100000 in
theorem take_some {w : World} {r : Nat} {ao : Option Addr} {n cap need : Nat} {F C : Nat → Nat} (h : RW w r ao n cap F C) (hrow : ∃ f, w.rowIs r 53 1 f) (hF : ∀ i, i < n → F i + C i ≤ 4096) (h1 : 1 ≤ need) (h2 : need ≤ 4095) (hn : n < 4096) :
    Calls Try.prog 7 #[.pointer (some ⟨r, 0, none⟩), .int .i64 need] w fun e w' => ∃ k : Nat, k ≤ n ∧ (k < n → fstAt F C k + need ≤ F k) ∧ (∀ i, i < k → ¬ fstAt F C i + need ≤ F i) ∧
      ((4096 < fstAt F C k + need ∧ e = .returned (.tuple #[.int .i64 0, .int .i64 14]) ∧ Kept [] w w') ∨
       (fstAt F C k + need ≤ 4096 ∧ e = .returned (.tuple #[.int .i64 (fstAt F C k : Nat), .int .i64 0]) ∧ ∃ ao' cap', RW w' r ao' (n + 1) cap' (ins F k (fstAt F C k)) (ins C k need) ∧ (∃ f, w'.rowIs r 53 1 f) ∧
         Kept (r :: (Value.slice ao n cap).ownBlock.toList) w w' ∧ (∀ b, ao' = some ⟨b, 0, none⟩ → w.heap.size ≤ b ∨ ao = some ⟨b, 0, none⟩))) := by
  have hc := h.c
  have hr : r < w.heap.size := block_lt_of_cell hc
  have HR := hide h
  have HF := hide hF
  have HW := hide hrow
  have hi1 : ¬ (need : Int) < 1 := by omega
  have hi2 : ¬ 4095 < (need : Int) := by omega
  clear h hF hrow
  go_enter Try.func7, Try.ntmps7
  go_wp2_with fail
  refine (gap_any HR.out HF.out _).mono ?_
  rintro e w1 ⟨k, hk, rfl, g1, g2, k1⟩
  have c1 := k1.cell hc (by simp)
  have hf0 : fstAt F C k ≤ 4096 := by
    cases k with
    | zero => simp [fstAt]
    | succ j => exact HF.out j (by omega)
  have hw : wrap64 ((fstAt F C k : Int) + (need : Int)) = (fstAt F C k : Int) + (need : Int) := by unfold wrap64; omega
  have G1 := hide g1
  have G2 := hide g2
  obtain ⟨q, hq⟩ : ∃ q, q = fstAt F C k := ⟨_, rfl⟩
  clear g1 g2
  rw [← hq] at hw hf0
  rw [← hq]
  have HQ := hide hq
  have K1 := hide k1
  clear hq k1
  by_cases hfull : 4096 < (q : Int) + (need : Int)
  · go_wp2_with fail
    go_ret2
    have := HQ.out
    exact ⟨k, hk, fun hkn => by have := G1.out hkn; omega, fun i hi => by have := G2.out i hi; omega, .inl ⟨by omega, rfl, K1.out⟩⟩
  · go_wp2_with fail
    have A := (Kept.refl [] w1).alloc (.cells #[iv q, iv need] 51)
    have K2 : Kept [] w (w1.alloc (.cells #[iv q, iv need] 51)) := K1.out.trans A (fun x hx _ => hx)
    have hR2 := HR.out.kept K2 (by simp) (by simp)
    refine (insert_any hR2 hk (x := q) (y := need) (by show (w1.heap.push _)[w1.heap.size]? = _; exact Array.getElem?_push_size) (fun b hb => ?_)).mono ?_
    · by_cases h0 : 0 < cap
      · obtain ⟨b2, f2, e2, -, r2, -⟩ := HR.out.at_ h0
        rw [hb] at e2
        cases e2
        have z1 : b < w.heap.size := block_lt_of_cell (r2.cell (show 0 < cap * 2 by omega))
        have z2 := K1.out.size
        omega
      · rw [HR.out.non (by omega)] at hb; cases hb
    rintro e w3 ⟨b', G, g, rfl, hG, hGm, hg, hgv, hb', k3⟩
    have nm : r ∉ (Value.slice ao n cap).ownBlock.toList := fun hm => by
      by_cases h0 : 0 < cap
      · obtain ⟨b2, f2, e2, nr, -, -⟩ := HR.out.at_ h0
        subst e2
        simp [Value.ownBlock] at hm
        exact nr hm.symm
      · rw [HR.out.non (by omega)] at hm; simp [Value.ownBlock] at hm
    have c3 : w3.cell? ⟨r, 0, none⟩ = some (.slice ao n cap) := k3.cell (K2.cell hc (by simp)) nm
    obtain ⟨f0, hf0r⟩ := HW.out
    have r3 : w3.rowIs r 53 1 f0 := k3.row (K2.row hf0r (by simp)) nm
    have z3 : w3.frozen? ⟨r, 0, none⟩ = false := r3.frozen 0
    have R3 := hide r3
    have K3 := hide k3
    have GG := hide (And.intro hG (And.intro hGm (And.intro hg (And.intro hgv hb'))))
    have NM := hide nm
    clear r3 k3 hG hGm hg hgv hb' nm hR2 hf0r
    go_wp2_with fail
    go_ret2
    obtain ⟨hG, hGm, hg, hgv, hb'⟩ := GG.out
    have := HQ.out
    have hk4 : Kept [r] w3 (w3.setCells r 0 [.slice (some ⟨b', 0, none⟩) (n + 1) G]) := kept_setCells r _ _ _
    have nb : b' ≠ r := by
      rcases hb' with rfl | hb'
      · have : r < w1.heap.size := block_lt_of_cell c1
        show (w1.heap.push _).size ≠ r
        simp; omega
      · intro e
        exact NM.out (by rw [hb', e]; simp [Value.ownBlock])
    refine ⟨k, hk, fun hkn => by have := G1.out hkn; omega, fun i hi => by have := G2.out i hi; omega, .inr ⟨by omega, by rw [← this]; rfl, some ⟨b', 0, none⟩, G, ⟨?_, by omega, by omega, by omega, fun _ => ⟨b', g, rfl, nb, ?_, ?_⟩, fun h0 => by omega⟩, ⟨_, rowIs_setCells [.slice (some ⟨b', 0, none⟩) (n + 1) G] 0 f0 _ R3.out⟩, ?_, ?_⟩⟩
    · exact (rowIs_setCells [.slice (some ⟨b', 0, none⟩) (n + 1) G] 0 f0 _ R3.out).cell (show 0 < 1 by omega)
    · exact hk4.row hg (by simp; exact nb)
    · rw [← this]; exact hgv
    · exact ((K2.mono (M := r :: (Value.slice ao n cap).ownBlock.toList) (by simp)).trans K3.out (fun x hx _ => List.mem_cons_of_mem _ hx)).trans hk4 (fun x hx _ => by simp at hx; simp [hx])
    · intro b hb
      cases hb
      rcases hb' with rfl | hb'
      · left
        have := K2.size
        exact this
      · exact .inr hb'
end Go.Proofs.Ytdgmfcnblaamcaa.Sc
