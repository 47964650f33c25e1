/-
  No statement of the program: 'halves' of the statements on buddies answers true, over this seat's translation.
-/
import Derived.Test.YtkhcopnklfmgcaaDoorBud6
namespace Go.Proofs.YtkhcopnklfmgcaaDoor.By
open Go.RowKit
theorem ls0 {K : Nat} (hk : K ≤ 10) : Ls K (u0 K) (2 ^ K) (fun j => if j = K then [0] else []) := by
  refine ⟨fun j hj => ⟨?_, fun x => ?_⟩, fun i hi => by simp [u0, hi], ?_, hk⟩
  · by_cases h : j = K <;> simp [h]
  · constructor
    · intro hx
      by_cases h : j = K
      · rw [if_pos h] at hx
        simp at hx
        exact ⟨0, by omega, u0_top.2 ⟨h, rfl⟩⟩
      · rw [if_neg h] at hx; simp at hx
    · rintro ⟨q, rfl, hq⟩
      obtain ⟨h1, h2⟩ := u0_top.1 hq
      rw [if_pos h1, h2]; simp
  · have h0 : sumTo (fun _ => ([] : List Nat)) 11 = 0 := rfl
    have := sumTo_add (L := fun _ => []) (L' := fun j => if j = K then [0] else []) (o := K) (by simp) (fun j hj => by simp [hj]) 11 (by omega)
    omega
theorem least0 {K o : Nat} (hk : K ≤ 10) (ho : o ≤ K) : Least (u0 K) o K 0 :=
  ⟨ho, hk, u0_top.2 ⟨rfl, rfl⟩, fun b _ => Nat.zero_le _, fun j b _ h2 ht => by have := (u0_top.1 ht).1; omega⟩
/-- The lists behind the first Take. -/
theorem lo1 {K o j : Nat} (hk : K ≤ 10) (ho : o ≤ j) (hj : j < K) : Lo (upd (u0 K) (0 * 2 ^ K / 2 ^ o) o true) j [2 ^ j] := by
  obtain ⟨f', -, h⟩ := (ls0 hk).take (least0 hk (show o ≤ K by omega)) (r := []) (by simp)
  have := h.lo j (by omega)
  unfold Lh at this
  rw [if_neg (by omega), if_pos ⟨ho, hj⟩] at this
  simpa using this
set_option maxHeartbeats 1000000 in
theorem halves_true {w : World} (hT : Tab w) : Calls Tryd.prog 13 #[] w fun e w' => e = .returned (.bool true) ∧ Kept [] w w' := by
  have T := hide hT
  clear hT
  go_enter Tryd.func13, Tryd.ntmps13
  go_wp2_with fail
  refine (bs_new 3 8 (by decide) rfl T.out rfl).mono ?_
  rintro e w1 ⟨p, F, rfl, hB, -, hF, hk⟩
  have B1 := hide hB
  have HF := hide hF
  have K1 := hide hk
  clear hB hF hk
  go_wp2_with fail
  refine (bs_take 0 3 0 B1.out (least0 (by decide) (by decide)) rfl).mono ?_
  rintro e w2 ⟨f', F2, rfl, hf, hB, hk, hF2⟩
  have hf7 : f' = 7 := by omega
  subst hf7
  have B2 := hide hB
  have K2 := hide (K1.out.trans hk (fun x hx hl => by have := HF.out x hx; omega))
  clear hB hk hF2 K1 HF B1 hf
  go_wp2_with fail
  refine (bs_runs 0 B2.out (by decide) rfl).mono ?_
  rintro e w3 ⟨v, l, rfl, hv, hl, -, hb, hk⟩
  have hl1 := hl.unique (lo1 (K := 3) (o := 0) (j := 0) (by decide) (by decide) (by decide))
  subst hl1
  obtain ⟨ao, cap, rfl, hc⟩ := hv.slice
  obtain ⟨b, rfl, hc0⟩ := hc 0 (by simp)
  have hc0' : w3.cell? ⟨b, 0, none⟩ = some (.int .i64 1) := hc0
  have B3 := hide (B2.out.kept0 hk)
  have K3 := hide (K2.out.next hk)
  have C3 := hide hc0'
  clear hk hb hv hc hc0 hc0' hl B2 K2
  go_wp2_with fail
  refine (bs_runs 2 B3.out (by decide) rfl).mono ?_
  rintro e w4 ⟨v, l, rfl, hv, hl, -, hb, hk⟩
  have hl1 := hl.unique (lo1 (K := 3) (o := 0) (j := 2) (by decide) (by decide) (by decide))
  subst hl1
  obtain ⟨ao, cap2, rfl, hc⟩ := hv.slice
  obtain ⟨b2, rfl, hc0⟩ := hc 0 (by simp)
  have hc2 : w4.cell? ⟨b2, 0, none⟩ = some (.int .i64 4) := hc0
  have hc1 := hk.cell C3.out (by simp)
  have B4 := hide (B3.out.kept0 hk)
  have K4 := hide (K3.out.next hk)
  clear hk hb hv hc hc0 hl B3 K3 C3
  go_wp2_with (go_at_call 16; refine (bs_free B4.out).mono ?_; rintro e w' ⟨rfl, hw⟩; subst w')
  go_ret
  exact ⟨rfl, K4.out⟩
end Go.Proofs.YtkhcopnklfmgcaaDoor.By
