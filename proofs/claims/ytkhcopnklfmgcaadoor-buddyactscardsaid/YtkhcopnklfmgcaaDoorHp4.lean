/-
  No statement of the program: package heap's Give and Whole, over this seat's translation.
-/
import Derived.Test.YtkhcopnklfmgcaaDoorHp3
namespace Go.Proofs.YtkhcopnklfmgcaaDoor.By
open Go.ChangeShapes Go.WideShapes Go.ChangeAt Go.RowKit
theorem frame_split {K m A x : Nat} (hA : A < 2 ^ K) (hx : x = m * 2 ^ K + A) : x / 2 ^ K = m ∧ x % 2 ^ K = A := by
  subst hx
  have h0 := two_pos K
  refine ⟨?_, ?_⟩
  · rw [Nat.mul_comm, Nat.mul_add_div h0, Nat.div_eq_of_lt hA]; omega
  · rw [Nat.mul_comm, Nat.mul_add_mod, Nat.mod_eq_of_lt hA]
section
variable {w : World} {q nb N K : Nat} {mk : Int × Int × Int} {P : Nat → Nat} {u : Nat → Nat → Bool} {tk : Nat → Nat → Nat} {f : Nat → Nat} {F : Nat → List Nat}
set_option maxRecDepth 20000 in
set_option maxHeartbeats 1000000 in
theorem hgive_at (h : HP w q nb N K mk P u tk f F) (m A x : Nat) (o : Int) (hm : m < N) (hA : A < 2 ^ K) (hx : x = m * 2 ^ K + A) {R : Int → World → Prop}
    (hc : ∀ d, Calls Tryd.prog 14 #[.pointer (some ⟨P m, 0, none⟩), .int .i64 A, .int .i64 o] (w.drewN d) fun e w' => ∃ z : Int, e = .returned (.int .i64 z) ∧ Kept (F m) w w' ∧ R z w') :
    Calls Tryd.prog 32 #[.pointer (some ⟨q, 0, none⟩), .int .i64 x, .int .i64 o] w fun e w' => ∃ z : Int, e = .returned (.int .i64 z) ∧ R z w' := by
  have c0 := h.c0
  have c1 := h.c1
  have cP := h.cP m hm
  have HC := hide hc
  have HQ := hide (h.nq m hm)
  have hpK := n1024 h.k10
  have hN := h.n8
  obtain ⟨s1, s2⟩ := frame_split hA hx
  have hxN : x < N * 2 ^ K := by
    have : (m + 1) * 2 ^ K ≤ N * 2 ^ K := Nat.mul_le_mul_right _ (by omega)
    rw [Nat.add_mul, Nat.one_mul] at this
    omega
  have hNN : N * 2 ^ K ≤ 8 * 1024 := Nat.mul_le_mul hN hpK
  have hy0 := two_pos K
  have e1 : (N : Int) * ((2 ^ K : Nat) : Int) = ((N * 2 ^ K : Nat) : Int) := by simp
  have e2 : (x : Int) / ((2 ^ K : Nat) : Int) = m := by rw [← s1]; exact (Int.natCast_ediv x (2 ^ K)).symm
  have e3 : (x : Int) % ((2 ^ K : Nat) : Int) = A := by rw [← s2]; exact (Int.natCast_emod x (2 ^ K)).symm
  have hyp : (0 : Int) < ((2 ^ K : Nat) : Int) := by omega
  have hyl : ((2 ^ K : Nat) : Int) ≤ 1024 := by omega
  have hm0 : (0 : Int) ≤ (m : Int) := by omega
  have hm1 : (m : Int) < (N : Int) := by omega
  have hxl : (x : Int) < ((N * 2 ^ K : Nat) : Int) := by omega
  have hxu : (x : Int) ≤ 8192 := by omega
  have hzl : ((N * 2 ^ K : Nat) : Int) ≤ 8192 := by omega
  generalize ((N * 2 ^ K : Nat) : Int) = z at e1 hxl hzl
  generalize ((2 ^ K : Nat) : Int) = y at c1 e1 e2 e3 hyp hyl
  clear h hc hA hx s1 s2 hxN hNN hy0 hpK
  have hd0 : decide ((x : Int) < 0) = false := by simp
  have hd1 : decide (z ≤ (x : Int)) = false := by simp; omega
  have hwz : IntKind.i64.wrap z = z := by rw [IntKind.wrap_i64]; omega
  have hyn : ¬ y = 0 := by omega
  have t2 : (x : Int).tdiv y = m := by rw [Int.tdiv_eq_ediv_of_nonneg (by omega)]; exact e2
  have t3 : (x : Int).tmod y = A := by rw [Int.tmod_eq_emod_of_nonneg (by omega)]; exact e3
  have hwm : IntKind.i64.wrap (m : Int) = m := by rw [IntKind.wrap_i64]; omega
  have x0 : (0 : Int) ≤ (x : Int) := by omega
  go_enter Tryd.func32, Tryd.ntmps32
  go_wp2_with fail
  go_quiet (fail)
  go_wp2_with fail
  go_region_held3 (fun w' => w'.cell? ⟨q, 0, none⟩ = some (.slice (some ⟨nb, 0, none⟩) N N) ∧ w'.cell? ⟨q, 1, none⟩ = some (.int .i64 y) ∧ w'.cell? ⟨nb, m, none⟩ = some (.pointer (some ⟨P m, 0, none⟩))) (go_keep) (first | (go_at_call 14; refine (HC.out _).mono ?_; rintro e w2 ⟨rz, rfl, hK, hR⟩; have s0 := hK.cell c0 HQ.out.1; have s1 := hK.cell c1 HQ.out.1; have s2 := hK.cell cP HQ.out.2))
  all_goals go_wp2
  all_goals go_ret
  all_goals exact ⟨rz, rfl, hR⟩
theorem hgive_ok (h : HP w q nb N K mk P u tk f F) (m A o x : Nat) (hm : m < N) (hA : A < 2 ^ K) (ht : tk m A = o + 1) (hx : x = m * 2 ^ K + A) {xi oi : Int} (ex : xi = x) (eo : oi = o) :
    Calls Tryd.prog 32 #[.pointer (some ⟨q, 0, none⟩), .int .i64 xi, .int .i64 oi] w fun e w' => ∃ G, e = .returned (.int .i64 0) ∧
      HP w' q nb N K mk P (fun i => if i = m then upd (u m) (A / 2 ^ o) o false else u i) (fun i => if i = m then (fun j => if j = A then 0 else tk m j) else tk i) (fun i => if i = m then f m + 2 ^ o else f i) (fun i => if i = m then G else F i) ∧ Kept (F m) w w' ∧ ∀ y, y ∈ G → y ∈ F m ∨ w.heap.size ≤ y := by
  subst ex eo
  refine (hgive_at h m A x o hm hA hx (R := fun z w' => z = 0 ∧ ∃ G, HP w' q nb N K mk P (fun i => if i = m then upd (u m) (A / 2 ^ o) o false else u i) (fun i => if i = m then (fun j => if j = A then 0 else tk m j) else tk i) (fun i => if i = m then f m + 2 ^ o else f i) (fun i => if i = m then G else F i) ∧ Kept (F m) w w' ∧ ∀ y, y ∈ G → y ∈ F m ∨ w.heap.size ≤ y) (fun d => ?_)).mono ?_
  · have hd := (Kept.refl [] w).drewN d
    refine (bs_give A o ((h.bud m hm).kept0 hd) hA ht rfl rfl).mono ?_
    rintro e w' ⟨G, rfl, hB, hk, hG⟩
    have hk2 : Kept (F m) w w' := ((Kept.refl (F m) w).drewN d).trans hk (fun _ h _ => h)
    exact ⟨0, rfl, hk2, rfl, G, (h.kept0 hd).swap m hm hk hB hG, hk2, hG⟩
  · rintro e w' ⟨z, rfl, rfl, G, h1, h2, h3⟩
    exact ⟨G, rfl, h1, h2, h3⟩
theorem hgive_bad (h : HP w q nb N K mk P u tk f F) (m A o x : Nat) (hm : m < N) (hA : A < 2 ^ K) (ho : o ≤ 10) (ht : tk m A ≠ o + 1) (hx : x = m * 2 ^ K + A) {xi oi : Int} (ex : xi = x) (eo : oi = o) :
    Calls Tryd.prog 32 #[.pointer (some ⟨q, 0, none⟩), .int .i64 xi, .int .i64 oi] w fun e w' => e = .returned (.int .i64 6) ∧ Kept [] w w' := by
  subst ex eo
  refine (hgive_at h m A x o hm hA hx (R := fun z w' => z = 6 ∧ Kept [] w w') (fun d => ?_)).mono ?_
  · have hd := (Kept.refl [] w).drewN d
    refine (bs_bad o ((h.bud m hm).kept0 hd) ho rfl (fun a ha _ => by rw [← show A = a by omega]; exact ht)).mono ?_
    rintro e w' ⟨rfl, hk⟩
    have hk2 : Kept [] w w' := hd.next hk
    exact ⟨6, rfl, hk2.mono (fun _ hx => by simp at hx), rfl, hk2⟩
  · rintro e w' ⟨z, rfl, rfl, h1⟩
    exact ⟨rfl, h1⟩
set_option maxHeartbeats 1000000 in
theorem hwhole_yes (h : HP w q nb N K mk P u tk f F) (hf : ∀ i, i < N → f i = 2 ^ K) :
    Calls Tryd.prog 33 #[.pointer (some ⟨q, 0, none⟩)] w fun e w' => e = .returned (.bool true) ∧ w' = w := by
  have c0 := h.c0
  have H := hide h
  have HFf := hide hf
  have hN := h.n8
  clear h hf
  go_enter Tryd.func33, Tryd.ntmps33
  go_wp2_with fail
  go_loop [12] (fun v => ∃ i : Nat, v = .int .i64 i ∧ i ≤ N) (fun v => N - (intOf v).toNat)
  case atStart => exact ⟨0, rfl, by omega⟩
  case round =>
    obtain ⟨i, rfl, hi⟩ := hrel
    by_cases hlt : i < N
    · have h0 : (0 : Int) ≤ i := by omega
      have h1 : (i : Int) < N := by omega
      have cP := H.out.cP i hlt
      have hfr := bs_free (H.out.bud i hlt)
      rw [HFf.out i hlt] at hfr
      have HFr := hide hfr
      have HL := hide (bs_len (H.out.bud i hlt))
      clear hfr
      generalize hz : (((2 ^ K : Nat) : Int)) = z at HFr HL
      clear hz
      go_wp2_with (first | (go_at_call 16; refine HFr.out.mono ?_; rintro e w' ⟨rfl, hw⟩; subst w') | (go_at_call 18; refine HL.out.mono ?_; rintro e w' ⟨rfl, hw⟩; subst w'))
      go_round
      case rel => exact ⟨i + 1, by go_num, by omega⟩
      case measure => simp [intOf]; omega
    · have h1 : ¬ (i : Int) < N := by omega
      go_wp2
      go_ret
      exact ⟨rfl, rfl⟩
set_option maxHeartbeats 1000000 in
theorem hwhole_no (h : HP w q nb N K mk P u tk f F) (hf : ∃ i, i < N ∧ f i ≠ 2 ^ K) :
    Calls Tryd.prog 33 #[.pointer (some ⟨q, 0, none⟩)] w fun e w' => e = .returned (.bool false) ∧ w' = w := by
  have c0 := h.c0
  have H := hide h
  have HFf := hide hf
  have hN := h.n8
  clear h hf
  go_enter Tryd.func33, Tryd.ntmps33
  go_wp2_with fail
  go_loop [12] (fun v => ∃ i : Nat, v = .int .i64 i ∧ i ≤ N ∧ ∀ j, j < i → f j = 2 ^ K) (fun v => N - (intOf v).toNat)
  case atStart => exact ⟨0, rfl, by omega, fun j hj => absurd hj (Nat.not_lt_zero _)⟩
  case round =>
    obtain ⟨i, rfl, hi, hj⟩ := hrel
    have HJ := hide hj
    clear hj
    by_cases hlt : i < N
    · have h0 : (0 : Int) ≤ i := by omega
      have h1 : (i : Int) < N := by omega
      have cP := H.out.cP i hlt
      have HFr := hide (bs_free (H.out.bud i hlt))
      have HL := hide (bs_len (H.out.bud i hlt))
      by_cases hfi : f i = 2 ^ K
      · have HE := hide hfi
        rw [hfi] at HFr
        clear hfi
        generalize hz : (((2 ^ K : Nat) : Int)) = z at HFr HL
        clear hz
        go_wp2_with (first | (go_at_call 16; refine HFr.out.mono ?_; rintro e w' ⟨rfl, hw⟩; subst w') | (go_at_call 18; refine HL.out.mono ?_; rintro e w' ⟨rfl, hw⟩; subst w'))
        go_round
        case rel => exact ⟨i + 1, by go_num, by omega, fun j hj => by
          by_cases e : j = i
          · rw [e]; exact HE.out
          · exact HJ.out j (by omega)⟩
        case measure => simp [intOf]; omega
      · have hne : ¬ ((f i : Int) = ((2 ^ K : Nat) : Int)) := by omega
        clear hfi
        generalize ((f i : Nat) : Int) = y at HFr hne
        generalize (((2 ^ K : Nat) : Int)) = z at HL hne
        have hneb : (y != z) = true := by simpa using hne
        go_wp2_with (first | (go_at_call 16; refine HFr.out.mono ?_; rintro e w' ⟨rfl, hw⟩; subst w') | (go_at_call 18; refine HL.out.mono ?_; rintro e w' ⟨rfl, hw⟩; subst w'))
        go_ret
        exact ⟨rfl, rfl⟩
    · exfalso
      obtain ⟨j, h1, h2⟩ := HFf.out
      exact h2 (HJ.out j (by omega))
end
/-- Nothing is marked: all is free. -/
theorem BS.all {w : World} {p K f : Nat} {u : Nat → Bool} {tk : Nat → Nat} {F : List Nat} (h : BS w p K u tk f F) (ht : ∀ A, A < 2 ^ K → tk A = 0) : f = 2 ^ K := by
  obtain ⟨L, tb, V, hB, hL, hT, rfl⟩ := h
  have hu : u = u0 K := by
    funext i
    by_cases hi : i < 2 ^ K
    · have h0 : u0 K i = false := by simp [u0, hi]
      rw [h0]
      cases hc : u i with
      | false => rfl
      | true =>
        obtain ⟨a, o, ha, hta, -⟩ := hT.cov i hi hc
        rw [ht a ha] at hta; omega
    · rw [hL.out i (by omega)]; simp [u0]; omega
  subst hu
  have h0 := ls0 hL.k10
  rw [← hL.sum, ← h0.sum]
  exact sumTo_congr 11 (fun j hj => by rw [(hL.lo j hj).unique (h0.lo j hj)])
end Go.Proofs.YtkhcopnklfmgcaaDoor.By
