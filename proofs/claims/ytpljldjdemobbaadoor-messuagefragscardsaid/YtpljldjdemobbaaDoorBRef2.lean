
/-
  No statement of the program: the document's buddy of the statements: Runs, over this seat's translation.
-/
import Derived.Test.YtpljldjdemobbaaDoorBRef
namespace Go.Proofs.YtpljldjdemobbaaDoor.By
open Go.ChangeShapes Go.WideShapes Go.ChangeAt Go.RowKit
section
variable {w : World} {r ub n base : Nat} {u : Nat → Bool} {tv : Value} {l : List (Nat × Nat)}
/-- The runs of an order ahead of the q-th place. -/
structure LoP (u : Nat → Bool) (o q : Nat) (m : List Nat) : Prop where
  sorted : m.Pairwise (· < ·)
  mem : ∀ x, x ∈ m ↔ ∃ q', q' < q ∧ x = q' * 2 ^ o ∧ Top u o q'
theorem LoP.zero (u : Nat → Bool) (o : Nat) : LoP u o 0 [] := ⟨List.Pairwise.nil, fun x => ⟨fun h => by simp at h, fun ⟨q', h, _⟩ => by omega⟩⟩
theorem LoP.skip {u : Nat → Bool} {o q : Nat} {m : List Nat} (h : LoP u o q m) (ht : ¬ Top u o q) : LoP u o (q + 1) m :=
  ⟨h.sorted, fun x => by
    rw [h.mem]
    constructor
    · rintro ⟨q', h1, h2, h3⟩; exact ⟨q', by omega, h2, h3⟩
    · rintro ⟨q', h1, h2, h3⟩
      refine ⟨q', ?_, h2, h3⟩
      by_cases e : q' = q
      · subst e; exact absurd h3 ht
      · omega⟩
theorem LoP.add {u : Nat → Bool} {o q : Nat} {m : List Nat} (h : LoP u o q m) (ht : Top u o q) : LoP u o (q + 1) (m ++ [q * 2 ^ o]) := by
  refine ⟨?_, fun x => ?_⟩
  · rw [List.pairwise_append]
    refine ⟨h.sorted, by simp, fun a ha b hb => ?_⟩
    obtain ⟨q', h1, rfl, -⟩ := (h.mem a).1 ha
    rw [List.mem_singleton.1 hb]
    exact Nat.mul_lt_mul_of_pos_right h1 (two_pos o)
  · rw [List.mem_append, List.mem_singleton, h.mem]
    constructor
    · rintro (⟨q', h1, h2, h3⟩ | rfl)
      · exact ⟨q', by omega, h2, h3⟩
      · exact ⟨q, by omega, rfl, ht⟩
    · rintro ⟨q', h1, h2, h3⟩
      by_cases e : q' = q
      · subst e; exact .inr h2
      · exact .inl ⟨q', by omega, h2, h3⟩
theorem LoP.len {u : Nat → Bool} {o q : Nat} {m : List Nat} (h : LoP u o q m) : m.length ≤ q * 2 ^ o := by
  have := sorted_len m 0 (q * 2 ^ o) h.sorted (fun x hx => by
    obtain ⟨q', h1, rfl, -⟩ := (h.mem x).1 hx
    exact ⟨Nat.zero_le _, Nat.mul_lt_mul_of_pos_right h1 (two_pos o)⟩)
  omega
theorem LoP.done {u : Nat → Bool} {o q : Nat} {m : List Nat} (h : LoP u o q m) (hout : ∀ i, n ≤ i → u i = true) (hq : n ≤ q * 2 ^ o) : Lo u o m :=
  ⟨h.sorted, fun x => by
    rw [h.mem]
    constructor
    · rintro ⟨q', h1, h2, h3⟩; exact ⟨q', h2, h3⟩
    · rintro ⟨q', h2, h3⟩
      refine ⟨q', ?_, h2, h3⟩
      by_cases e : q' < q
      · exact e
      · have h4 := h3.1 (q' * 2 ^ o) (mul_div q' o)
        have : q * 2 ^ o ≤ q' * 2 ^ o := Nat.mul_le_mul_right _ (by omega)
        rw [hout _ (by omega)] at h4; cases h4⟩
theorem fr_in {u : Nat → Bool} {q o : Nat} (hout : ∀ i, n ≤ i → u i = true) (hf : Fr u q o) : (q + 1) * 2 ^ o ≤ n := by
  by_cases h : (q + 1) * 2 ^ o ≤ n
  · exact h
  · exfalso
    have hp := two_pos o
    rw [Nat.add_mul, Nat.one_mul] at h
    have h1 := hf (q * 2 ^ o + 2 ^ o - 1) (blk_iff.2 ⟨by omega, by omega⟩)
    rw [hout _ (by omega)] at h1; cases h1
set_option maxRecDepth 20000 in
set_option maxHeartbeats 2000000 in
theorem rruns_ok (h : RB w r ub n base u tv l) (hn : n ≤ 1024) (hout : ∀ i, n ≤ i → u i = true) (o : Nat) (ho : o ≤ 10) {oi : Int} (eo : oi = o) :
    Calls Tryd.prog 28 #[.pointer (some ⟨r, 0, none⟩), .int .i64 oi] w fun e w' => ∃ v m, e = .returned v ∧ w'.ownsRow w.heap.size 3 1 v m.length (m.map iv) ∧ Lo u o m ∧ Kept [] w w' := by
  subst eo
  obtain ⟨y, hyE⟩ : ∃ y : Nat, y = 2 ^ o := ⟨_, rfl⟩
  have hyV : Value.int .i64 (wrap64 ((2 : Int) ^ o)) = Value.int .i64 (y : Int) := by rw [hyE, shl1 ho]
  have hy1 : 1 ≤ y := by rw [hyE]; exact two_pos o
  have hy2 : y ≤ 1024 := by rw [hyE]; exact n1024 ho
  have HY := hide hyE
  obtain ⟨i3, hi3, hz3, hs3, hb3⟩ : ∃ i, Tryd.prog.info? 3 = some i ∧ i.zero = some (.int .i64 0) ∧ i.size = 1 ∧ i.bytes = 8 := by
    obtain ⟨i, h1, h2⟩ := Option.map_eq_some_iff.1 info3
    simp only [Prod.mk.injEq] at h2
    exact ⟨i, h1, h2.1, h2.2.1, h2.2.2⟩
  have I3 := hide hi3
  have Z3 := hide hz3
  have S3 := hide hs3
  have B3 := hide hb3
  have H := hide h
  have HO := hide hout
  have c0 := h.c0
  clear hi3 hz3 hs3 hb3 h hout hyE
  go_enter Tryd.func28, Tryd.ntmps28
  go_wp2_with fail
  go_loopw [5, 6] (fun c v wr => ∃ (q a : Nat) (m : List Nat), a = q * y ∧ v = .int .i64 a ∧ q * y < n + y ∧ LoP u o q m ∧ wr.ownsRow w.heap.size 3 1 c m.length (m.map iv) ∧ Kept [] w wr) (fun _ v _ => n + y - (intOf v).toNat)
  case atStart => exact ⟨0, 0, [], by simp, rfl, by omega, LoP.zero u o, World.ownsRow_nil _ _ _ _, Kept.refl _ _⟩
  case round =>
    obtain ⟨q, a, m, ha, rfl, hq, hL, hOw, hK⟩ := hrel
    have d0 := hK.cell c0 (by simp)
    have K := hide hK
    have L := hide hL
    have OW := hide hOw
    clear hK hL hOw
    by_cases hlt : a < n
    · have hai : (a : Int) < n := by omega
      have hz2 : ∃ z : Nat, z = 2 * y := ⟨_, rfl⟩
      obtain ⟨z, hzE⟩ := hz2
      have up : a - a % z = q / 2 * z := by
        rw [ha, hzE]
        have e1 : q * y = q / 2 * (2 * y) + q % 2 * y := by
          have := Nat.div_add_mod q 2
          calc q * y = (2 * (q / 2) + q % 2) * y := by rw [this]
            _ = q / 2 * (2 * y) + q % 2 * y := by rw [Nat.add_mul]; congr 1; rw [Nat.mul_comm 2 (q / 2), Nat.mul_assoc]
        have e2 : q % 2 * y < 2 * y := Nat.mul_lt_mul_of_pos_right (by omega) (by omega)
        rw [e1, Nat.add_comm, Nat.add_mul_mod_self_right, Nat.mod_eq_of_lt e2]; omega
      have hmz0 : (0 : Int) ≤ (a : Int) % (z : Int) := Int.emod_nonneg _ (by omega)
      have hml := Nat.mod_le a z
      have hmz1 : (a : Int) % (z : Int) ≤ (a : Int) := by rw [← Int.natCast_emod]; omega
      obtain ⟨au, hau⟩ : ∃ au, au = q / 2 * z := ⟨_, rfl⟩
      rw [← hau] at up
      have hupI : (a : Int) - (a : Int) % (z : Int) = (au : Int) := by rw [← Int.natCast_emod]; omega
      have hz2048 : z ≤ 2048 := by omega
      have hz0 : ¬ (z : Int) = 0 := by omega
      have hzp : (0 : Int) < (z : Int) := by omega
      have hzV : Value.int .i64 (wrap64 (2 * (2 : Int) ^ o)) = Value.int .i64 (z : Int) := by
        have e1 : (2 : Int) * (2 : Int) ^ o = ((2 * 2 ^ o : Nat) : Int) := by simp
        rw [e1, hzE, HY.out]
        have := n1024 ho
        generalize 2 ^ o = t at this
        rw [IntWalk.wrap64_in _ ⟨by omega, by omega⟩]
      have hzo : z = 2 ^ (o + 1) := by rw [hzE, HY.out, Nat.pow_succ]; omega
      have EA := hide (show (a : Int) = ((q * 2 ^ o : Nat) : Int) by rw [ha, HY.out])
      have EU := hide (show (au : Int) = ((q / 2 * 2 ^ (o + 1) : Nat) : Int) by rw [hau, hzo])
      have hqn := hide (show q * 2 ^ o ≤ n by rw [← HY.out, ← ha]; omega)
      have hun := hide (show q / 2 * 2 ^ (o + 1) ≤ n by rw [← hzo, ← hau]; omega)
      have HAE := hide ha
      have H1 := hide (H.out.kept0 K.out)
      have hml2 := L.out.len
      rw [← HY.out, ← HAE.out] at hml2
      clear ha up hau hzE hzo hml
      by_cases hF : Fr u q o
      · have hFin := fr_in HO.out hF
        have HFY := hide (rfree_yes H1.out hn q o ho hFin hF EA.out (rfl : ((o : Nat) : Int) = o))
        by_cases ho10 : o = 10
        · have TP := hide (show Top u o q from ⟨hF, fun h2 => by
            have h3 := fr_in HO.out h2
            have h4 : 2 ^ (o + 1) = 2048 := by rw [ho10]
            rw [h4] at h3; omega⟩)
          have hoi : (o : Int) = 10 := by omega
          have hob : ((o : Int) == 10) = true := by simpa using hoi
          have HOI := hide hoi
          clear hF hFin ho10 hoi
          go_wp2_with fail
          refine HFY.out.mono ?_
          rintro e w3 ⟨rfl, hk3⟩
          have K2 := hide (K.out.next hk3)
          have OW2 := hide (own_kept OW.out hk3 (fun x hx => by simp at hx))
          clear hk3 HFY K OW d0 H1
          go_wp2_with (at_builtin; refine wpList_append_own_at _ rfl _ _ _ rfl w.heap.size 3 i3 (.int .i64 0) 1 8 Tryd.underlying47 I3.out Z3.out S3.out B3.out rfl (by decide) u5 m.length (m.map iv) rfl (OW2.out.alloc _) ⟨_, 0, none⟩ 1 1 [iv a] rfl rfl news_one (by simp [iv, Value.oneCell']) (by unfold maxLen; omega) (by omega) (by have := K2.out.size; simp; omega) ?_)
          intro v' w4 o4 g4 _ b4
          have O4 := hide (show w4.ownsRow w.heap.size 3 1 v' (m ++ [q * 2 ^ o]).length ((m ++ [q * 2 ^ o]).map iv) from by rw [← HY.out, ← HAE.out]; simpa using o4)
          have K4 := hide (own_grown (OW2.out.alloc _) g4 w (K2.out.alloc _) (Nat.le_refl _))
          clear o4 g4 b4 OW2 K2
          go_wp2
          go_roundw
          case rel => exact ⟨q + 1, a + y, _, by rw [HAE.out, Nat.add_mul, Nat.one_mul], by go_num, by rw [Nat.add_mul, Nat.one_mul, ← HAE.out]; omega, L.out.add TP.out, O4.out, K4.out⟩
          case measure => simp [intOf]; omega
        · have hoi : ¬ (o : Int) = 10 := by omega
          have hob : ((o : Int) == 10) = false := by simpa using hoi
          by_cases hF2 : Fr u (q / 2) (o + 1)
          · have hFin2 := fr_in HO.out hF2
            have NT := hide (show ¬ Top u o q from fun h => h.2 hF2)
            have HG := hide (show ∀ w3, Kept [] wr w3 → Calls Tryd.prog 38 #[.pointer (some ⟨r, 0, none⟩), .int .i64 au, .int .i64 ((o : Int) + 1)] w3 fun e w' => e = .returned (.bool true) ∧ Kept [] w3 w' from fun w3 hk => rfree_yes (H1.out.kept0 hk) hn (q / 2) (o + 1) (by omega) hFin2 hF2 EU.out (by omega))
            clear hF hFin hF2 hFin2 ho10
            go_wp2_with fail
            refine HFY.out.mono ?_
            rintro e w3 ⟨rfl, hk3⟩
            have G3 := hide (HG.out w3 hk3)
            have K2 := hide (K.out.next hk3)
            have OW2 := hide (own_kept OW.out hk3 (fun x hx => by simp at hx))
            clear hk3 HG HFY K OW d0 H1
            go_wp2_with fail
            refine G3.out.mono ?_
            rintro e w4 ⟨rfl, hk4⟩
            have K3 := hide (K2.out.next hk4)
            have OW3 := hide (own_kept OW2.out hk4 (fun x hx => by simp at hx))
            clear hk4 G3 K2 OW2
            go_wp2
            go_roundw
            case rel => exact ⟨q + 1, a + y, m, by rw [HAE.out, Nat.add_mul, Nat.one_mul], by go_num, by rw [Nat.add_mul, Nat.one_mul, ← HAE.out]; omega, L.out.skip NT.out, OW3.out, K3.out⟩
            case measure => simp [intOf]; omega
          · have TP := hide (show Top u o q from ⟨hF, hF2⟩)
            have HG := hide (show ∀ w3, Kept [] wr w3 → Calls Tryd.prog 38 #[.pointer (some ⟨r, 0, none⟩), .int .i64 au, .int .i64 ((o : Int) + 1)] w3 fun e w' => e = .returned (.bool false) ∧ Kept [] w3 w' from fun w3 hk => rfree_no (H1.out.kept0 hk) hn (q / 2) (o + 1) (by omega) hun.out (.inr hF2) EU.out (by omega))
            clear hF hFin hF2 ho10
            go_wp2_with fail
            refine HFY.out.mono ?_
            rintro e w3 ⟨rfl, hk3⟩
            have G3 := hide (HG.out w3 hk3)
            have K1 := hide (K.out.next hk3)
            have OW1 := hide (own_kept OW.out hk3 (fun x hx => by simp at hx))
            clear hk3 HG HFY K OW d0 H1
            go_wp2_with fail
            refine G3.out.mono ?_
            rintro e w4 ⟨rfl, hk4⟩
            have K2 := hide (K1.out.next hk4)
            have OW2 := hide (own_kept OW1.out hk4 (fun x hx => by simp at hx))
            clear hk4 G3 K1 OW1
            go_wp2_with (at_builtin; refine wpList_append_own_at _ rfl _ _ _ rfl w.heap.size 3 i3 (.int .i64 0) 1 8 Tryd.underlying47 I3.out Z3.out S3.out B3.out rfl (by decide) u5 m.length (m.map iv) rfl (OW2.out.alloc _) ⟨_, 0, none⟩ 1 1 [iv a] rfl rfl news_one (by simp [iv, Value.oneCell']) (by unfold maxLen; omega) (by omega) (by have := K2.out.size; simp; omega) ?_)
            intro v' w5 o5 g5 _ b5
            have O5 := hide (show w5.ownsRow w.heap.size 3 1 v' (m ++ [q * 2 ^ o]).length ((m ++ [q * 2 ^ o]).map iv) from by rw [← HY.out, ← HAE.out]; simpa using o5)
            have K5 := hide (own_grown (OW2.out.alloc _) g5 w (K2.out.alloc _) (Nat.le_refl _))
            clear o5 g5 b5 OW2 K2
            go_wp2
            go_roundw
            case rel => exact ⟨q + 1, a + y, _, by rw [HAE.out, Nat.add_mul, Nat.one_mul], by go_num, by rw [Nat.add_mul, Nat.one_mul, ← HAE.out]; omega, L.out.add TP.out, O5.out, K5.out⟩
            case measure => simp [intOf]; omega
      · have NT := hide (show ¬ Top u o q from fun h => hF h.1)
        have HFY := hide (rfree_no H1.out hn q o ho hqn.out (.inr hF) EA.out (rfl : ((o : Nat) : Int) = o))
        clear hF
        go_wp2_with fail
        refine HFY.out.mono ?_
        rintro e w3 ⟨rfl, hk3⟩
        have K2 := hide (K.out.next hk3)
        have OW2 := hide (own_kept OW.out hk3 (fun x hx => by simp at hx))
        clear hk3 HFY K OW d0 H1
        go_wp2
        go_roundw
        case rel => exact ⟨q + 1, a + y, m, by rw [HAE.out, Nat.add_mul, Nat.one_mul], by go_num, by rw [Nat.add_mul, Nat.one_mul, ← HAE.out]; omega, L.out.skip NT.out, OW2.out, K2.out⟩
        case measure => simp [intOf]; omega
    · have hai : ¬ (a : Int) < n := by omega
      have LD := hide (L.out.done (n := n) HO.out (by rw [← HY.out, ← ha]; omega))
      obtain ⟨ao, cap, hu⟩ : ∃ ao cap, u5 = .slice ao m.length cap := by
        rcases OW.out.2 with ⟨h, h0⟩ | ⟨g, cap, cur, h, -⟩
        · exact ⟨none, 0, by rw [h, h0]⟩
        · exact ⟨_, _, h⟩
      subst hu
      clear ha
      go_wp2
      go_ret
      exact ⟨_, rfl, m, OW.out, LD.out, K.out⟩
end
end Go.Proofs.YtpljldjdemobbaaDoor.By
