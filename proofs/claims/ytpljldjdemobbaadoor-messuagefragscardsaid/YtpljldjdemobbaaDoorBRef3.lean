
/-
  No statement of the program: the document's buddy of the statements: DocTake, over this seat's translation.
-/
import Derived.Test.YtpljldjdemobbaaDoorBRef2
import Derived.Deep.AppendLies
namespace Go.Proofs.YtpljldjdemobbaaDoor.By
open Go.ChangeShapes Go.WideShapes Go.ChangeAt Go.RowKit
theorem own_shape {w : World} {base : Nat} {e : TypeId} {size : Nat} {v : Value} {n : Nat} {xs : List Value} (h : w.ownsRow base e size v n xs) : ∃ ao cap, v = .slice ao n cap := by
  rcases h.2 with ⟨h1, h2⟩ | ⟨g, cap, cur, h1, -⟩
  · exact ⟨none, 0, by rw [h1, h2]⟩
  · exact ⟨_, _, h1⟩
section
variable {w : World} {r ub n base : Nat} {u : Nat → Bool} {tv : Value} {l : List (Nat × Nat)}
/-- The runs that are taken lie elsewhere now. -/
theorem rb_retake {w4 w5 : World} {tv' : Value} {l' : List (Nat × Nat)} (h : RB w4 r ub n base u tv l) (hk : Kept tv.ownBlock.toList w4 w5) (hb : tv'.ownBlock = tv.ownBlock ∨ ∃ b, tv'.ownBlock = some b ∧ w4.heap.size ≤ b) (ho : w5.ownsRow base 49 2 tv' l'.length (flat l')) :
    RB (w5.setCell ⟨r, 1, none⟩ tv') r ub n base u tv' l' := by
  have nr' : tv'.ownBlock ≠ some r := fun e => by
    rcases hb with h1 | ⟨b, h1, h2⟩
    · exact h.nr (by rw [← h1]; exact e)
    · rw [h1] at e; have := Option.some.inj e; have := h.obj.lt; omega
  have nu' : tv'.ownBlock ≠ some ub := fun e => by
    rcases hb with h1 | ⟨b, h1, h2⟩
    · exact h.nu (by rw [← h1]; exact e)
    · rw [h1] at e; have := Option.some.inj e; have := h.row.lt; omega
  have k5 : Kept [r] w5 (w5.setCell ⟨r, 1, none⟩ tv') := (Kept.refl [r] w5).setCell (p := ⟨r, 1, none⟩) (fun _ => by simp) _
  refine ⟨((hk.row h.obj (fun hm => h.nr (by simpa using hm))).set 1 tv').congr (fun i hi => ?_), (hk.row h.row (fun hm => h.nu (by simpa using hm))).setOther (by simpa using h.ne.symm) _, own_far ho k5 (fun g hg hm => nr' (by rw [hg, List.mem_singleton.1 hm])), h.ne, nr', nu'⟩
  by_cases h1 : i = 1
  · subst h1; simp
  · rw [if_neg h1, if_pos (by omega), if_pos (by omega)]
set_option maxRecDepth 20000 in
set_option maxHeartbeats 2000000 in
theorem rtake_ok (h : RB w r ub n base u tv l) (hn : n ≤ 1024) (hout : ∀ i, n ≤ i → u i = true) (hbase : base ≤ w.heap.size) (hl : l.length ≤ 1024) (o A : Nat) (hA : Finds u o A) {oi : Int} (eo : oi = o) :
    Calls Tryd.prog 27 #[.pointer (some ⟨r, 0, none⟩), .int .i64 oi] w fun e w' => ∃ tv', e = .returned (.tuple #[.int .i64 A, .int .i64 0]) ∧ RB w' r ub n base (upd u (A / 2 ^ o) o true) tv' (l ++ [(A, o)]) ∧ Kept (rfoot r ub tv) w w' ∧ ∀ x, tv'.ownBlock = some x → tv.ownBlock = some x ∨ w.heap.size ≤ x := by
  subst eo
  obtain ⟨k, a, hL, hAe⟩ := hA
  have hk10 := hL.k10
  have hok := hL.ok
  have e5 : A / 2 ^ o * 2 ^ o = A := by rw [hAe]; exact Nat.div_mul_cancel (Nat.dvd_mul_left_of_dvd (Nat.pow_dvd_pow 2 hL.ok) a)
  have hin : (A / 2 ^ o + 1) * 2 ^ o ≤ n := fr_in hout (Fr.up hL.ok (by rw [hAe, div_up hL.ok, mul_div]; exact hL.top.1))
  have H := hide h
  have HO := hide hout
  have HL := hide hL
  have HE := hide hAe
  have E5 := hide e5
  have HIN := hide hin
  obtain ⟨i45, hi, hz, hs, hb⟩ := hi45e
  have I45 := hide hi
  have Z45 := hide hz
  have S45 := hide hs
  have B45 := hide hb
  clear h hout hL hAe e5 hin hi hz hs hb
  have ho0 : (0 : Int) ≤ (o : Int) := by omega
  have ho1 : (o : Int) ≤ 10 := by omega
  go_enter Tryd.func27, Tryd.ntmps27
  go_wp2_with fail
  go_loopw [6] (fun v wr => ∃ j : Nat, v = .int .i64 j ∧ o ≤ j ∧ j ≤ k ∧ Kept [] w wr) (fun v _ => 11 - (intOf v).toNat)
  case atStart => exact ⟨o, rfl, Nat.le_refl _, hok, Kept.refl _ _⟩
  case round =>
    obtain ⟨j, rfl, hj1, hj2, hK⟩ := hrel
    have K := hide hK
    clear hK
    have hj10 : (j : Int) ≤ 10 := by omega
    have HR := hide (rruns_ok (H.out.kept0 K.out) hn HO.out j (by omega) (rfl : ((j : Nat) : Int) = j))
    by_cases hjk : j < k
    · go_wp2_with fail
      refine HR.out.mono ?_
      rintro e w3 ⟨v, m, rfl, hv, hm, hk3⟩
      have hm0 := hm.nil (fun b => HL.out.none j b hj1 hjk)
      subst hm0
      obtain ⟨ao, cap, hvs⟩ := own_shape hv
      subst hvs
      have K3 := hide (K.out.next hk3)
      clear hv hm hk3 HR K
      go_wp2
      go_roundw
      case rel => exact ⟨j + 1, by go_num, by omega, by omega, K3.out⟩
      case measure => simp [intOf]; omega
    · have hje : j = k := by omega
      subst hje
      go_wp2_with fail
      refine HR.out.mono ?_
      rintro e w3 ⟨v, m, rfl, hv, hm, hk3⟩
      obtain ⟨rr, hrr⟩ := hm.head HL.out.top HL.out.low
      rw [← HE.out] at hrr
      subst hrr
      have hlen : (A :: rr).length ≤ 1024 := by have := hm.len HO.out; omega
      obtain ⟨g, cap, hvs, hg1, hg2⟩ := World.ownsRow.form hv (by simp)
      subst hvs
      have cA : w3.cell? ⟨g, 0, none⟩ = some (.int .i64 A) := by
        have := World.ownsRow.cells hv (g := g) rfl 0 (iv A) rfl
        rw [add_plain] at this
        exact this
      have K3 := hide (K.out.next hk3)
      have R3 := hide (H.out.kept0 K3.out)
      have hlr : (0 : Int) < ((A :: rr).length : Int) := by simp
      have gne : g ∉ rfoot r ub tv := fun hm => by have := H.out.lt g hm; have := K.out.size; omega
      have GN := hide gne
      clear hv hm hk3 HR K gne
      generalize (A :: rr).length = ln at hlr hlen
      have hlr0 : (0 : Int) < (ln : Int) := hlr
      go_wp2_with fail
      refine (rset_ok R3.out hn (A / 2 ^ o) o (by omega) HIN.out true (by rw [E5.out]) rfl).mono ?_
      rintro e w4 ⟨v4, rfl, hR4, hk4⟩
      have R4 := hide hR4
      have cA4 := hk4.cell cA (fun hm => GN.out (mem_rfoot.2 (.inr (.inl (List.mem_singleton.1 hm)))))
      have c14 := hR4.c1
      have f14 := hR4.obj.frozen 1
      have K4 := hide (show Kept (rfoot r ub tv) w w4 from (K3.out.mono (fun _ h => by simp at h)).trans hk4 (fun x hx _ => mem_rfoot.2 (.inr (.inl (List.mem_singleton.1 hx)))))
      have hrl := hR4.obj.lt
      have hB4 := hide (show base ≤ w4.heap.size from by have := K4.out.size; omega)
      clear hR4 hk4 R3 cA K3
      go_wp2_with fail
      have R4' := hide (R4.out.kept0 ((Kept.refl [] w4).drew.alloc (.cells #[.int .i64 A, .int .i64 o] 49)))
      go_region_law ((refine step_append_own (by rfl) _ _ _ (by rfl) base 49 i45 (.agg #[.int .i64 0, .int .i64 0]) 2 16 Tryd.underlying48 I45.out Z45.out S45.out B45.out rfl (by decide) tv l.length (flat l) (by rfl) R4'.out.own ⟨w4.heap.size, 0, none⟩ 1 1 [iv A, iv o] (by rfl) (by rfl) news_two (one_flat [(A, o)]) (by unfold maxLen; omega) (by omega) (by have := hB4.out; simp; omega) ?_; intro v5 w5 o5 g5 b5 n5; have K5 := Kept.of_grownBy (L := tv.ownBlock.toList) g5 (fun k hk _ => by simp [hk]); have s5 := K5.cell R4'.out.c1 (fun hm => R4'.out.nr (by simpa using hm)); have f5 := (K5.row R4'.out.obj (fun hm => R4'.out.nr (by simpa using hm))).frozen 1; have cA5 := K5.cell (((Kept.refl [] w4).drew.alloc (.cells #[.int .i64 A, .int .i64 o] 49)).cell cA4 (by simp)) (fun hm => GN.out (mem_rfoot.2 (.inr (.inr (by simpa using hm))))); obtain ⟨ao5, cp5, hv5⟩ := own_shape o5; subst hv5))
      all_goals
        have hgr : ¬ g = r := fun e => GN.out (mem_rfoot.2 (.inl e))
        have hrg : ¬ r = g := fun e => hgr e.symm
        have R6 := hide (rb_retake (l' := l ++ [(A, o)]) R4'.out K5 (b5.imp id (fun e => ⟨_, e, Nat.le_refl _⟩)) (by rw [flat_append, List.length_append]; exact o5))
        have K6 := hide (show Kept (rfoot r ub tv) w (w5.setCell ⟨r, 1, none⟩ (.slice ao5 (l.length + 1) cp5)) from (((K4.out.drew.alloc (.cells #[.int .i64 A, .int .i64 o] 49))).trans K5 (fun x hx _ => mem_rfoot.2 (.inr (.inr (by simpa using hx))))).setCell (p := ⟨r, 1, none⟩) (fun _ => mem_rfoot.2 (.inl rfl)) _)
        have B6 := hide (show ∀ x, (Value.slice ao5 (l.length + 1) cp5).ownBlock = some x → tv.ownBlock = some x ∨ w.heap.size ≤ x from fun x hx => by
          rcases b5 with e | e
          · exact .inl (by rw [← e]; exact hx)
          · rw [e] at hx
            have := Option.some.inj hx
            have h2 := K4.out.size
            exact .inr (by rw [← this]; simp; omega))
        have cA6 : (w5.setCell ⟨r, 1, none⟩ (.slice ao5 (l.length + 1) cp5)).cell? ⟨g, 0, none⟩ = some (.int .i64 A) := ((Kept.refl [r] w5).setCell (p := ⟨r, 1, none⟩) (fun _ => by simp) _).cell cA5 (by simpa using hgr)
        clear o5 g5 b5 n5 K5 s5 f5 cA5 cA4 c14 f14 R4 R4' K4
        go_wp2_with fail
        go_ret2
        exact ⟨_, rfl, R6.out, K6.out, B6.out⟩
set_option maxHeartbeats 1000000 in
theorem rtake_no (h : RB w r ub n base u tv l) (hn : n ≤ 1024) (hout : ∀ i, n ≤ i → u i = true) (o : Nat) (ho : o ≤ 10) (hN : Nun u o) {oi : Int} (eo : oi = o) :
    Calls Tryd.prog 27 #[.pointer (some ⟨r, 0, none⟩), .int .i64 oi] w fun e w' => e = .returned (.tuple #[.int .i64 0, .int .i64 5]) ∧ Kept [] w w' := by
  subst eo
  have H := hide h
  have HO := hide hout
  have HN := hide hN
  clear h hout hN
  have ho0 : (0 : Int) ≤ (o : Int) := by omega
  have ho1 : (o : Int) ≤ 10 := by omega
  go_enter Tryd.func27, Tryd.ntmps27
  go_wp2_with fail
  go_loopw [6] (fun v wr => ∃ j : Nat, v = .int .i64 j ∧ o ≤ j ∧ j ≤ 11 ∧ Kept [] w wr) (fun v _ => 11 - (intOf v).toNat)
  case atStart => exact ⟨o, rfl, Nat.le_refl _, by omega, Kept.refl _ _⟩
  case round =>
    obtain ⟨j, rfl, hj1, hj2, hK⟩ := hrel
    have K := hide hK
    clear hK
    by_cases hj : j ≤ 10
    · have hj10 : (j : Int) ≤ 10 := by omega
      have HR := hide (rruns_ok (H.out.kept0 K.out) hn HO.out j (by omega) (rfl : ((j : Nat) : Int) = j))
      go_wp2_with fail
      refine HR.out.mono ?_
      rintro e w3 ⟨v, m, rfl, hv, hm, hk3⟩
      have hm0 := hm.nil (fun b => HN.out j b hj1 hj)
      subst hm0
      obtain ⟨ao, cap, hvs⟩ := own_shape hv
      subst hvs
      have K3 := hide (K.out.next hk3)
      clear hv hm hk3 HR K
      go_wp2
      go_roundw
      case rel => exact ⟨j + 1, by go_num, by omega, by omega, K3.out⟩
      case measure => simp [intOf]; omega
    · have hj10 : ¬ (j : Int) ≤ 10 := by omega
      go_wp2
      go_ret2
      exact ⟨rfl, K.out⟩
theorem rtake_bad {r : Nat} {w : World} {oi : Int} (ho : ¬ (0 ≤ oi ∧ oi ≤ 10)) :
    Calls Tryd.prog 27 #[.pointer (some ⟨r, 0, none⟩), .int .i64 oi] w fun e w' => e = .returned (.tuple #[.int .i64 0, .int .i64 1]) ∧ w' = w := by
  rcases (show oi < 0 ∨ (0 ≤ oi ∧ 10 < oi) by omega) with h0 | ⟨h0, h1⟩
  · clear ho
    go_enter Tryd.func27, Tryd.ntmps27
    go_wp2
    go_ret2
    exact ⟨rfl, rfl⟩
  · clear ho
    have h2 : ¬ oi < 0 := by omega
    go_enter Tryd.func27, Tryd.ntmps27
    go_wp2
    go_ret2
    exact ⟨rfl, rfl⟩
theorem rgive_bad {r : Nat} {w : World} {ai oi : Int} (ho : ¬ (0 ≤ oi ∧ oi ≤ 10)) :
    Calls Tryd.prog 26 #[.pointer (some ⟨r, 0, none⟩), .int .i64 ai, .int .i64 oi] w fun e w' => e = .returned (.int .i64 1) ∧ w' = w := by
  rcases (show oi < 0 ∨ (0 ≤ oi ∧ 10 < oi) by omega) with h0 | ⟨h0, h1⟩
  · clear ho
    go_enter Tryd.func26, Tryd.ntmps26
    go_wp2
    go_ret
    exact ⟨rfl, rfl⟩
  · clear ho
    have h2 : ¬ oi < 0 := by omega
    go_enter Tryd.func26, Tryd.ntmps26
    go_wp2
    go_ret
    exact ⟨rfl, rfl⟩
end
end Go.Proofs.YtpljldjdemobbaaDoor.By
