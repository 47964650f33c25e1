/-
  The walk of 'messuagelaw14.RingFull', and the given statement of it.
-/
import Derived.Test.YtnokpecdkibddadRngLaw
import Derived.Test.YtnokpecdkibddadRows
namespace Go.Proofs.Ytnokpecdkibddad.LF
open Go.ChangeShapes Go.WideShapes Go.ChangeAt Go.RowKit 
/-- The numbers of a round. -/
def rowOf (k j : Nat) : List Int := (List.range j).map (fun (t : Nat) => (100 * k + t : Int))
theorem rowOf_succ (k j : Nat) : rowOf k (j + 1) = rowOf k j ++ [(100 * k + j : Int)] := by unfold rowOf; rw [List.range_succ, List.map_append]; rfl
theorem rowOf_len (k j : Nat) : (rowOf k j).length = j := by unfold rowOf; simp
theorem rowOf_get (k n j : Nat) (h : j < n) : (rowOf k n)[j]? = some (100 * k + j : Int) := by unfold rowOf; simp [h]
set_option maxHeartbeats 2000000 in
set_option maxRecDepth 100000 in
theorem law_any (size rounds : Int) (w : World) : Calls Try.prog 4 #[.int .i64 size, .int .i64 rounds] w fun e w' => e = .returned (.bool true) ∧ Kept [] w w' := by
  obtain ⟨q, hq, hqe⟩ := mod_small size 64 (by omega) (by omega)
  obtain ⟨R, hR5, hRe⟩ := mod_small rounds 5 (by omega) (by omega)
  obtain ⟨n, hn⟩ : ∃ n, n = q + 1 := ⟨_, rfl⟩
  have hwn : IntKind.i64.wrap (1 + (q : Int)) = (n : Int) := by rw [wrap_small _ (by omega) (by omega)]; omega
  have hn1 : 1 ≤ n := by omega
  have hn64 : n ≤ 64 := by omega
  have hnew := RI.new_ok n hn1 hn64 w
  have HQ := hide (And.intro hq hn)
  clear hq hn
  go_enter Try.func4, Try.ntmps4
  go_wp2_with fail
  refine hnew.mono ?_
  rintro e w1 ⟨v, rfl, r, c, rfl, hRG, hr, hc, hK⟩
  have K1 := hide hK
  have HR1 := hide hRG
  clear hnew hRG hK
  go_wp2_with (go_at_call 6; refine (RL.rings_true _).mono ?_; rintro e w2 ⟨rfl, hK2⟩; have HR0 := hide (HR1.out.kept hK2 (by simp) (by simp)); have K2 := hide (K1.out.next hK2); clear hK2)
  go_loopw [8] (fun i wr => ∃ k : Nat, k ≤ R ∧ i = .int .i64 k ∧ RI.RG wr r c n [] ∧ Kept [] w wr) (fun i _ => R - (intOf i).toNat)
  case atStart => exact ⟨0, by omega, rfl, HR0.out, K2.out⟩
  case round =>
    obtain ⟨k, hk, rfl, hG, hKk⟩ := hrel
    have K := hide hKk
    clear hKk HR0 K2 HR1 K1
    by_cases hkl : k < R
    · have hki : (k : Int) < (R : Int) := by omega
      have hp := RI.put_room hG (show ([] : List Int).length < n by simp; omega) (k : Int)
      rw [show ([] : List Int) ++ [(k : Int)] = [(k : Int)] from rfl] at hp
      clear hG
      go_wp2_with fail
      refine hp.mono ?_
      rintro e wa ⟨rfl, hGa, hKa⟩
      have Ka := hide (K.out.trans hKa (fun x hx hl => by simp at hx; omega))
      have ht := RI.take_some hGa
      clear hp hKa hGa
      go_wp2_with fail
      refine ht.mono ?_
      rintro e wb ⟨rfl, hGb, hKb⟩
      have Kb := hide (Ka.out.trans hKb (fun x hx hl => by simp at hx; omega))
      have HGb := hide hGb
      clear ht hKb hGb
      go_wp2
      go_loopw [9] (fun i wr => ∃ j : Nat, j ≤ n ∧ i = .int .i64 j ∧ RI.RG wr r c n (rowOf k j) ∧ Kept [] w wr) (fun i _ => n - (intOf i).toNat)
      case atStart => exact ⟨0, by omega, rfl, HGb.out, Kb.out⟩
      case round =>
        obtain ⟨j, hj, rfl, hGj, hKj⟩ := hrel
        have KJ := hide hKj
        clear hKj HGb Kb
        have hw2 : IntKind.i64.wrap (100 * (k : Int)) = 100 * (k : Int) := wrap_small _ (by omega) (by omega)
        by_cases hjl : j < n
        · have hji : (j : Int) < (n : Int) := by omega
          have hrm := RI.room_any hGj (by rw [rowOf_len]; omega) hn64
          rw [rowOf_len] at hrm
          have hpj := RI.put_room hGj (by rw [rowOf_len]; omega) (100 * (k : Int) + (j : Int))
          rw [← rowOf_succ] at hpj
          have hw1 : IntKind.i64.wrap ((n : Int) - (j : Int)) = ((n - j : Nat) : Int) := by rw [wrap_small _ (by omega) (by omega)]; omega
          have hw3 : IntKind.i64.wrap (100 * (k : Int) + (j : Int)) = 100 * (k : Int) + (j : Int) := wrap_small _ (by omega) (by omega)
          clear hGj
          go_wp2_with (first
            | (go_at_call 14; refine hrm.mono ?_; rintro e w' ⟨rfl, hw⟩; subst w')
            | (go_at_call 12; refine hpj.mono ?_; rintro e wc ⟨rfl, hGc, hKc⟩; have RR := hide (And.intro hGc (KJ.out.trans hKc (fun x hx hl => by simp at hx; omega))); clear hGc hKc))
          go_roundw
          case rel => exact ⟨j + 1, by omega, by go_num, RR.out⟩
          case measure => simp [intOf]; omega
        · have e : j = n := by omega
          subst e
          have hpf := RI.put_full hGj (by rw [rowOf_len]; omega) 1
          have hrm : Calls Try.prog 14 #[.pointer (some ⟨r, 0, none⟩)] wr fun e w' => e = .returned (.int .i64 0) ∧ w' = wr := by
            have := RI.room_any hGj (by rw [rowOf_len]; omega) hn64
            rw [rowOf_len, Nat.sub_self] at this
            exact this
          have hall : Calls Try.prog 15 #[.pointer (some ⟨r, 0, none⟩)] wr fun e w' => ∃ ao cap, e = .returned (.slice ao j cap) ∧ (∀ t : Nat, t < j → ∃ g, ao = some ⟨g, 0, none⟩ ∧ w'.cell? ⟨g, t, none⟩ = some (.int .i64 (100 * (k : Int) + (t : Int)))) ∧ RI.RG w' r c j [] ∧ Kept [c] wr w' := (RI.all_any hGj (by rw [rowOf_len]; omega)).mono (by
            rintro e w' ⟨v, rfl, h1, h2, h3⟩
            unfold RI.Got at h1
            rw [rowOf_len] at h1
            obtain ⟨ao, cap, rfl, -, hcl⟩ := own_form h1
            refine ⟨ao, cap, rfl, fun t ht => ?_, h2, h3⟩
            obtain ⟨g, e, -, hc⟩ := hcl t (.int .i64 (100 * (k : Int) + (t : Int))) (by rw [List.getElem?_map, rowOf_get k j t ht]; rfl)
            exact ⟨g, e, hc⟩)
          clear hGj
          go_wp2_with (first
            | (go_at_call 12; refine hpf.mono ?_; rintro e w' ⟨rfl, hw⟩; subst w')
            | (go_at_call 14; refine hrm.mono ?_; rintro e w' ⟨rfl, hw⟩; subst w')
            | (go_at_call 15; refine hall.mono ?_; rintro e wd ⟨ao, cap, rfl, hcl, hGd, hKd⟩; have HC := hide hcl; have RR := hide (And.intro hGd (KJ.out.trans hKd (fun x hx hl => by simp at hx; omega))); clear hcl hGd hKd))
          go_loopw [11] (fun i wr => ∃ t : Nat, t ≤ j ∧ i = .int .i64 t ∧ wr = wd) (fun i _ => j - (intOf i).toNat)
          case atStart => exact ⟨0, by omega, rfl, rfl⟩
          case round =>
            obtain ⟨t, ht, rfl, hwr⟩ := hrel
            subst wr
            by_cases htl : t < j
            · have hti : (t : Int) < (j : Int) := by omega
              obtain ⟨g, hao, hct⟩ := HC.out t htl
              subst hao
              have hw3 : IntKind.i64.wrap (100 * (k : Int) + (t : Int)) = 100 * (k : Int) + (t : Int) := wrap_small _ (by omega) (by omega)
              go_wp2
              go_roundw
              case rel => exact ⟨t + 1, by omega, by go_num, trivial⟩
              case measure => simp [intOf]; omega
            · have e : t = j := by omega
              subst e
              go_wp2
              go_roundw
              case rel => exact ⟨k + 1, by omega, by go_num, RR.out⟩
              case measure => simp [intOf]; omega
    · have e : k = R := by omega
      have hln := RI.len_any hG
      rw [show ([] : List Int).length = 0 from rfl] at hln
      have hki : ¬ (k : Int) < (R : Int) := by omega
      subst e
      clear hG
      go_wp2_with (go_at_call 16; refine hln.mono ?_; rintro e w' ⟨rfl, hw⟩; subst w')
      go_ret
      exact ⟨rfl, K.out⟩

theorem own : ownKnob Try.prog.godebug = none := by kernel_rfl
theorem laidOut : laidOutB Try.prog = true := by kernel_rfl

set_option maxRecDepth 100000 in
theorem lifted (os : Os) (started : os.Started) (H : Type) (enc : TypeId × Value → H) :
    ReturnsInHanded {} Try.checked os 4 .any (Rows.ringFullSpec.pre6 enc Try.prog Try.f4 Rows.ringFullRow.domain false) (Rows.ringFullSpec.post enc Try.prog Try.f4 false true false false) := by
  refine returnsInHanded_of_change (C := Try.checked) own started (by kernel_rfl) Try.func4
    (ChangeSpec.witness6 (enc := enc) (C := Try.checked) false ⟨#[], #[.int .i64 0, .int .i64 0], []⟩ 8 (by kernel_rfl) (by kernel_rfl) (by kernel_rfl) (by kernel_rfl)) ?_
  intro W base args ds gs before hval0 hW hcnd _
  have hval : ∀ (j : Nat) t v, Try.f4.params[j]? = some t → args[j]? = some v → Value.okWide Try.prog W .any base t v := hval0
  have hW' := hW
  obtain ⟨p, q, hA0, hV, rfl, hfz, hnd⟩ := hW
  have hA : DataW.TrodAll enc Try.prog W 0 (fun _ => true) true Try.f4.params.toList args.toList ds p := hA0
  have hK := hA
  rw [Try.params4] at hA hval
  obtain ⟨v0, vs0, d0, ds0, p0, q0, hargs, rfl, rfl, h0, r0⟩ := trodAll_cons hA
  obtain ⟨v1, vs1, d1, ds1, p1, q1, rfl, rfl, rfl, h1, r1⟩ := trodAll_cons r0
  obtain ⟨rfl, rfl, rfl⟩ := trodAll_nil r1
  obtain rfl : args = #[v0, v1] := by cases args; simp_all
  obtain ⟨rfl, rfl⟩ := trodVars_none hV
  obtain ⟨size, rfl, rfl, rfl, w0⟩ := open_int Try.underlying3 (hval 0 3 v0 rfl rfl) h0
  obtain ⟨rounds, rfl, rfl, rfl, w1⟩ := open_int Try.underlying3 (hval 1 3 v1 rfl rfl) h1
  clear hA0 hval0
  refine (law_any size rounds _).mono fun e W' ⟨he, hk⟩ => ?_
  subst he
  exact ⟨_, rfl, _, _, _, [], _, [], hW', trodAll_mk1 (shut_bool Try.underlying4 _), trodAll_below laidOut hk.below _ _ _ _ hK (by kernel_rfl), rfl, hk.below.frame _, fun h => by cases h⟩

theorem said : Rows.RingFullSaid :=
  OpenClaim.holds_of_wide 4 Try.f4 rfl rfl rfl rfl rfl rfl rfl ⟨rfl, rfl, rfl, rfl, rfl⟩ rfl rfl rfl rfl rfl (by kernel_rfl) Try.func4 (by kernel_rfl)
    (of_decide_eq_true (by kernel_rfl)) (by unfold Func.isWrapper; first | (rw [if_pos (by decide +kernel)]; kernel_rfl) | (rw [if_neg (by decide +kernel)]; exact ⟨rfl, rfl⟩))
    (fun os started H enc _ => lifted os started H enc)
end Go.Proofs.Ytnokpecdkibddad.LF
