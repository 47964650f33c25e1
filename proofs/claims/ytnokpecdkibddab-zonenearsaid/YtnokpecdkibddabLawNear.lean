/-
  The walk of 'messuagelaw04.ZoneNear', and the given statement of it.
-/
import Derived.Test.YtnokpecdkibddabZnLaw
import Derived.Test.YtnokpecdkibddabZoneRef
import Derived.Test.YtnokpecdkibddabTopoRef
import Derived.Test.YtnokpecdkibddabOpenTopo
import Derived.Test.YtnokpecdkibddabRows
import Derived.BigRegion
import Derived.BigQuiet
namespace Go.Proofs.Ytnokpecdkibddab.LN
open Go.ChangeShapes Go.WideShapes Go.ChangeAt Go.RowKit TP ZN
set_option maxHeartbeats 4000000 in
set_option maxRecDepth 100000 in
theorem law_any {n fr : Int} {cA : Option Addr} {cL cC : Nat} {cz : Nat → Int} {dA : Option Addr} {dL dC : Nat} {L : Nat → Nat} {Z : Nat → Nat → Int} {w : World} (h : At w cA cL cz dA dL L Z) (hc : cL ≤ cC) (hd : dL ≤ dC) (a : Int) {mA : Option Addr} {mL mC : Nat} {mz : Nat → Bool} (hm : IsBools w mA mL mz) (hml : mL ≤ maxLen) :
    Calls Try.prog 4 #[tval n fr cA cL cC dA dL dC, .int .i64 a, .slice mA mL mC] w fun e w' => e = .returned (.bool true) ∧ Kept [] w w' := by
  have hT := tame_any n fr cA cL cC dA dL dC hc hd
  obtain ⟨cl, hcl⟩ : ∃ c, c = min cL 20 := ⟨_, rfl⟩
  obtain ⟨dl, hdl⟩ : ∃ c, c = min dL 10 := ⟨_, rfl⟩
  have hA : At w cA cl cz dA dl L Z := by rw [hcl, hdl]; exact at_min h 20 10
  rw [← hcl, ← hdl] at hT
  have HA := hide hA
  clear h hcl hdl hA
  unfold tval at hT
  unfold tval
  have HM := hide hm
  clear hm
  go_enter Try.func4, Try.ntmps4
  go_wp2_with fail
  refine (hT _).mono ?_
  rintro e w1 ⟨rfl, hK⟩
  have hB := hK.row (row4 w 25 _ _ _ _) (by simp)
  have z0 := hB.cell (i := 0) (by omega)
  have z1 := hB.cell (i := 1) (by omega)
  have z2 := hB.cell (i := 2) (by omega)
  have z3 := hB.cell (i := 3) (by omega)
  have y0 := hB.frozen 0
  have y1 := hB.frozen 1
  have y2 := hB.frozen 2
  have y3 := hB.frozen 3
  obtain ⟨tt, hK2⟩ := put4 hB (.int .i64 n) (.int .i64 fr) (.slice cA cl cC) (.slice dA dl dC)
  have K2 := hide ((((Kept.refl [] w).alloc (.cells #[.int .i64 n, .int .i64 fr, .slice cA cL cC, .slice dA dL dC] 25)).next hK).trans hK2 (fun x hx hl => by simp at hx; omega))
  clear hK hK2 hB hT
  go_wp2_with fail
  generalize (((w1.setCell ⟨w.heap.size, 0, none⟩ (.int .i64 n)).setCell ⟨w.heap.size, 1, none⟩ (.int .i64 fr)).setCell ⟨w.heap.size, 2, none⟩ (.slice cA cl cC)).setCell ⟨w.heap.size, 3, none⟩ (.slice dA dl dC) = w2 at tt K2 ⊢
  clear z0 z1 z2 z3 y0 y1 y2 y3
  obtain ⟨t0, t1, t2, t3⟩ := tt
  have hto := to_any n fr cA cl cC dA dl dC
  unfold tval at hto
  refine (hto _).mono ?_
  rintro e w3 ⟨rfl, hK3⟩
  obtain ⟨t0, t1, t2, t3⟩ := cells4 hK3 (by simp) ⟨t0, t1, t2, t3⟩
  have K3 := hide (K2.out.next hK3)
  clear hK3 K2
  have hchk : ∀ w', Kept [] w w' → Calls Try.prog 12 #[.agg #[.int .i64 n, .int .i64 fr, .slice cA cl cC, .slice dA dl dC]] w' fun e w'' => e = .returned (.int .i64 (tchk n fr cl cz dl L Z)) ∧ Kept [] w' w'' := fun w' hk => TR.check_any n fr cC dC (HA.out.kept hk)
  have HCH := hide hchk
  clear hchk
  by_cases hok : tchk n fr cl cz dl L Z = 0 ∧ 0 ≤ a ∧ a < n
  · obtain ⟨hok, ha0, han⟩ := hok
    have hchk := HCH.out
    rw [hok] at hchk
    obtain ⟨⟨⟨n1, n8⟩, -⟩, -, hdp⟩ := tchk_ok hok
    obtain ⟨N, rfl⟩ := Int.eq_ofNat_of_zero_le (show 0 ≤ n by omega)
    obtain ⟨A, rfl⟩ := Int.eq_ofNat_of_zero_le ha0
    have haN : A < N := by omega
    rw [Int.toNat_natCast] at hdp
    obtain ⟨hdl, hLn, -⟩ := hdp
    subst hdl
    have hnear : ∀ w', Kept [] w w' → Calls Try.prog 10 #[.agg #[.int .i64 dl, .int .i64 fr, .slice cA cl cC, .slice dA dl dC], .int .i64 A, .int .u8 255, .slice mA mL mC] w' fun e w'' => ∃ r : Option Nat, e = .returned (.tuple #[.int .i64 (r.getD 0 : Nat), .bool r.isSome]) ∧
      NearIs (Z A) dl (fun x => ND.hasB 255 x && mayB mL mz x) r ∧ Kept [] w' w'' := fun w' hk => nearest_ok (HA.out.kept hk) hok A haN 255 (by omega) (HM.out.kept hk) hml
    obtain ⟨b, off, AA, C, hdA, hcell, hC1, hC2, hints⟩ := HA.out.rows A haN
    rw [hLn A haN] at hcell hints hC1
    subst hdA
    have n8' : dl ≤ 8 := by omega
    have HI := hide hints
    have HC := hide hcell
    clear hok hLn hints hcell
    go_wp2_with fail
    refine (hnear _ K3.out).mono ?_
    rintro e w4 ⟨r, rfl, hr, hK4⟩
    obtain ⟨t0, t1, t2, t3⟩ := cells4 hK4 (by simp) ⟨t0, t1, t2, t3⟩
    have K4 := hide (K3.out.next hK4)
    have HR := hide hr
    clear hK4 hnear K3 hr hto
    obtain ⟨y, hy⟩ : ∃ y, y = r.getD 0 := ⟨_, rfl⟩
    obtain ⟨ok, hk⟩ : ∃ b, b = r.isSome := ⟨_, rfl⟩
    rw [← hy, ← hk]
    have HY := hide hy
    have HOK := hide hk
    clear hy hk
    go_wp2_with fail
    refine (zones_true _).mono ?_
    rintro e w5 ⟨rfl, hK5⟩
    obtain ⟨t0, t1, t2, t3⟩ := cells4 hK5 (by simp) ⟨t0, t1, t2, t3⟩
    have K5 := hide (K4.out.next hK5)
    clear hK5 K4
    have g1 : decide ((A : Int) < 0) = false := decide_eq_false (by omega)
    have g2 : decide (dl ≤ A) = false := decide_eq_false (by omega)
    have hA0 : (0 : Int) ≤ (A : Int) := by omega
    have hAi : (A : Int) < (dl : Int) := by omega
    go_wp2_with fail
    refine (hchk _ K5.out).mono ?_
    rintro e w6 ⟨rfl, hK6⟩
    obtain ⟨t0, t1, t2, t3⟩ := cells4 hK6 (by simp) ⟨t0, t1, t2, t3⟩
    have K6 := hide (K5.out.next hK6)
    clear hK6 K5 hchk HCH
    go_wp2
    try simp only [g1, g2, Bool.or_false, Bool.false_or]
    go_loopw [9] (fun i wr => ∃ k : Nat, k ≤ dl ∧ i = .int .i64 k ∧ Kept [] w6 wr) (fun i _ => dl - (intOf i).toNat)
    case atStart => exact ⟨0, by omega, rfl, Kept.refl _ _⟩
    case round =>
      obtain ⟨k, hk, rfl, hKk⟩ := hrel
      obtain ⟨t0', t1', t2', t3'⟩ := cells4 hKk (by simp) ⟨t0, t1, t2, t3⟩
      have HK := hide hKk
      have hKw := K6.out.next hKk
      have KW := hide hKw
      clear t0 t1 t2 t3 hKk
      by_cases hkl : k < dl
      · have hki : (k : Int) < (dl : Int) := by omega
        by_cases hkm : k < mL
        · have hkmi : (k : Int) < (mL : Int) := by omega
          obtain ⟨mb, mo, hmA, hmc⟩ := (HM.out.kept hKw) k hkm
          subst hmA
          cases hmz : mz k with
          | false =>
            rw [hmz] at hmc
            clear hKw
            go_wp2_with fail
            go_quiet (fail)
            go_wp2
            go_roundw
            case rel => exact ⟨k + 1, by omega, by go_num, HK.out.drewN nq⟩
            case measure => simp [intOf]; omega
          | true =>
            rw [hmz] at hmc
            have hp : (ND.hasB 255 k && mayB mL mz k) = true := by unfold mayB; rw [hasB_all (by omega), hmz, decide_eq_true hkm]; rfl
            cases r with
            | none =>
              have := HR.out.none rfl k hkl
              rw [hp] at this
              cases this
            | some y' =>
              have e1 : ok = true := HOK.out
              have e2 : y = y' := HY.out
              subst e1 e2
              obtain ⟨hyl, -, hmin⟩ := HR.out.some y rfl
              have hmn := hmin k hkl hp
              obtain ⟨bd, od, hAA, ck, -⟩ := (IsInts.kept HI.out hKw) k hkl
              subst hAA
              obtain ⟨bd', od', hAA', cy, -⟩ := (IsInts.kept HI.out hKw) y hyl
              obtain ⟨rfl, rfl⟩ : bd = bd' ∧ od = od' := by simpa using hAA'
              have hC' := hKw.cell HC.out (by simp)
              obtain ⟨zk, hzk⟩ : ∃ z, z = Z A k := ⟨_, rfl⟩
              obtain ⟨zy, hzy⟩ : ∃ z, z = Z A y := ⟨_, rfl⟩
              unfold nearer at hmn
              rw [← hzk] at ck
              rw [← hzy] at cy
              have hnl : ¬ zk < zy := by
                rcases hmn with e | e
                · subst e; omega
                · rw [← hzk, ← hzy] at e; omega
              have dlt : decide (zk < zy) = false := decide_eq_false hnl
              have hyi : (y : Int) < (dl : Int) := by omega
              by_cases hde : zk = zy
              · have hky : ¬ k < y := by
                  rcases hmn with e | e
                  · subst e; omega
                  · rw [← hzk, ← hzy] at e; omega
                have dky : decide (k < y) = false := decide_eq_false hky
                clear hmn hzk hzy hnl hKw hmin hky hp hAA' dlt
                subst hde
                go_wp2_with fail
                go_quiet (fail)
                go_wp2
                go_roundw
                case rel => exact ⟨k + 1, by omega, by go_num, HK.out.drewN nq⟩
                case measure => simp [intOf]; omega
              · have hde' : (zk == zy) = false := by simpa using hde
                clear hmn hzk hzy hnl hKw hmin hp hAA' hde
                go_wp2_with fail
                go_quiet (fail)
                go_wp2
                go_roundw
                case rel => exact ⟨k + 1, by omega, by go_num, HK.out.drewN nq⟩
                case measure => simp [intOf]; omega
        · have hkmi : decide (k < mL) = false := decide_eq_false hkm
          have hkmi2 : ¬ (k : Int) < (mL : Int) := by omega
          clear hKw
          go_wp2_with fail
          go_quiet (fail)
          go_wp2
          go_roundw
          case rel => exact ⟨k + 1, by omega, by go_num, HK.out.drewN nq⟩
          case measure => simp [intOf]; omega
      · have e : k = dl := by omega
        cases r with
        | none =>
          have e1 : ok = false := HOK.out
          subst e e1
          clear hKw
          go_wp2
          go_ret
          exact ⟨rfl, KW.out⟩
        | some y' =>
          have e1 : ok = true := HOK.out
          have e2 : y = y' := HY.out
          subst e e1 e2
          obtain ⟨hyl, hp, -⟩ := HR.out.some y rfl
          simp only [Bool.and_eq_true] at hp
          obtain ⟨-, hp⟩ := hp
          unfold mayB at hp
          simp only [Bool.and_eq_true, decide_eq_true_eq] at hp
          obtain ⟨hym, hmy⟩ := hp
          obtain ⟨mb, mo, hmA, hmc⟩ := (HM.out.kept hKw) y hym
          subst hmA
          rw [hmy] at hmc
          have hymi : (y : Int) < (mL : Int) := by omega
          clear hKw hmy
          go_wp2
          go_ret
          exact ⟨rfl, KW.out⟩
  · have hord : ∃ c, c ≠ 0 ∧ ∀ w', Kept [] w w' → Calls Try.prog 7 #[tval n fr cA cl cC dA dl dC, .int .i64 a] w' fun e w'' => e = .returned (.tuple #[.slice none 0 0, .int .i64 c]) ∧ Kept [] w' w'' := by
      by_cases h1 : tchk n fr cl cz dl L Z = 0
      · exact ⟨10, by omega, fun w' hk => order_node (HA.out.kept hk) h1 a (fun h => hok ⟨h1, h⟩)⟩
      · exact ⟨_, h1, fun w' hk => order_bad (HA.out.kept hk) h1 a⟩
    obtain ⟨c, hc, hord⟩ := hord
    have hnr := fun w' (hk : Kept [] w w') => nearest_bad (w := w') hc a 255 mA mL mC (fun w'' hk' => hord w'' (hk.next hk'))
    unfold tval at hnr
    clear hord
    go_wp2_with fail
    refine (hnr _ K3.out).mono ?_
    rintro e w4 ⟨rfl, hK4⟩
    obtain ⟨t0, t1, t2, t3⟩ := cells4 hK4 (by simp) ⟨t0, t1, t2, t3⟩
    have K4 := hide (K3.out.next hK4)
    clear hK4 hnr K3 hto
    go_wp2_with fail
    refine (zones_true _).mono ?_
    rintro e w5 ⟨rfl, hK5⟩
    obtain ⟨t0, t1, t2, t3⟩ := cells4 hK5 (by simp) ⟨t0, t1, t2, t3⟩
    have K5 := hide (K4.out.next hK5)
    clear hK5 K4
    have hG : (tchk n fr cl cz dl L Z != 0) = true ∨ (tchk n fr cl cz dl L Z = 0 ∧ a < 0) ∨ (tchk n fr cl cz dl L Z = 0 ∧ 0 ≤ a ∧ n ≤ a) := by
      by_cases h1 : tchk n fr cl cz dl L Z = 0
      · right
        by_cases h2 : a < 0
        · exact .inl ⟨h1, h2⟩
        · exact .inr ⟨h1, by omega, by omega⟩
      · left; simpa using h1
    have hchk := HCH.out _ K5.out
    clear hok HA HCH hc
    rcases hG with h1 | ⟨h1, h2⟩ | ⟨h1, h2, h3⟩
    · generalize tchk n fr cl cz dl L Z = q at *
      go_wp2_with fail
      refine hchk.mono ?_
      rintro e w6 ⟨rfl, hK6⟩
      have K6 := hide (K5.out.next hK6)
      clear hK6 K5 hchk
      go_wp2_with fail
      refine (zones_true _).mono ?_
      rintro e w7 ⟨rfl, hK7⟩
      have K7 := hide (K6.out.next hK7)
      clear hK7 K6
      go_wp2
      go_ret
      exact ⟨rfl, K7.out⟩
    · rw [h1] at hchk
      clear h1
      go_wp2_with fail
      refine hchk.mono ?_
      rintro e w6 ⟨rfl, hK6⟩
      have K6 := hide (K5.out.next hK6)
      obtain ⟨t0, t1, t2, t3⟩ := cells4 hK6 (by simp) ⟨t0, t1, t2, t3⟩
      clear hK6 K5 hchk
      go_wp2_with fail
      refine (zones_true _).mono ?_
      rintro e w7 ⟨rfl, hK7⟩
      have K7 := hide (K6.out.next hK7)
      clear hK7 K6
      go_wp2
      go_ret
      exact ⟨rfl, K7.out⟩
    · rw [h1] at hchk
      clear h1
      go_wp2_with fail
      refine hchk.mono ?_
      rintro e w6 ⟨rfl, hK6⟩
      have K6 := hide (K5.out.next hK6)
      obtain ⟨t0, t1, t2, t3⟩ := cells4 hK6 (by simp) ⟨t0, t1, t2, t3⟩
      clear hK6 K5 hchk
      go_wp2_with fail
      refine (zones_true _).mono ?_
      rintro e w7 ⟨rfl, hK7⟩
      have K7 := hide (K6.out.next hK7)
      clear hK7 K6
      go_wp2
      go_ret
      exact ⟨rfl, K7.out⟩

theorem own : ownKnob Try.prog.godebug = none := by kernel_rfl
theorem laidOut : laidOutB Try.prog = true := by kernel_rfl

set_option maxRecDepth 100000 in
theorem lifted (os : Os) (started : os.Started) (H : Type) (enc : TypeId × Value → H) :
    ReturnsInHanded {} Try.checked os 4 .any (Rows.zoneNearSpec.pre6 enc Try.prog Try.f4 Rows.zoneNearRow.domain false) (Rows.zoneNearSpec.post enc Try.prog Try.f4 false true false false) := by
  refine returnsInHanded_of_change (C := Try.checked) own started (by kernel_rfl) Try.func4
    (ChangeSpec.witness6 (enc := enc) (C := Try.checked) false ⟨#[], #[.agg #[.int .i64 0, .int .i64 0, .slice none 0 0, .slice none 0 0], .int .i64 0, .slice none 0 0], []⟩ 8 (by kernel_rfl) (by kernel_rfl) (by kernel_rfl) (by kernel_rfl)) ?_
  intro W base args ds gs before hval0 hW hcnd _
  have hval : ∀ (j : Nat) t v, Try.f4.params[j]? = some t → args[j]? = some v → Value.okWide Try.prog W .any base t v := hval0
  have hW' := hW
  obtain ⟨p, q, hA0, hV, rfl, hfz, hnd⟩ := hW
  have hA : DataW.TrodAll enc Try.prog W 0 (fun _ => true) true Try.f4.params.toList args.toList ds p := hA0
  have hK := hA
  rw [Try.params4] at hA hval
  obtain ⟨v0, vs0, d0, ds0, p0, q0, hargs, rfl, rfl, h0, r0⟩ := trodAll_cons hA
  obtain ⟨v1, vs1, d1, ds1, p1, q1, rfl, rfl, rfl, h1, r1⟩ := trodAll_cons r0
  obtain ⟨v2, vs2, d2, ds2, p2, q2, rfl, rfl, rfl, h2, r2⟩ := trodAll_cons r1
  obtain ⟨rfl, rfl, rfl⟩ := trodAll_nil r2
  obtain rfl : args = #[v0, v1, v2] := by cases args; simp_all
  obtain ⟨rfl, rfl⟩ := trodVars_none hV
  obtain ⟨n, fr, cA, cL, cC, cz, dA, dL, dC, L, Z, rfl, hc, hd, wn, wfr, hAt⟩ := open_topo (e2 := 3) (e3 := 22) (q3 := 3) Try.underlying25 (by kernel_rfl) rfl rfl rfl rfl (by kernel_rfl) (by kernel_rfl) (by kernel_rfl) (by kernel_rfl) (by kernel_rfl) (by kernel_rfl) (by kernel_rfl) (by kernel_rfl) (by kernel_rfl) (by kernel_rfl) (by kernel_rfl) (by kernel_rfl) (by kernel_rfl) (by kernel_rfl) h0
  obtain ⟨a, rfl, rfl, rfl, w1⟩ := open_int Try.underlying3 (hval 1 3 v1 rfl rfl) h1
  obtain ⟨mA, mL, mC, mz, rfl, hm1, hm2, hm3, hMb⟩ := open_bools Try.underlying26 (by kernel_rfl) (by kernel_rfl) (okWide_slice Try.underlying26 (hval 2 26 v2 rfl rfl)) h2
  clear hA0 hval0
  refine (law_any hAt hc hd a hMb (by omega)).mono fun e W' ⟨he, hk⟩ => ?_
  subst he
  exact ⟨_, rfl, _, _, _, [], _, [], hW', trodAll_mk1 (shut_bool Try.underlying4 _), trodAll_below laidOut hk.below _ _ _ _ hK (by kernel_rfl), rfl, hk.below.frame _, fun h => by cases h⟩

theorem said : Rows.ZoneNearSaid :=
  OpenClaim.holds_of_wide 4 Try.f4 rfl rfl rfl rfl rfl rfl rfl ⟨rfl, rfl, rfl, rfl, rfl⟩ rfl rfl rfl rfl rfl (by kernel_rfl) Try.func4 (by kernel_rfl)
    (of_decide_eq_true (by kernel_rfl)) (by unfold Func.isWrapper; first | (rw [if_pos (by decide +kernel)]; kernel_rfl) | (rw [if_neg (by decide +kernel)]; exact ⟨rfl, rfl⟩))
    (fun os started H enc _ => lifted os started H enc)
end Go.Proofs.Ytnokpecdkibddab.LN
