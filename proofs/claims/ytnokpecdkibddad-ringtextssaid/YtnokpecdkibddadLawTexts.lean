/-
  The walk of 'messuagelaw14.RingTexts', and the given statement of it.
-/
import Derived.Test.YtnokpecdkibddadRngLaw
import Derived.Test.YtnokpecdkibddadStrs
import Derived.Test.YtnokpecdkibddadRows
import Derived.BigQuiet
namespace Go.Proofs.Ytnokpecdkibddad.LX
open Go.ChangeShapes Go.WideShapes Go.ChangeAt Go.RowKit 
/-- The texts from a on, ahead of i. -/
def seg (z : Nat → ByteArray) (a i : Nat) : List ByteArray := (List.range (i - a)).map (fun t => z (a + t))
theorem seg_len (z : Nat → ByteArray) (a i : Nat) : (seg z a i).length = i - a := by unfold seg; simp
theorem seg_nil (z : Nat → ByteArray) (a : Nat) : seg z a a = [] := by unfold seg; simp
theorem seg_more (z : Nat → ByteArray) {a i : Nat} (h : a ≤ i) : seg z a i ++ [z i] = seg z a (i + 1) := by
  unfold seg
  rw [show i + 1 - a = (i - a) + 1 by omega, List.range_succ, List.map_append]
  simp
  congr 1
  omega
theorem seg_cons (z : Nat → ByteArray) {a i : Nat} (h : a < i) : seg z a i = z a :: seg z (a + 1) i := by
  unfold seg
  rw [show i - a = (i - (a + 1)) + 1 by omega, List.range_succ_eq_map, List.map_cons, List.map_map]
  simp
  intro t _
  congr 1
  omega
theorem seg_get (z : Nat → ByteArray) {a i t : Nat} (h : t < i - a) : (seg z a i)[t]? = some (z (a + t)) := by unfold seg; simp [h]
set_option maxHeartbeats 4000000 in
set_option maxRecDepth 100000 in
theorem law_any (size : Int) (w : World) {tA : Option Addr} {tL tC : Nat} {z : Nat → ByteArray} (ht : IsStrs w tA tL z) (hl : tL ≤ tC) (hc : tC ≤ maxLen) : Calls Try.prog 3 #[.slice tA tL tC, .int .i64 size] w fun e w' => e = .returned (.bool true) ∧ Kept [] w w' := by
  obtain ⟨q, hq, hqe⟩ := mod_small size 8 (by omega) (by omega)
  obtain ⟨n, hn⟩ : ∃ n, n = q + 1 := ⟨_, rfl⟩
  have hwn : IntKind.i64.wrap (1 + (q : Int)) = (n : Int) := by rw [wrap_small _ (by omega) (by omega)]; omega
  have hn1 : 1 ≤ n := by omega
  have hn8 : n ≤ 8 := by omega
  obtain ⟨h, hh⟩ : ∃ h, h = (n + 1) / 2 := ⟨_, rfl⟩
  have hh1 : 1 ≤ h := by omega
  have hh2 : h ≤ n := by omega
  have hw1 : IntKind.i64.wrap ((n : Int) + 1) = (n : Int) + 1 := wrap_small _ (by omega) (by omega)
  have hw2 : ((n : Int) + 1).tdiv 2 = (h : Int) := by rw [Int.tdiv_eq_ediv_of_nonneg (by omega)]; omega
  have hw3 : IntKind.i64.wrap (h : Int) = (h : Int) := wrap_small _ (by omega) (by omega)
  obtain ⟨N, hN⟩ : ∃ N, N = min tL 60 := ⟨_, rfl⟩
  have hNL : N ≤ tL := by omega
  have hN60 : N ≤ 60 := by omega
  have HN := hide (show (min (tL : Int) 60) = (N : Int) from by omega)
  have HNE := hide (show ∀ i, i < tL → i < 60 → i < N from fun i h1 h2 => by omega)
  have HNT := hide (show N < tL → N = 60 from fun h1 => by omega)
  unfold maxLen at hc
  have htL : (tL : Int) ≤ 9223372036854775807 := by omega
  have HT := hide ht
  have hnew := RS.new_ok n hn1 (by omega) w
  have HQ := hide (And.intro hq (And.intro hn (And.intro hh (And.intro hN hc))))
  clear hq hn hh hN ht hc
  go_enter Try.func3, Try.ntmps3
  go_wp2_with fail
  refine hnew.mono ?_
  rintro e w1 ⟨v, rfl, r, c, rfl, hRG, hr, hc, hK⟩
  have K1 := hide hK
  have HR1 := hide hRG
  clear hnew hRG hK
  go_wp2_with (go_at_call 6; refine (RL.rings_true _).mono ?_; rintro e w2 ⟨rfl, hK2⟩; have HR0 := hide (HR1.out.kept hK2 (by simp) (by simp)); have K2 := hide (K1.out.next hK2); clear hK2)
  go_loopw [7, 8] (fun x i wr => ∃ a j : Nat, a ≤ j ∧ j ≤ N ∧ j - a ≤ n ∧ x = .int .i64 a ∧ i = .int .i64 j ∧ RS.RG wr r c n (seg z a j) ∧ Kept [] w wr) (fun _ i _ => N - (intOf i).toNat)
  case atStart => exact ⟨0, 0, by omega, by omega, by omega, rfl, rfl, by rw [seg_nil]; exact HR0.out, K2.out⟩
  case round =>
    obtain ⟨a, j, haj, hjN, hjn, rfl, rfl, hG, hKk⟩ := hrel
    have K := hide hKk
    have hsl := seg_len z a j
    clear HR0 K2 HR1 K1
    by_cases hjl : j < N
    · have hjt : (j : Int) < (tL : Int) := by omega
      have hj60 : (j : Int) < 60 := by omega
      obtain ⟨tb, to_, htA, htc⟩ := (HT.out.kept hKk) j (by omega)
      subst htA
      by_cases hroom : j - a < n
      · have hp := RS.put_room hG (by omega) (z j)
        rw [seg_more z haj] at hp
        clear hG hKk hsl
        generalize hzj : z j = s at htc hp
        go_wp2_with (go_at_call 7; refine hp.mono ?_; rintro e w3 ⟨rfl, hG3, hK3⟩; have RR := hide (And.intro hG3 (K.out.trans hK3 (fun x hx hl => by simp at hx; omega))); clear hG3 hK3 hp)
        go_roundw
        case rel => exact ⟨a, j + 1, by omega, by omega, by omega, rfl, by go_num, RR.out⟩
        case measure => simp [intOf]; omega
      · have hp := RS.put_full hG (by omega) (z j)
        have HG := hide hG
        have hja : j - a = n := by omega
        clear hG hKk hsl hroom hjn
        obtain ⟨s, hs⟩ : ∃ s, s = z j := ⟨_, rfl⟩
        rw [← hs] at htc hp
        have HS := hide hs
        clear hs
        go_wp2_with (go_at_call 7; refine hp.mono ?_; rintro e w' ⟨rfl, hw⟩; subst w'; clear hp)
        go_loopw [7, 9] (fun x k wr => ∃ A m : Nat, m ≤ h ∧ A = a + m ∧ x = .int .i64 A ∧ k = .int .i64 m ∧ RS.RG wr r c n (seg z A j) ∧ Kept [] w wr) (fun _ k _ => h - (intOf k).toNat)
        case atStart => exact ⟨a, 0, by omega, by omega, rfl, rfl, HG.out, K.out⟩
        case round =>
          obtain ⟨A, m, hm, hA, rfl, rfl, hG, hKk⟩ := hrel
          have K := hide hKk
          by_cases hmh : m < h
          · have hmi : (m : Int) < (h : Int) := by omega
            have hAj : A < j := by omega
            have hAt : (A : Int) < (tL : Int) := by omega
            rw [seg_cons z hAj] at hG
            have hta : ∀ W, Kept [] w W → W.cell? ⟨tb, to_ + A, none⟩ = some (.string (z A)) := by
              intro W hk
              obtain ⟨tb', to', htA, htcA⟩ := (HT.out.kept hk) A (by omega)
              obtain ⟨rfl, rfl⟩ : tb = tb' ∧ to_ = to' := by simpa using htA
              exact htcA
            have htk := RS.take_some hG
            have HA := hide hA
            clear hG hKk hA
            have hA0 : (0 : Int) ≤ (A : Int) := by omega
            generalize z A = sA at htk hta
            have HTA := hide hta
            clear hta
            go_wp2_with (go_at_call 8; refine htk.mono ?_; rintro e w3 ⟨rfl, hG3, hK3⟩; have hKw := K.out.trans (M := [c]) hK3 (fun x hx hl => by simp at hx; omega); have htcA := HTA.out _ hKw; have RR := hide (And.intro hG3 hKw); clear hKw; clear hG3 hK3 htk)
            go_roundw
            case rel => exact ⟨A + 1, m + 1, by omega, by have := HA.out; omega, by go_num, by go_num, RR.out⟩
            case measure => simp [intOf]; omega
          · have e : m = h := by omega
            have hmi : ¬ (m : Int) < (h : Int) := by omega
            have hAj : A ≤ j := by omega
            have hlen := seg_len z A j
            have hp := RS.put_room hG (by omega) (z j)
            rw [seg_more z hAj] at hp
            have htc2 := (show wr.cell? ⟨tb, to_ + j, none⟩ = some (.string (z j)) from by
              obtain ⟨tb', to', htA, hx⟩ := (HT.out.kept hKk) j (by omega)
              obtain ⟨rfl, rfl⟩ : tb = tb' ∧ to_ = to' := by simpa using htA
              exact hx)
            have HA := hide (show j + 1 - A ≤ n from by omega)
            clear hG hKk hlen hA e
            generalize z j = sj at htc2 hp
            go_wp2_with (go_at_call 7; refine hp.mono ?_; rintro e w3 ⟨rfl, hG3, hK3⟩; have RR := hide (And.intro hG3 (K.out.trans hK3 (fun x hx hl => by simp at hx; omega))); clear hG3 hK3 hp)
            go_roundw
            case rel => exact ⟨A, j + 1, by omega, by omega, HA.out, rfl, by go_num, RR.out⟩
            case measure => simp [intOf]; omega
    · have e : j = N := by omega
      subst e
      have hall : Calls Try.prog 9 #[.pointer (some ⟨r, 0, none⟩)] wr fun e w' => ∃ ao cap, e = .returned (.slice ao (j - a) cap) ∧ (∀ t : Nat, t < j - a → ∃ g, ao = some ⟨g, 0, none⟩ ∧ w'.cell? ⟨g, t, none⟩ = some (.string (z (a + t)))) ∧ RS.RG w' r c n [] ∧ Kept [c] wr w' := (RS.all_any hG (by omega)).mono (by
        rintro e w' ⟨v, rfl, h1, h2, h3⟩
        unfold RS.Got at h1
        rw [seg_len] at h1
        obtain ⟨ao, cap, rfl, -, hcl⟩ := own_form h1
        refine ⟨ao, cap, rfl, fun t ht => ?_, h2, h3⟩
        obtain ⟨g, e, -, hc⟩ := hcl t (.string (z (a + t))) (by rw [List.getElem?_map, seg_get z ht]; rfl)
        exact ⟨g, e, hc⟩)
      obtain ⟨d, hd⟩ : ∃ d, d = j - a := ⟨_, rfl⟩
      rw [← hd] at hall
      have hdj : a + d = j := by omega
      have HD := hide hdj
      have hd60 : d ≤ 60 := by omega
      clear hG hKk hsl hd hdj hjn
      have hmin : min (tL : Int) 60 = (j : Int) := HN.out
      have hwj : IntKind.i64.wrap ((a : Int) + (d : Int)) = (j : Int) := by have := HD.out; rw [wrap_small _ (by omega) (by omega)]; omega
      by_cases hjt : j < tL
      · have h60 : j = 60 := HNT.out hjt
        have hj60 : ¬ (j : Int) < 60 := by omega
        have hjti : (j : Int) < (tL : Int) := by omega
        go_wp2_with (go_at_call 9; refine hall.mono ?_; rintro e w4 ⟨ao, cap, rfl, hcl, hG4, hK4⟩; have HC := hide hcl; have HG4 := hide hG4; have K4 := hide (K.out.trans hK4 (fun x hx hl => by simp at hx; omega)); clear hcl hG4 hK4 hall)
        go_loopw [13] (fun i wr => ∃ t : Nat, t ≤ d ∧ i = .int .i64 t ∧ Kept [] w4 wr) (fun i _ => d - (intOf i).toNat)
        case atStart => exact ⟨0, by omega, rfl, Kept.refl _ _⟩
        case round =>
          obtain ⟨t, ht, rfl, hwr⟩ := hrel
          have HW := hide hwr
          by_cases htd : t < d
          · have htdi : (t : Int) < (d : Int) := by omega
            have hKr : Kept [] w wr := K4.out.next hwr
            have HTD := hide htd
            have hat : a + t < tL := by have := HD.out; omega
            obtain ⟨tb, to_, htA, htc⟩ := (HT.out.kept hKr) (a + t) hat
            subst htA
            obtain ⟨g, hao, hcg⟩ := HC.out t htd
            subst hao
            have hcg2 : wr.cell? ⟨g, t, none⟩ = some (.string (z (a + t))) := hwr.cell hcg (by simp)
            have hs1 : IntKind.i64.wrap ((a : Int) + (t : Int)) = ((a + t : Nat) : Int) := by rw [wrap_small _ (by omega) (by omega)]; omega
            obtain ⟨y, hy⟩ : ∃ y, y = a + t := ⟨_, rfl⟩
            rw [← hy] at hs1 hat htc hcg2
            have g1 : decide (tL ≤ y) = false := decide_eq_false (by omega)
            have g2 : decide ((tL : Int) ≤ (y : Int)) = false := decide_eq_false (by omega)
            have g3 : (y : Int) < (tL : Int) := by omega
            have g4 : (0 : Int) ≤ (y : Int) := by omega
            have HY := hide hy
            generalize z y = sy at htc hcg2
            clear hcg hwr hy hKr hat
            go_wp2_with fail
            go_quiet (fail)
            go_wp2
            go_roundw
            case rel => exact ⟨t + 1, HTD.out, by go_num, HW.out.drewN nq⟩
            case measure =>
              have := HTD.out
              simp [intOf]; omega
          · have e : t = d := by omega
            have htdi : ¬ (t : Int) < (d : Int) := by omega
            have hG4 : RS.RG wr r c n [] := HG4.out.kept hwr (by simp) (by simp)
            have hln := RS.len_any hG4
            rw [show ([] : List ByteArray).length = 0 from rfl] at hln
            have hKr := hide (K4.out.next hwr)
            clear hG4 hwr HW
            subst e
            go_wp2_with (go_at_call 10; refine hln.mono ?_; rintro e w' ⟨rfl, hw⟩; subst w')
            go_ret
            exact ⟨rfl, hKr.out⟩
      · have hjti : ¬ (j : Int) < (tL : Int) := by omega
        go_wp2_with (go_at_call 9; refine hall.mono ?_; rintro e w4 ⟨ao, cap, rfl, hcl, hG4, hK4⟩; have HC := hide hcl; have HG4 := hide hG4; have K4 := hide (K.out.trans hK4 (fun x hx hl => by simp at hx; omega)); clear hcl hG4 hK4 hall)
        go_loopw [13] (fun i wr => ∃ t : Nat, t ≤ d ∧ i = .int .i64 t ∧ Kept [] w4 wr) (fun i _ => d - (intOf i).toNat)
        case atStart => exact ⟨0, by omega, rfl, Kept.refl _ _⟩
        case round =>
          obtain ⟨t, ht, rfl, hwr⟩ := hrel
          have HW := hide hwr
          by_cases htd : t < d
          · have htdi : (t : Int) < (d : Int) := by omega
            have hKr : Kept [] w wr := K4.out.next hwr
            have HTD := hide htd
            have hat : a + t < tL := by have := HD.out; omega
            obtain ⟨tb, to_, htA, htc⟩ := (HT.out.kept hKr) (a + t) hat
            subst htA
            obtain ⟨g, hao, hcg⟩ := HC.out t htd
            subst hao
            have hcg2 : wr.cell? ⟨g, t, none⟩ = some (.string (z (a + t))) := hwr.cell hcg (by simp)
            have hs1 : IntKind.i64.wrap ((a : Int) + (t : Int)) = ((a + t : Nat) : Int) := by rw [wrap_small _ (by omega) (by omega)]; omega
            obtain ⟨y, hy⟩ : ∃ y, y = a + t := ⟨_, rfl⟩
            rw [← hy] at hs1 hat htc hcg2
            have g1 : decide (tL ≤ y) = false := decide_eq_false (by omega)
            have g2 : decide ((tL : Int) ≤ (y : Int)) = false := decide_eq_false (by omega)
            have g3 : (y : Int) < (tL : Int) := by omega
            have g4 : (0 : Int) ≤ (y : Int) := by omega
            have HY := hide hy
            generalize z y = sy at htc hcg2
            clear hcg hwr hy hKr hat
            go_wp2_with fail
            go_quiet (fail)
            go_wp2
            go_roundw
            case rel => exact ⟨t + 1, HTD.out, by go_num, HW.out.drewN nq⟩
            case measure =>
              have := HTD.out
              simp [intOf]; omega
          · have e : t = d := by omega
            have htdi : ¬ (t : Int) < (d : Int) := by omega
            have hG4 : RS.RG wr r c n [] := HG4.out.kept hwr (by simp) (by simp)
            have hln := RS.len_any hG4
            rw [show ([] : List ByteArray).length = 0 from rfl] at hln
            have hKr := hide (K4.out.next hwr)
            clear hG4 hwr HW
            subst e
            go_wp2_with (go_at_call 10; refine hln.mono ?_; rintro e w' ⟨rfl, hw⟩; subst w')
            go_ret
            exact ⟨rfl, hKr.out⟩

theorem own : ownKnob Try.prog.godebug = none := by kernel_rfl
theorem laidOut : laidOutB Try.prog = true := by kernel_rfl

set_option maxRecDepth 100000 in
theorem lifted (os : Os) (started : os.Started) (H : Type) (enc : TypeId × Value → H) :
    ReturnsInHanded {} Try.checked os 3 .any (Rows.ringTextsSpec.pre6 enc Try.prog Try.f3 Rows.ringTextsRow.domain false) (Rows.ringTextsSpec.post enc Try.prog Try.f3 false true false false) := by
  refine returnsInHanded_of_change (C := Try.checked) own started (by kernel_rfl) Try.func3
    (ChangeSpec.witness6 (enc := enc) (C := Try.checked) false ⟨#[], #[.slice none 0 0, .int .i64 0], []⟩ 8 (by kernel_rfl) (by kernel_rfl) (by kernel_rfl) (by kernel_rfl)) ?_
  intro W base args ds gs before hval0 hW hcnd _
  have hval : ∀ (j : Nat) t v, Try.f3.params[j]? = some t → args[j]? = some v → Value.okWide Try.prog W .any base t v := hval0
  have hW' := hW
  obtain ⟨p, q, hA0, hV, rfl, hfz, hnd⟩ := hW
  have hA : DataW.TrodAll enc Try.prog W 0 (fun _ => true) true Try.f3.params.toList args.toList ds p := hA0
  have hK := hA
  rw [Try.params3] at hA hval
  obtain ⟨v0, vs0, d0, ds0, p0, q0, hargs, rfl, rfl, h0, r0⟩ := trodAll_cons hA
  obtain ⟨v1, vs1, d1, ds1, p1, q1, rfl, rfl, rfl, h1, r1⟩ := trodAll_cons r0
  obtain ⟨rfl, rfl, rfl⟩ := trodAll_nil r1
  obtain rfl : args = #[v0, v1] := by cases args; simp_all
  obtain ⟨rfl, rfl⟩ := trodVars_none hV
  obtain ⟨a0, len0, cap0, z0, rfl, hl0, hm0, hT0⟩ := open_strs Try.underlying22 (by kernel_rfl) (by kernel_rfl) (okWide_slice Try.underlying22 (hval 0 22 v0 rfl rfl)) h0
  obtain ⟨size, rfl, rfl, rfl, w1⟩ := open_int Try.underlying3 (hval 1 3 v1 rfl rfl) h1
  clear hA0 hval0
  refine (law_any size _ hT0 hl0 hm0).mono fun e W' ⟨he, hk⟩ => ?_
  subst he
  exact ⟨_, rfl, _, _, _, [], _, [], hW', trodAll_mk1 (shut_bool Try.underlying4 _), trodAll_below laidOut hk.below _ _ _ _ hK (by kernel_rfl), rfl, hk.below.frame _, fun h => by cases h⟩

theorem said : Rows.RingTextsSaid :=
  OpenClaim.holds_of_wide 3 Try.f3 rfl rfl rfl rfl rfl rfl rfl ⟨rfl, rfl, rfl, rfl, rfl⟩ rfl rfl rfl rfl rfl (by kernel_rfl) Try.func3 (by kernel_rfl)
    (of_decide_eq_true (by kernel_rfl)) (by unfold Func.isWrapper; first | (rw [if_pos (by decide +kernel)]; kernel_rfl) | (rw [if_neg (by decide +kernel)]; exact ⟨rfl, rfl⟩))
    (fun os started H enc _ => lifted os started H enc)
end Go.Proofs.Ytnokpecdkibddad.LX
