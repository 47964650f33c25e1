
/-
  No statement of the program: the document's answer of layer 3 (messuageref03: Check), over this seat's translation: it is the program's.
-/
import Derived.Test.YtnokpecdkibddacTopo2
import Derived.Deep.RegionHeld3
import Derived.BigRegion
namespace Go.Proofs.Ytnokpecdkibddac.TR
open Go.RowKit TP

def pows (fr : Int) (k : Nat) : Bool := (List.range k).any (fun i => fr == 2 ^ i)
theorem pows_succ (fr : Int) (k : Nat) : pows fr (k + 1) = (pows fr k || (fr == 2 ^ k)) := by
  unfold pows; rw [List.range_succ, List.any_append]; simp
theorem pows_in : ∀ j : Fin 1025, pows (j.val : Int) 11 = powB (j.val : Int) := by decide +kernel
theorem pows_all (fr : Int) : pows fr 11 = powB fr := by
  by_cases h : 0 ≤ fr ∧ fr ≤ 1024
  · obtain ⟨j, rfl⟩ := Int.eq_ofNat_of_zero_le h.1
    exact pows_in ⟨j, by omega⟩
  · have h1 : powB fr = false := by
      unfold powB
      rw [decide_eq_false (by omega)]; rfl
    rw [h1]
    unfold pows
    rw [List.any_eq_false]
    intro i hi he
    have hi : i < 11 := List.mem_range.1 hi
    have e : fr = 2 ^ i := by simpa using he
    have h2 : (2 : Int) ^ i ≤ 2 ^ 10 := by
      have : ∀ i : Fin 11, (2 : Int) ^ i.val ≤ 2 ^ 10 := by decide
      exact this ⟨i, hi⟩
    have h3 : (0 : Int) ≤ 2 ^ i := by
      have : ∀ i : Fin 11, (0 : Int) ≤ 2 ^ i.val := by decide
      exact this ⟨i, hi⟩
    have h4 : (2 : Int) ^ 10 = 1024 := by decide
    omega
set_option maxHeartbeats 2000000 in
set_option maxRecDepth 20000 in
theorem check_any (n fr : Int) {cA : Option Addr} {cL : Nat} (cC : Nat) {cz : Nat → Int} {dA : Option Addr} {dL : Nat} (dC : Nat) {L : Nat → Nat} {Z : Nat → Nat → Int} {w : World} (h : At w cA cL cz dA dL L Z) :
    Calls Try.prog 12 #[tval n fr cA cL cC dA dL dC] w fun e w' => e = .returned (.int .i64 (tchk n fr cL cz dL L Z)) ∧ Kept [] w w' := by
  have hl := h.cl
  have hdl := h.dl
  unfold maxLen at hl hdl
  have K0 := (Kept.refl [] w).alloc (.cells #[.int .i64 n, .int .i64 fr, .slice cA cL cC, .slice dA dL dC] 25)
  have HA := hide (h.kept K0)
  have HK0 := hide K0
  have hp := pows_all fr
  obtain ⟨r, hr⟩ : ∃ r, r = tchk n fr cL cz dL L Z := ⟨_, rfl⟩
  rw [← hr]
  have HR := hide hr
  clear hr h K0
  unfold tval
  go_enter Try.func12, Try.ntmps12
  go_wp2
  generalize hw0 : w.alloc (.cells #[.int .i64 n, .int .i64 fr, .slice cA cL cC, .slice dA dL dC] 25) = w0 at HA HK0 ⊢
  have b0 : w0.cell? ⟨w.heap.size, 0, none⟩ = some (.int .i64 n) := by rw [← hw0]; simp
  have b1 : w0.cell? ⟨w.heap.size, 1, none⟩ = some (.int .i64 fr) := by rw [← hw0]; simp
  have b2 : w0.cell? ⟨w.heap.size, 2, none⟩ = some (.slice cA cL cC) := by rw [← hw0]; simp
  have b3 : w0.cell? ⟨w.heap.size, 3, none⟩ = some (.slice dA dL dC) := by rw [← hw0]; simp
  clear hw0
  go_loopw [3, 4] (fun pw f wr => ∃ k : Nat, k ≤ 11 ∧ f = .int .i64 ((2 ^ k : Nat) : Int) ∧ pw = .bool (pows fr k) ∧ wr = w0) (fun _ f _ => 2049 - (intOf f).toNat)
  case atStart => exact ⟨0, by omega, rfl, rfl, rfl⟩
  case round =>
    obtain ⟨k, hk, rfl, rfl, hwr⟩ := hrel
    subst wr
    by_cases hk11 : k < 11
    · obtain ⟨f, hf⟩ : ∃ f, f = 2 ^ k := ⟨_, rfl⟩
      have hf1 : f ≤ 1024 ∧ 1 ≤ f ∧ 2 * f = 2 ^ (k + 1) := by
        have : ∀ k : Fin 11, 2 ^ k.val ≤ 1024 ∧ 1 ≤ 2 ^ k.val ∧ 2 * 2 ^ k.val = 2 ^ (k.val + 1) := by decide
        rw [hf]; exact this ⟨k, hk11⟩
      have hps := pows_succ fr k
      rw [show ((2 : Int) ^ k) = ((2 ^ k : Nat) : Int) from by simp, ← hf] at hps
      rw [← hf]
      have HF := hide (And.intro hf (And.intro hf1 hps))
      have hf2 : (f : Int) ≤ 1024 := by omega
      clear hf hf1 hps
      cases hq : pows fr k with
      | true =>
        go_wp2
        refine ⟨⟨k + 1, by omega, ?_, ?_, trivial⟩, by have := HF.out.2.1; simp [intOf]; omega⟩
        · rw [← HF.out.2.1.2.2]; simp
        · rw [HF.out.2.2, hq]; rfl
      | false =>
        go_wp2
        refine ⟨⟨k + 1, by omega, ?_, ?_, trivial⟩, by have := HF.out.2.1; simp [intOf]; omega⟩
        · rw [← HF.out.2.1.2.2]; simp
        · rw [HF.out.2.2, hq]; rfl
    · have e : k = 11 := by omega
      subst e
      rw [hp]
      show _
      have e2048 : ((2 ^ 11 : Nat) : Int) = 2048 := by decide
      rw [e2048]
      by_cases hcn : countsP n fr cL
      · have hcn' := hcn
        obtain ⟨⟨n1, n8⟩, ⟨f1, f2⟩, hpw, l1, l16⟩ := hcn
        rw [hpw]
        have l1i : (1 : Int) ≤ (cL : Int) := by omega
        have l16i : (cL : Int) ≤ 16 := by omega
        obtain ⟨N, rfl⟩ := Int.eq_ofNat_of_zero_le (show 0 ≤ n by omega)
        go_wp2
        clear hp
        go_loopw [5] (fun i wr => ∃ k : Nat, k ≤ cL ∧ i = .int .i64 k ∧ Kept [] w0 wr ∧ ∀ j, j < k → 0 ≤ cz j ∧ cz j < (N : Int)) (fun i _ => cL - (intOf i).toNat)
        case atStart => exact ⟨0, by omega, rfl, Kept.refl _ _, fun j hj => absurd hj (Nat.not_lt_zero _)⟩
        case round =>
          obtain ⟨k, hk, rfl, hKk, hf⟩ := hrel
          have HF := hide hf
          have b0' := hKk.cell b0 (by simp)
          have b2' := hKk.cell b2 (by simp)
          have b3' := hKk.cell b3 (by simp)
          have HK := hide hKk
          have KW := hide (HK0.out.next hKk)
          clear hf hKk
          by_cases hkl : k < cL
          · have hki : (k : Int) < (cL : Int) := by omega
            obtain ⟨bb, off, hcA, hcc, -⟩ := (HA.out.kept HK.out).cpus k hkl
            subst hcA
            obtain ⟨y, hy⟩ : ∃ y, y = cz k := ⟨_, rfl⟩
            rw [← hy] at hcc
            have HY := hide hy
            clear hy
            have kz : (0 : Int) ≤ (k : Int) := by omega
            by_cases hy0 : y < 0
            · have R := hide (show r = 10 from by rw [HR.out]; unfold tchk; rw [if_pos hcn', if_neg (fun hh => by have := hh k hkl; rw [← HY.out] at this; omega)])
              have dy : decide (y < 0) = true := decide_eq_true hy0
              go_wp2_with fail
              go_big_region
              all_goals go_wp2
              all_goals go_ret
              all_goals exact ⟨ret_int R.out.symm, KW.out.drew⟩
            · have dy : decide (y < 0) = false := decide_eq_false hy0
              by_cases hyN : y < (N : Int)
              · have dyN : ¬ (N : Int) ≤ y := by omega
                go_wp2_with fail
                go_region_held3 (fun w' => w'.cell? ⟨w.heap.size, 0, none⟩ = some (.int .i64 (N : Int)) ∧ w'.cell? ⟨w.heap.size, 2, none⟩ = some (.slice (some ⟨bb, off, none⟩) cL cC) ∧ w'.cell? ⟨bb, off + k, none⟩ = some (.int .i64 y)) (go_keep) (fail)
                go_wp2
                go_roundw
                case rel =>
                  refine ⟨k + 1, by omega, by go_num, HK.out.drew, fun j hj => ?_⟩
                  by_cases e : j = k
                  · rw [e, ← HY.out]; omega
                  · exact HF.out j (by omega)
                case measure => simp [intOf]; omega
              · have R := hide (show r = 10 from by rw [HR.out]; unfold tchk; rw [if_pos hcn', if_neg (fun hh => by have := hh k hkl; rw [← HY.out] at this; omega)])
                have dyN : (N : Int) ≤ y := by omega
                go_wp2_with fail
                go_region_held3 (fun w' => w'.cell? ⟨w.heap.size, 0, none⟩ = some (.int .i64 (N : Int)) ∧ w'.cell? ⟨w.heap.size, 2, none⟩ = some (.slice (some ⟨bb, off, none⟩) cL cC) ∧ w'.cell? ⟨bb, off + k, none⟩ = some (.int .i64 y)) (go_keep) (fail)
                go_wp2
                go_ret
                exact ⟨ret_int R.out.symm, KW.out.drew⟩
          · have e : k = cL := by omega
            subst e
            have hcp : cpusP N k cz := HF.out
            have HQ := hide (show r = if distP N dL L Z then 0 else 4 from by rw [HR.out]; unfold tchk; rw [if_pos hcn', if_pos hcp, Int.toNat_natCast])
            clear HR hcp HF hcn'
            by_cases hdN : dL = N
            · subst hdN
              have hne : ((dL : Int) != (dL : Int)) = false := by simp
              go_wp2
              generalize hw1 : wr = w1 at HK b0' b2' b3' KW ⊢
              clear hw1
              go_loopw [6] (fun i wr => ∃ q : Nat, q ≤ dL ∧ i = .int .i64 q ∧ Kept [] w1 wr ∧ ∀ j, j < q → L j = dL) (fun i _ => dL - (intOf i).toNat)
              case atStart => exact ⟨0, by omega, rfl, Kept.refl _ _, fun j hj => absurd hj (Nat.not_lt_zero _)⟩
              case round =>
                obtain ⟨q, hq, rfl, hKq, hf⟩ := hrel
                have HF := hide hf
                have c0 := hKq.cell b0' (by simp)
                have c3 := hKq.cell b3' (by simp)
                have HKq := hide (HK.out.next hKq)
                have KQ := hide (KW.out.next hKq)
                have HKw := hide hKq
                clear hf hKq
                by_cases hql : q < dL
                · have hqi : (q : Int) < (dL : Int) := by omega
                  have qz : (0 : Int) ≤ (q : Int) := by omega
                  obtain ⟨bb, off, A, C, hdA, hcell, hC1, hC2, -⟩ := (HA.out.kept HKq.out).rows q hql
                  subst hdA
                  by_cases hLq : L q = dL
                  · rw [hLq] at hcell
                    go_wp2_with fail
                    go_region_held3 (fun w' => w'.cell? ⟨w.heap.size, 0, none⟩ = some (.int .i64 (dL : Int)) ∧ w'.cell? ⟨w.heap.size, 3, none⟩ = some (.slice (some ⟨bb, off, none⟩) dL dC) ∧ w'.cell? ⟨bb, off + q, none⟩ = some (.slice A dL C)) (go_keep) (fail)
                    go_wp2
                    go_roundw
                    case rel =>
                      refine ⟨q + 1, by omega, by go_num, HKw.out.drew, fun j hj => ?_⟩
                      by_cases e : j = q
                      · rw [e]; exact hLq
                      · exact HF.out j (by omega)
                    case measure => simp [intOf]; omega
                  · have hne2 : ((L q : Int) != (dL : Int)) = true := by
                      have : ¬ ((L q : Int) = dL) := by omega
                      simpa using this
                    have R := hide (show r = 4 from by rw [HQ.out, if_neg (fun hh => hLq (hh.2.1 q hql))])
                    go_wp2_with fail
                    go_region_held3 (fun w' => w'.cell? ⟨w.heap.size, 0, none⟩ = some (.int .i64 (dL : Int)) ∧ w'.cell? ⟨w.heap.size, 3, none⟩ = some (.slice (some ⟨bb, off, none⟩) dL dC) ∧ w'.cell? ⟨bb, off + q, none⟩ = some (.slice A (L q) C)) (go_keep) (fail)
                    go_wp2
                    go_ret
                    exact ⟨ret_int R.out.symm, KQ.out.drew⟩
                · have e : q = dL := by omega
                  subst e
                  have HL := HF
                  generalize hw2 : wr = w2 at HKq c0 c3 KQ ⊢
                  clear hw2 HF b0' b2' b3' HK KW
                  go_wp2
                  go_loopw [7] (fun i wr => ∃ a : Nat, a ≤ q ∧ i = .int .i64 a ∧ wr = w2 ∧ ∀ a', a' < a → ∀ b, b < q → fitP a' b (Z a' b) ∧ Z a' b = Z b a') (fun i _ => q - (intOf i).toNat)
                  case atStart => exact ⟨0, by omega, rfl, rfl, fun j hj => absurd hj (Nat.not_lt_zero _)⟩
                  case round =>
                    obtain ⟨a, ha, rfl, hwr, hf⟩ := hrel
                    subst wr
                    have HF := hide hf
                    clear hf
                    by_cases hal : a < q
                    · have hai : (a : Int) < (q : Int) := by omega
                      obtain ⟨bb, off, A, C, hdA, hcell, hC1, hC2, hints⟩ := (HA.out.kept HKq.out).rows a hal
                      subst hdA
                      rw [HL.out a hal] at hcell hints hC1
                      have HI := hide hints
                      clear hints
                      go_wp2
                      go_loopw [8] (fun i wr => ∃ b : Nat, b ≤ q ∧ i = .int .i64 b ∧ wr = w2 ∧ ∀ b', b' < b → fitP a b' (Z a b') ∧ Z a b' = Z b' a) (fun i _ => q - (intOf i).toNat)
                      case atStart => exact ⟨0, by omega, rfl, rfl, fun j hj => absurd hj (Nat.not_lt_zero _)⟩
                      case round =>
                        obtain ⟨b, hb, rfl, hwr, hf⟩ := hrel
                        subst wr
                        have HG := hide hf
                        clear hf
                        by_cases hbl : b < q
                        · have hbi : (b : Int) < (q : Int) := by omega
                          obtain ⟨b2, o2, hA2, hcy, -⟩ := HI.out b hbl
                          subst hA2
                          obtain ⟨bb', off', A', C', hdA', hcell', hC1', hC2', hints'⟩ := (HA.out.kept HKq.out).rows b hbl
                          obtain ⟨rfl, rfl⟩ : bb = bb' ∧ off = off' := by simpa using hdA'
                          rw [HL.out b hbl] at hcell' hints' hC1'
                          obtain ⟨b3, o3, hA3, hcz, -⟩ := hints' a hal
                          subst hA3
                          clear hints' hdA'
                          obtain ⟨y, hy⟩ : ∃ v, v = Z a b := ⟨_, rfl⟩
                          obtain ⟨z, hz⟩ : ∃ v, v = Z b a := ⟨_, rfl⟩
                          rw [← hy] at hcy
                          rw [← hz] at hcz
                          have HY := hide (And.intro hy hz)
                          have HB := hide (show ¬ (fitP a b y ∧ y = z) → r = 4 from fun hn => by rw [HQ.out, if_neg (fun hh => hn (by rw [hy, hz]; exact hh.2.2 a hal b hbl))])
                          have HOK := hide (show fitP a b y ∧ y = z → ∀ b', b' < b + 1 → fitP a b' (Z a b') ∧ Z a b' = Z b' a from fun hh b' hb' => by
                            by_cases e : b' = b
                            · rw [e, ← hy, ← hz]; exact hh
                            · exact HG.out b' (by omega))
                          clear hy hz HG
                          by_cases hab : a = b
                          · subst hab
                            have hyz : y = z := by rw [HY.out.1, HY.out.2]
                            by_cases h10 : y = 10
                            · have h10' : (y != 10) = false := by simp [h10]
                              have OK := hide (HOK.out ⟨⟨fun _ => h10, fun e => absurd rfl e⟩, hyz⟩)
                              clear hyz h10
                              go_wp2
                              go_roundw
                              case rel => exact ⟨a + 1, by omega, by go_num, trivial, OK.out⟩
                              case measure => simp [intOf]; omega
                            · have h10' : (y != 10) = true := by simpa using h10
                              have R := hide (HB.out (fun hh => h10 (hh.1.1 rfl)))
                              clear hyz h10
                              go_wp2
                              go_ret
                              exact ⟨ret_int R.out.symm, KQ.out⟩
                          · have hab' : ((a : Int) == (b : Int)) = false := by
                              have : ¬ ((a : Int) = b) := by omega
                              simpa using this
                            have hab2 : ((a : Int) != (b : Int)) = true := by
                              have : ¬ ((a : Int) = b) := by omega
                              simpa using this
                            by_cases h11 : y < 11
                            · have R := hide (HB.out (fun hh => by have := hh.1.2 hab; omega))
                              go_wp2
                              go_ret
                              exact ⟨ret_int R.out.symm, KQ.out⟩
                            · by_cases h255 : 255 < y
                              · have R := hide (HB.out (fun hh => by have := hh.1.2 hab; omega))
                                go_wp2
                                go_ret
                                exact ⟨ret_int R.out.symm, KQ.out⟩
                              · by_cases hyz : y = z
                                · have OK := hide (HOK.out ⟨⟨fun e => absurd e hab, fun _ => by omega⟩, hyz⟩)
                                  subst hyz
                                  have hyy : (y != y) = false := by simp
                                  go_wp2
                                  go_roundw
                                  case rel => exact ⟨b + 1, by omega, by go_num, trivial, OK.out⟩
                                  case measure => simp [intOf]; omega
                                · have hyz' : (y != z) = true := by simpa using hyz
                                  have R := hide (HB.out (fun hh => hyz hh.2))
                                  go_wp2
                                  go_ret
                                  exact ⟨ret_int R.out.symm, KQ.out⟩
                        · have e : b = q := by omega
                          subst e
                          go_wp2
                          refine ⟨⟨a + 1, by omega, by go_num, trivial, fun a' ha' => ?_⟩, by simp [intOf]; omega⟩
                          by_cases e : a' = a
                          · rw [e]; exact HG.out
                          · exact HF.out a' (by omega)
                    · have e : a = q := by omega
                      subst e
                      have R := hide (show r = 0 from by rw [HQ.out, if_pos ⟨rfl, HL.out, HF.out⟩])
                      go_wp2
                      go_ret
                      exact ⟨ret_int R.out.symm, KQ.out⟩
            · have hne : ((dL : Int) != (N : Int)) = true := by
                have : ¬ ((dL : Int) = N) := by omega
                simpa using this
              have R := hide (show r = 4 from by rw [HQ.out, if_neg (fun hh => hdN hh.1)])
              go_wp2
              go_ret
              exact ⟨ret_int R.out.symm, KW.out⟩
      · have R := hide (show r = 3 from by rw [HR.out]; unfold tchk; rw [if_neg hcn])
        have hor : n < 1 ∨ (1 ≤ n ∧ 8 < n) ∨ (1 ≤ n ∧ n ≤ 8 ∧ powB fr = false) ∨ (1 ≤ n ∧ n ≤ 8 ∧ powB fr = true ∧ cL < 1) ∨ (1 ≤ n ∧ n ≤ 8 ∧ powB fr = true ∧ 1 ≤ cL ∧ 16 < cL) := by
          by_cases g1 : n < 1
          · exact .inl g1
          by_cases g2 : 8 < n
          · exact .inr (.inl ⟨by omega, g2⟩)
          cases g3 : powB fr with
          | false => exact .inr (.inr (.inl ⟨by omega, by omega, rfl⟩))
          | true =>
            have g4 : 1 ≤ fr ∧ fr ≤ 1024 := by
              unfold powB at g3
              simp only [Bool.and_eq_true, decide_eq_true_eq] at g3
              omega
            by_cases g5 : cL < 1
            · exact .inr (.inr (.inr (.inl ⟨by omega, by omega, rfl, g5⟩)))
            · refine .inr (.inr (.inr (.inr ⟨by omega, by omega, rfl, by omega, ?_⟩)))
              by_cases g6 : 16 < cL
              · exact g6
              · exact absurd ⟨⟨by omega, by omega⟩, g4, g3, by omega, by omega⟩ hcn
        clear hcn
        rcases hor with g1 | ⟨g1, g2⟩ | ⟨g1, g2, g3⟩ | ⟨g1, g2, g3, g4⟩ | ⟨g1, g2, g3, g4, g5⟩
        · go_wp2
          go_ret
          exact ⟨ret_int R.out.symm, HK0.out⟩
        · go_wp2
          go_ret
          exact ⟨ret_int R.out.symm, HK0.out⟩
        · rw [g3]
          go_wp2
          go_ret
          exact ⟨ret_int R.out.symm, HK0.out⟩
        · rw [g3]
          have g4i : (cL : Int) < 1 := by omega
          go_wp2
          go_ret
          exact ⟨ret_int R.out.symm, HK0.out⟩
        · rw [g3]
          have g4i : (1 : Int) ≤ (cL : Int) := by omega
          have g5i : (16 : Int) < (cL : Int) := by omega
          go_wp2
          go_ret
          exact ⟨ret_int R.out.symm, HK0.out⟩
end Go.Proofs.Ytnokpecdkibddac.TR
