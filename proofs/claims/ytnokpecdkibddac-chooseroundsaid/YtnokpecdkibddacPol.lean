
/-
  No statement of the program: the contracts of package policy's calls (checkNode, checkSet, Check, Permitted, Start), over this seat's translation.
-/
import Derived.Test.YtnokpecdkibddacNode2
import Derived.OwnWalk
namespace Go.Proofs.Ytnokpecdkibddac.PO
open Go.RowKit ND

/-- A policy, as a value. -/
def pol (m : Int) (s : Nat) (nd : Int) : Value := .agg #[.int .i64 m, .int .u8 s, .int .i64 nd]
def nodeE (a n : Int) : Int := if 0 ≤ a ∧ a < n then 0 else 10
set_option maxHeartbeats 400000 in
theorem checkNode_any (a n : Int) (w : World) : Calls Try.prog 32 #[.int .i64 a, .int .i64 n] w fun e w' => e = .returned (.int .i64 (nodeE a n)) ∧ w' = w := by
  rcases (show a < 0 ∨ (0 ≤ a ∧ n ≤ a) ∨ (0 ≤ a ∧ a < n) from by omega) with h | ⟨ha, hb⟩ | ⟨ha, hb⟩
  · rw [show nodeE a n = 10 from if_neg (by omega)]
    go_enter Try.func32, Try.ntmps32
    go_wp2
    go_ret
    exact ⟨rfl, rfl⟩
  · rw [show nodeE a n = 10 from if_neg (by omega)]
    go_enter Try.func32, Try.ntmps32
    go_wp2
    go_ret
    exact ⟨rfl, rfl⟩
  · rw [show nodeE a n = 0 from if_pos (by omega)]
    go_enter Try.func32, Try.ntmps32
    go_wp2
    go_ret
    exact ⟨rfl, rfl⟩

def belowB (l : List Int) (n : Int) : Bool := l.all (fun x => decide (x < n))
/-- What checkSet tells. -/
def setE (s : Nat) (n : Int) : Int := if s = 0 then 1 else if belowB (nodes s) n = true then 0 else 10
theorem ones_zero : Lib.onesCount 0 = 0 := by decide
theorem ones_pos : ∀ s, s < 256 → s ≠ 0 → Lib.onesCount s ≠ 0 := by decide +kernel
set_option maxHeartbeats 1000000 in
theorem checkSet_any (s : Nat) (n : Int) (hs : s < 256) (w : World) : Calls Try.prog 44 #[.int .u8 s, .int .i64 n] w fun e w' => e = .returned (.int .i64 (setE s n)) ∧ Kept [] w w' := by
  by_cases h0 : s = 0
  · subst h0
    rw [show setE 0 n = 1 from if_pos rfl]
    have h1 := ones_zero
    go_enter Try.func44, Try.ntmps44
    go_wp2_with (go_at_call 54; refine (count_any 0 hs _).mono ?_; rintro e w' ⟨rfl, hw⟩; subst w'; rw [h1])
    go_ret
    exact ⟨rfl, Kept.refl _ _⟩
  · have hone := ones_pos s hs h0
    have hwf := pre_wf s 8 (by omega)
    have hle := pre_le s 8
    have hmem : ∀ x, x ∈ nodes s → 0 ≤ x := fun x hx => (pre_mem hx).1
    obtain ⟨l, hl⟩ : ∃ l, l = nodes s := ⟨_, rfl⟩
    have hwf : ∀ x, x ∈ l → (Lit.int .i64 x).wf = true := by rw [hl]; exact hwf
    have hle : l.length ≤ 8 := by rw [hl]; exact hle
    obtain ⟨r, hr⟩ : ∃ r, r = setE s n := ⟨_, rfl⟩
    have hr2 : r = if belowB l n = true then 0 else 10 := by rw [hr, hl]; exact if_neg h0
    rw [← hr]
    have HR := hide hr2
    clear hr hr2
    rw [← hl] at hmem
    have HL := hide hl
    have HW := hide hwf
    have HM := hide hmem
    clear hl hwf hmem
    have hoc := count_any s hs
    generalize Lib.onesCount s = oc at hone hoc
    have hone : ¬ ((oc : Int) = 0) := by omega
    go_enter Try.func44, Try.ntmps44
    go_wp2_with (first
      | (go_at_call 54; refine (hoc _).mono ?_; rintro e w' ⟨rfl, hw⟩; subst w')
      | fail)
    refine (list_any s hs _).mono ?_
    rintro e w1 ⟨v, rfl, hI, hK⟩
    rw [← HL.out] at hI
    obtain ⟨ao, cap, rfl, hI2⟩ := hI.isInts HW.out
    have KK := hide hK
    have HI := hide hI2
    clear hI hK hI2 hoc
    go_wp2
    go_loopw [14] (fun i wr => ∃ k : Nat, k ≤ l.length ∧ i = .int .i64 k ∧ belowB l n = belowB (l.drop k) n ∧ wr = w1) (fun i _ => l.length - (intOf i).toNat)
    case atStart => exact ⟨0, by omega, rfl, rfl, rfl⟩
    case round =>
      obtain ⟨k, hk, rfl, hf, hwr⟩ := hrel
      subst wr
      have HF := hide hf
      clear hf
      by_cases hkl : k < l.length
      · obtain ⟨b, off, hao, hc, -⟩ := HI.out k hkl
        subst hao
        have hdrop : l.drop k = l.getD k 0 :: l.drop (k + 1) := by
          rw [List.drop_eq_getElem_cons hkl]
          congr 1
          rw [List.getD_eq_getElem?_getD, List.getElem?_eq_getElem hkl]; rfl
        have hy0 : 0 ≤ l.getD k 0 := HM.out _ (by rw [List.getD_eq_getElem?_getD, List.getElem?_eq_getElem hkl]; exact List.getElem_mem hkl)
        obtain ⟨y, hy⟩ : ∃ y, y = l.getD k 0 := ⟨_, rfl⟩
        have hc2 : w1.cell? ⟨b, off + k, none⟩ = some (.int .i64 y) := by rw [hy]; exact hc
        rw [← hy] at hdrop hy0
        have HD := hide hdrop
        clear hdrop hy hc
        by_cases hny : y < n
        · have hE : nodeE y n = 0 := if_pos ⟨hy0, hny⟩
          go_wp2_with (go_at_call 32; refine (checkNode_any _ _ _).mono ?_; rintro e w' ⟨rfl, hw⟩; subst w'; rw [hE])
          go_roundw
          case rel =>
            refine ⟨k + 1, by omega, by go_num, ?_, trivial⟩
            rw [HF.out, HD.out]; simp [belowB, hny]
          case measure => simp [intOf]; omega
        · have hE : nodeE y n = 10 := if_neg (by omega)
          have hB : belowB l n = false := by rw [HF.out, HD.out]; simp [belowB]; intro h; exact absurd h hny
          have hr := HR.out
          rw [hB] at hr
          have R := hide (show r = 10 from hr)
          clear hr HR
          go_wp2_with (go_at_call 32; refine (checkNode_any _ _ _).mono ?_; rintro e w' ⟨rfl, hw⟩; subst w'; rw [hE])
          go_ret
          exact ⟨ret_int R.out.symm, KK.out⟩
      · have e : k = l.length := by omega
        subst e
        have hB : belowB l n = true := by rw [HF.out, List.drop_length]; rfl
        have hr := HR.out
        rw [hB] at hr
        have R := hide (show r = 0 from hr)
        clear hr HR
        go_wp2
        go_ret
        exact ⟨ret_int R.out.symm, KK.out⟩

/-- What Check tells. -/
def chk (m : Int) (s : Nat) (nd n : Int) : Int :=
  if ¬ (1 ≤ n ∧ n ≤ 8) then 3 else if m = 0 then 0 else if m = 1 ∨ m = 2 then setE s n else if m = 3 then nodeE nd n else 1
set_option maxHeartbeats 400000 in
theorem check_any (m : Int) (s : Nat) (nd n : Int) (hs : s < 256) (w : World) : Calls Try.prog 31 #[pol m s nd, .int .i64 n] w fun e w' => e = .returned (.int .i64 (chk m s nd n)) ∧ Kept [] w w' := by
  unfold pol
  by_cases h1 : 1 ≤ n ∧ n ≤ 8
  · obtain ⟨ha, hb⟩ := h1
    have hc : chk m s nd n = if m = 0 then 0 else if m = 1 ∨ m = 2 then setE s n else if m = 3 then nodeE nd n else 1 := if_neg (by omega)
    by_cases h0 : m = 0
    · subst h0
      rw [hc, if_pos rfl]
      go_enter Try.func31, Try.ntmps31
      go_wp2
      go_ret
      exact ⟨rfl, (Kept.refl _ _).alloc _⟩
    rw [if_neg h0] at hc
    by_cases hm1 : m = 1
    · subst hm1
      rw [hc, if_pos (by omega)]
      go_enter Try.func31, Try.ntmps31
      go_wp2_with (go_at_call 44; refine (checkSet_any s n hs _).mono ?_; rintro e w1 ⟨rfl, hK⟩; have KK := hide hK; clear hK)
      go_ret
      exact ⟨rfl, ((Kept.refl _ _).alloc _).next KK.out⟩
    by_cases hm2 : m = 2
    · subst hm2
      rw [hc, if_pos (by omega)]
      go_enter Try.func31, Try.ntmps31
      go_wp2_with (go_at_call 44; refine (checkSet_any s n hs _).mono ?_; rintro e w1 ⟨rfl, hK⟩; have KK := hide hK; clear hK)
      go_ret
      exact ⟨rfl, ((Kept.refl _ _).alloc _).next KK.out⟩
    rw [if_neg (by omega)] at hc
    by_cases hm3 : m = 3
    · subst hm3
      rw [hc, if_pos rfl]
      go_enter Try.func31, Try.ntmps31
      go_wp2_with (go_at_call 32; refine (checkNode_any _ _ _).mono ?_; rintro e w' ⟨rfl, hw⟩; subst w')
      go_ret
      exact ⟨rfl, (Kept.refl _ _).alloc _⟩
    rw [if_neg hm3] at hc
    rw [hc]
    clear hc
    go_enter Try.func31, Try.ntmps31
    go_wp2
    go_ret
    exact ⟨rfl, (Kept.refl _ _).alloc _⟩
  · rw [show chk m s nd n = 3 from if_pos h1]
    rcases (show n < 1 ∨ (1 ≤ n ∧ 8 < n) from by omega) with h | ⟨ha, hb⟩
    all_goals
      clear h1
      go_enter Try.func31, Try.ntmps31
      go_wp2
      go_ret
      exact ⟨rfl, (Kept.refl _ _).alloc _⟩

theorem chk_ok {m : Int} {s : Nat} {nd n : Int} (h : chk m s nd n = 0) : 1 ≤ n ∧ n ≤ 8 := by
  unfold chk at h
  by_cases h1 : 1 ≤ n ∧ n ≤ 8
  · exact h1
  · rw [if_pos h1] at h; omega

/-- What Permitted tells. -/
def permS (m : Int) (s : Nat) (nd n : Int) : Nat := if chk m s nd n = 0 then (if m = 1 then s else run 0 n.toNat) else 0
set_option maxHeartbeats 400000 in
theorem permitted_any (m : Int) (s : Nat) (nd n : Int) (hs : s < 256) (w : World) :
    Calls Try.prog 19 #[pol m s nd, .int .i64 n] w fun e w' => e = .returned (.tuple #[.int .u8 (permS m s nd n), .int .i64 (chk m s nd n)]) ∧ Kept [] w w' := by
  have hcall := check_any m s nd n hs
  have hok := @chk_ok m s nd n
  unfold permS
  unfold pol at hcall ⊢
  generalize chk m s nd n = c at hcall hok
  by_cases hc : c = 0
  · subst hc
    obtain ⟨ha, hb⟩ := hok rfl
    rw [if_pos rfl]
    by_cases hm1 : m = 1
    · subst hm1
      rw [if_pos rfl]
      go_enter Try.func19, Try.ntmps19
      go_wp2_with (go_at_call 31; refine (hcall _).mono ?_; rintro e w1 ⟨rfl, hK⟩; have KK := hide hK; clear hcall; have hc1 := hK.cell (p := ⟨w.heap.size, 0, none⟩) (v := .int .i64 1) (by simp) (by simp); have hc2 := hK.cell (p := ⟨w.heap.size, 1, none⟩) (v := .int .u8 s) (by simp) (by simp); clear hK)
      go_ret2
      exact ⟨rfl, ((Kept.refl _ _).alloc _).next KK.out⟩
    · rw [if_neg hm1]
      obtain ⟨k, rfl⟩ := Int.eq_ofNat_of_zero_le (show 0 ≤ n by omega)
      go_enter Try.func19, Try.ntmps19
      go_wp2_with (first
        | (go_at_call 31; refine (hcall _).mono ?_; rintro e w1 ⟨rfl, hK⟩; have KK := hide hK; clear hcall; have hc1 := hK.cell (p := ⟨w.heap.size, 0, none⟩) (v := .int .i64 m) (by simp) (by simp); clear hK)
        | (go_at_call 13; refine (all_ok k (by omega) rfl _).mono ?_; rintro e w' ⟨rfl, hw⟩; subst w'))
      go_ret2
      exact ⟨by simp, ((Kept.refl _ _).alloc _).next KK.out⟩
  · rw [if_neg hc]
    go_enter Try.func19, Try.ntmps19
    go_wp2_with (go_at_call 31; refine (hcall _).mono ?_; rintro e w1 ⟨rfl, hK⟩; have KK := hide hK; clear hK hcall)
    go_ret2
    exact ⟨rfl, ((Kept.refl _ _).alloc _).next KK.out⟩

/-- What Start tells. -/
def startOf (m : Int) (s : Nat) (nd n own cur : Int) : Int × Int × Int :=
  if chk m s nd n = 0 then
    (if nodeE own n = 0 then
      (if m = 2 then ((nextOf (nodes s) cur).1, (nextOf (nodes s) cur).1, 0) else if m = 3 then (nd, cur, 0) else (own, cur, 0))
     else (0, 0, nodeE own n))
  else (0, 0, chk m s nd n)
set_option maxHeartbeats 400000 in
theorem start_any (m : Int) (s : Nat) (nd n own cur : Int) (hs : s < 256) (w : World) :
    Calls Try.prog 18 #[pol m s nd, .int .i64 n, .int .i64 own, .int .i64 cur] w fun e w' =>
      e = .returned (.tuple #[.int .i64 (startOf m s nd n own cur).1, .int .i64 (startOf m s nd n own cur).2.1, .int .i64 (startOf m s nd n own cur).2.2]) ∧ Kept [] w w' := by
  have hcall := check_any m s nd n hs
  have hnode := checkNode_any own n
  unfold startOf
  unfold pol at hcall ⊢
  generalize chk m s nd n = c at hcall
  generalize nodeE own n = d at hnode
  by_cases hc : c = 0
  · subst hc
    rw [if_pos rfl]
    by_cases hd : d = 0
    · subst hd
      rw [if_pos rfl]
      by_cases hm2 : m = 2
      · subst hm2
        rw [if_pos rfl]
        have hnext := next_any s cur hs
        generalize nextOf (nodes s) cur = x at hnext
        go_enter Try.func18, Try.ntmps18
        go_wp2_with (first
          | (go_at_call 31; refine (hcall _).mono ?_; rintro e w1 ⟨rfl, hK⟩; have KK := hide hK; clear hcall; have hc1 := hK.cell (p := ⟨w.heap.size, 0, none⟩) (v := .int .i64 2) (by simp) (by simp); have hc2 := hK.cell (p := ⟨w.heap.size, 1, none⟩) (v := .int .u8 s) (by simp) (by simp); clear hK)
          | (go_at_call 32; refine (hnode _).mono ?_; rintro e w' ⟨rfl, hw⟩; subst w'; clear hnode)
          | (go_at_call 33; refine (hnext _).mono ?_; rintro e w2 ⟨rfl, hK2⟩; have KK2 := hide hK2; clear hK2 hnext))
        go_ret3
        exact ⟨rfl, (((Kept.refl _ _).alloc _).next KK.out).next KK2.out⟩
      rw [if_neg hm2]
      by_cases hm3 : m = 3
      · subst hm3
        rw [if_pos rfl]
        go_enter Try.func18, Try.ntmps18
        go_wp2_with (first
          | (go_at_call 31; refine (hcall _).mono ?_; rintro e w1 ⟨rfl, hK⟩; have KK := hide hK; clear hcall; have hc1 := hK.cell (p := ⟨w.heap.size, 0, none⟩) (v := .int .i64 3) (by simp) (by simp); have hc2 := hK.cell (p := ⟨w.heap.size, 2, none⟩) (v := .int .i64 nd) (by simp) (by simp); clear hK)
          | (go_at_call 32; refine (hnode _).mono ?_; rintro e w' ⟨rfl, hw⟩; subst w'; clear hnode))
        go_ret3
        exact ⟨rfl, ((Kept.refl _ _).alloc _).next KK.out⟩
      rw [if_neg hm3]
      go_enter Try.func18, Try.ntmps18
      go_wp2_with (first
        | (go_at_call 31; refine (hcall _).mono ?_; rintro e w1 ⟨rfl, hK⟩; have KK := hide hK; clear hcall; have hc1 := hK.cell (p := ⟨w.heap.size, 0, none⟩) (v := .int .i64 m) (by simp) (by simp); clear hK)
        | (go_at_call 32; refine (hnode _).mono ?_; rintro e w' ⟨rfl, hw⟩; subst w'; clear hnode))
      go_ret3
      exact ⟨rfl, ((Kept.refl _ _).alloc _).next KK.out⟩
    · rw [if_neg hd]
      go_enter Try.func18, Try.ntmps18
      go_wp2_with (first
        | (go_at_call 31; refine (hcall _).mono ?_; rintro e w1 ⟨rfl, hK⟩; have KK := hide hK; clear hcall hK)
        | (go_at_call 32; refine (hnode _).mono ?_; rintro e w' ⟨rfl, hw⟩; subst w'; clear hnode))
      go_ret3
      exact ⟨rfl, ((Kept.refl _ _).alloc _).next KK.out⟩
  · rw [if_neg hc]
    go_enter Try.func18, Try.ntmps18
    go_wp2_with (first
      | (go_at_call 31; refine (hcall _).mono ?_; rintro e w1 ⟨rfl, hK⟩; have KK := hide hK; clear hcall hK)
      | (go_at_call 32; refine (hnode _).mono ?_; rintro e w' ⟨rfl, hw⟩; subst w'; clear hnode))
    go_ret3
    exact ⟨rfl, ((Kept.refl _ _).alloc _).next KK.out⟩
end Go.Proofs.Ytnokpecdkibddac.PO
