
/-
  No statement of the program: the contracts of package nodeset's Of, between, All, Count and Next, over this seat's translation.
-/
import Derived.Test.YtnokpecdkibddacNode
import Derived.Test.YtnokpecdkibddacShelf
namespace Go.Proofs.Ytnokpecdkibddac.ND
open Go.RowKit

theorem or_form (a n : Nat) (ha : a < 256) (hn : n < 8) : bits BinOp.or IntKind.u8 (a : Int) (2 ^ n % 256) = ((a ||| 2 ^ n : Nat) : Int) := by
  have h : 2 ^ n < 256 := Nat.lt_of_lt_of_le (Nat.pow_lt_pow_right (by decide) hn) (by decide : 2 ^ 8 ≤ 256)
  have e : ((2 : Int) ^ n % 256) = ((2 ^ n : Nat) : Int) := by
    have e1 : ((2 : Int) ^ n) = ((2 ^ n : Nat) : Int) := by simp
    rw [e1]
    generalize 2 ^ n = d at h ⊢
    omega
  rw [e]; exact u8_or_nat _ _ ha h

/-- The set of the first k numbers of a list. -/
def orTo (z : Nat → Int) : Nat → Nat
  | 0 => 0
  | k + 1 => orTo z k ||| 2 ^ (z k).toNat
theorem orTo_lt (z : Nat → Int) (k : Nat) (h : ∀ i, i < k → z i < 8) : orTo z k < 256 := by
  induction k with
  | zero => exact Nat.zero_lt_succ _
  | succ k ih =>
    unfold orTo
    have h1 := ih (fun i hi => h i (by omega))
    have h2 := h k (by omega)
    have h3 : 2 ^ (z k).toNat < 2 ^ 8 := Nat.pow_lt_pow_right (by decide) (by omega)
    exact Nat.or_lt_two_pow (n := 8) h1 h3

/-- The set of all nodes from a on, k of them. -/
def run (a : Nat) : Nat → Nat
  | 0 => 0
  | k + 1 => run a k ||| 2 ^ (a + k)
theorem run_lt (a k : Nat) (h : a + k ≤ 8) : run a k < 256 := by
  induction k with
  | zero => exact Nat.zero_lt_succ _
  | succ k ih =>
    unfold run
    have h3 : 2 ^ (a + k) < 2 ^ 8 := Nat.pow_lt_pow_right (by decide) (by omega)
    exact Nat.or_lt_two_pow (n := 8) (ih (by omega)) h3
set_option maxHeartbeats 400000 in
/-- between, from a on, k nodes (none if k is 0). -/
theorem between_any {lo hi : Int} (a k : Nat) (h : a + k ≤ 8) (el : lo = a) (eh : hi = (a : Int) + k - 1) (w : World) :
    Calls Try.prog 26 #[.int .i64 lo, .int .i64 hi] w fun e w' => e = .returned (.int .u8 (run a k)) ∧ w' = w := by
  subst el
  obtain ⟨x, hx⟩ : ∃ x, x = hi := ⟨hi, rfl⟩
  have EH := hide eh
  have b1 : hi < (a : Int) + k := by omega
  have b2 : (a : Int) + k ≤ hi + 1 := by omega
  clear eh hx
  go_enter Try.func26, Try.ntmps26
  go_wp2
  go_loop [5, 6] (fun t i => ∃ j : Nat, j ≤ k ∧ i = .int .i64 ((a + j : Nat) : Int) ∧ t = .int .u8 (run a j)) (fun _ i => 8 - (intOf i).toNat)
  case atStart => exact ⟨0, by omega, rfl, rfl⟩
  case round =>
    obtain ⟨j, hj, rfl, rfl⟩ := hrel
    by_cases hjk : j < k
    · have hof := or_form (run a j) (a + j) (run_lt a j (by omega)) (by omega)
      have HO := hide hof
      obtain ⟨p, hp⟩ : ∃ p, p = a + j := ⟨_, rfl⟩
      have hp8 : p < 8 := by omega
      have hpi : (p : Int) ≤ hi := by omega
      rw [← hp] at HO
      have HP := hide hp
      rw [← hp]
      clear hof hp
      go_wp2
      go_round
      case rel => exact ⟨j + 1, by omega, by rw [HP.out]; go_num, by rw [HO.out, HP.out]; rfl⟩
      case measure => simp [intOf]; omega
    · have e : j = k := by omega
      subst e
      obtain ⟨p, hp⟩ : ∃ p, p = a + j := ⟨_, rfl⟩
      have hpi : hi < (p : Int) := by omega
      rw [← hp]
      clear hp
      go_wp2
      go_ret
      exact ⟨rfl, rfl⟩
set_option maxHeartbeats 400000 in
theorem all_ok {n : Int} (k : Nat) (hk : k ≤ 8) (e : n = k) (w : World) : Calls Try.prog 13 #[.int .i64 n] w fun e w' => e = .returned (.tuple #[.int .u8 (run 0 k), .int .i64 0]) ∧ w' = w := by
  subst e
  go_enter Try.func13, Try.ntmps13
  go_wp2_with (go_at_call 26; refine (between_any 0 k (by omega) rfl (by omega) _).mono ?_; rintro e w' ⟨rfl, hw⟩; subst w')
  go_ret2
  exact ⟨rfl, rfl⟩
set_option maxHeartbeats 400000 in
theorem all_bad {n : Int} (h : n < 0 ∨ 8 < n) (w : World) : Calls Try.prog 13 #[.int .i64 n] w fun e w' => e = .returned (.tuple #[.int .u8 0, .int .i64 3]) ∧ w' = w := by
  rcases h with h | h
  all_goals
    go_enter Try.func13, Try.ntmps13
    go_wp2_with fail
    go_ret2
    exact ⟨rfl, rfl⟩
set_option maxHeartbeats 400000 in
theorem count_any (s : Nat) (hs : s < 256) (w : World) : Calls Try.prog 54 #[.int .u8 s] w fun e w' => e = .returned (.int .i64 (Lib.onesCount s)) ∧ w' = w := by
  go_enter Try.func54, Try.ntmps54
  go_wp2_with (go_at_call 65; refine (Try.bits_OnesCount8 s _ (by omega) (by omega)).mono ?_; rintro e w' ⟨rfl, hw⟩; subst w')
  go_ret
  exact ⟨by simp, rfl⟩

/-- What Next tells. -/
def nextOf (l : List Int) (n : Int) : Int × Bool := match l with
  | [] => (0, false)
  | x :: _ => ((l.find? (fun y => decide (n < y))).getD x, true)
set_option maxHeartbeats 1000000 in
set_option maxRecDepth 20000 in
theorem next_any (s : Nat) (n : Int) (hs : s < 256) (w : World) : Calls Try.prog 33 #[.int .u8 s, .int .i64 n] w fun e w' => e = .returned (.tuple #[.int .i64 (nextOf (nodes s) n).1, .bool (nextOf (nodes s) n).2]) ∧ Kept [] w w' := by
  have hwf := pre_wf s 8 (by omega)
  have hle := pre_le s 8
  obtain ⟨l, hl⟩ : ∃ l, l = nodes s := ⟨_, rfl⟩
  have hwf : ∀ x, x ∈ l → (Lit.int .i64 x).wf = true := by rw [hl]; exact hwf
  have hle : l.length ≤ 8 := by rw [hl]; exact hle
  rw [← hl]
  have HL := hide hl
  have HW := hide hwf
  clear hl hwf
  go_enter Try.func33, Try.ntmps33
  go_wp2_with fail
  refine (list_any s hs _).mono ?_
  rintro e w1 ⟨v, rfl, hI, hK⟩
  rw [← HL.out] at hI
  obtain ⟨ao, cap, rfl, hI2⟩ := hI.isInts HW.out
  have KK := hide hK
  clear hI hK
  cases l with
  | nil =>
    go_wp2
    go_ret2
    exact ⟨rfl, KK.out⟩
  | cons x r =>
    have hlen : (((x :: r).length : Nat) : Int) = (r.length : Int) + 1 := by simp
    have HI := hide hI2
    clear hI2
    simp only [List.length_cons] at hle HI ⊢
    go_wp2
    go_loop [16] (fun i => ∃ k : Nat, k ≤ r.length + 1 ∧ i = .int .i64 k ∧ (x :: r).find? (fun y => decide (n < y)) = ((x :: r).drop k).find? (fun y => decide (n < y))) (fun i => r.length + 1 - (intOf i).toNat)
    case atStart => exact ⟨0, by omega, rfl, rfl⟩
    case round =>
      obtain ⟨k, hk, rfl, hf⟩ := hrel
      have HF := hide hf
      clear hf
      by_cases hkl : k < r.length + 1
      · obtain ⟨b, off, hao, hc, -⟩ := HI.out k hkl
        subst hao
        have hdrop : (x :: r).drop k = (x :: r).getD k 0 :: (x :: r).drop (k + 1) := by
          rw [List.drop_eq_getElem_cons (by simpa using hkl)]
          congr 1
          rw [List.getD_eq_getElem?_getD, List.getElem?_eq_getElem (by simpa using hkl)]; rfl
        obtain ⟨y, hy⟩ : ∃ y, y = (x :: r).getD k 0 := ⟨_, rfl⟩
        have hc2 : w1.cell? ⟨b, off + k, none⟩ = some (.int .i64 y) := by rw [hy]; exact hc
        rw [← hy] at hdrop
        have HD := hide hdrop
        clear hdrop hy hc
        by_cases hny : n < y
        · go_wp2
          go_ret2
          refine ⟨?_, KK.out⟩
          have e : (x :: r).find? (fun y => decide (n < y)) = some y := by rw [HF.out, HD.out, List.find?_cons_of_pos (by simpa using hny)]
          simp only [nextOf, e]; rfl
        · go_wp2
          go_round
          case rel => exact ⟨k + 1, by omega, by go_num, by rw [HF.out, HD.out, List.find?_cons_of_neg (by simpa using hny)]⟩
          case measure => simp [intOf]; omega
      · have e : k = r.length + 1 := by omega
        subst e
        obtain ⟨b, off, hao, hc, -⟩ := HI.out 0 (by omega)
        subst hao
        have hc2 : w1.cell? ⟨b, off, none⟩ = some (.int .i64 x) := by simpa using hc
        clear hc
        go_wp2
        go_ret2
        refine ⟨?_, KK.out⟩
        have e : (x :: r).find? (fun y => decide (n < y)) = none := by
          rw [HF.out, List.drop_of_length_le (by simp)]; rfl
        simp only [nextOf, e]; rfl
end Go.Proofs.Ytnokpecdkibddac.ND
