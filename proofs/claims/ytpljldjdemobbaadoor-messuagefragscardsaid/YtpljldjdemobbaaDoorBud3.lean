
/-
  No statement of the program: package buddy's Free and Runs, and what it takes of math/bits, over this seat's translation.
-/
import Derived.Test.YtpljldjdemobbaaDoorBud2
namespace Go.Proofs.YtpljldjdemobbaaDoor.By
open Go.RowKit
def aoOf : Value → Option Addr
  | .slice a _ _ => a
  | _ => none
def capOf : Value → Nat
  | .slice _ _ c => c
  | _ => 0
/-- How many frames the runs of the orders below k are. -/
def sumTo (L : Nat → List Nat) : Nat → Nat
  | 0 => 0
  | k + 1 => sumTo L k + (L k).length * 2 ^ k
theorem sumTo_le (L : Nat → List Nat) (M : Nat) (h : ∀ j, j < 11 → (L j).length ≤ M) : ∀ k, k ≤ 11 → sumTo L k + M ≤ M * 2 ^ k
  | 0, _ => by simp [sumTo]
  | k + 1, hk => by
    have ih := sumTo_le L M h k (by omega)
    have h1 : (L k).length * 2 ^ k ≤ M * 2 ^ k := Nat.mul_le_mul_right _ (h k (by omega))
    show sumTo L k + (L k).length * 2 ^ k + M ≤ M * 2 ^ (k + 1)
    rw [Nat.pow_succ, ← Nat.mul_assoc, Nat.mul_two]
    omega
theorem run_index11 {w : World} {C : Array Value} {k : Nat} {v : Value} (hk : k < 11) (hv : C[k]? = some v) (hs : C.size = 11) : (Instr.index 59 (.agg C) (.int .i64 (k : Int))).run Tryd.prog w = .ok v w := by
  have h2 : k < C.size := by omega
  have h3 : C[k] = v := by rw [Array.getElem?_eq_getElem h2] at hv; exact Option.some.inj hv
  simp [Instr.index, asIntOf, run_underlying Tryd.underlying59, Tryd.sizeOf47, part, Tryd.isAgg47, h2, h3]
  intro h; omega

set_option maxRecDepth 20000 in
set_option maxHeartbeats 2000000 in
theorem free_ok {w : World} {p n tb : Nat} {tk : Nat → Nat} {L : Nat → List Nat} {V : Nat → Value} (h : Bud w p n tk L tb V) (hM : ∀ j, j < 11 → (L j).length ≤ 2048) : Calls Tryd.prog 16 #[.pointer (some ⟨p, 0, none⟩)] w fun e w' => e = .returned (.int .i64 (sumTo L 11)) ∧ w' = w := by
  obtain ⟨A, hA⟩ : ∃ A, A = fun j => aoOf (V j) := ⟨_, rfl⟩
  obtain ⟨P, hP⟩ : ∃ P, P = fun j => capOf (V j) := ⟨_, rfl⟩
  obtain ⟨ln, hln⟩ : ∃ ln : Nat → Nat, ln = fun j => (L j).length := ⟨_, rfl⟩
  have hc : ∀ j, j < 11 → w.cell? ⟨p, 1 + j, none⟩ = some (.slice (A j) (ln j) (P j)) := fun j hj => by
    obtain ⟨ao, cap, hv, -⟩ := (h.list j hj).slice
    rw [h.cell j hj, hA, hP, hln]; simp only []; rw [hv]; rfl
  have c0 := hc 0 (by omega)
  have c1 := hc 1 (by omega)
  have c2 := hc 2 (by omega)
  have c3 := hc 3 (by omega)
  have c4 := hc 4 (by omega)
  have c5 := hc 5 (by omega)
  have c6 := hc 6 (by omega)
  have c7 := hc 7 (by omega)
  have c8 := hc 8 (by omega)
  have c9 := hc 9 (by omega)
  have c10 := hc 10 (by omega)
  simp only [Nat.add_zero, Nat.reduceAdd] at c0 c1 c2 c3 c4 c5 c6 c7 c8 c9 c10
  have S := hide (fun k => show sumTo L (k + 1) = sumTo L k + ln k * 2 ^ k from by rw [hln]; rfl)
  have B := hide (fun k (hk : k ≤ 11) => sumTo_le L 2048 hM k hk)
  have M := hide (show ∀ j, j < 11 → ln j ≤ 2048 by rw [hln]; exact hM)
  have Z := hide (show sumTo L 0 = 0 from rfl)
  obtain ⟨T, hT⟩ : ∃ T, T = sumTo L := ⟨_, rfl⟩
  rw [← hT] at S B Z ⊢
  clear h hc hM hT hln hA hP
  have hidx := hide (fun (k : Nat) (hk : k < 11) => run_index11 (w := w) (C := #[.slice (A 0) (ln 0) (P 0), .slice (A 1) (ln 1) (P 1), .slice (A 2) (ln 2) (P 2), .slice (A 3) (ln 3) (P 3), .slice (A 4) (ln 4) (P 4), .slice (A 5) (ln 5) (P 5), .slice (A 6) (ln 6) (P 6), .slice (A 7) (ln 7) (P 7), .slice (A 8) (ln 8) (P 8), .slice (A 9) (ln 9) (P 9), .slice (A 10) (ln 10) (P 10)]) (k := k) (v := .slice (A k) (ln k) (P k)) hk (by
    rcases (show k = 0 ∨ k = 1 ∨ k = 2 ∨ k = 3 ∨ k = 4 ∨ k = 5 ∨ k = 6 ∨ k = 7 ∨ k = 8 ∨ k = 9 ∨ k = 10 by omega) with e | e | e | e | e | e | e | e | e | e | e <;> (subst e; rfl)) rfl)
  go_enter Tryd.func16, Tryd.ntmps16
  go_wp2
  clear c0 c1 c2 c3 c4 c5 c6 c7 c8 c9 c10
  go_loop [3, 12] (fun f i => ∃ k : Nat, k ≤ 11 ∧ i = .int .i64 k ∧ f = .int .i64 (T k)) (fun _ i => 11 - (intOf i).toNat)
  case atStart => exact ⟨0, by omega, rfl, by rw [Z.out]; rfl⟩
  case round =>
    obtain ⟨k, hk, rfl, rfl⟩ := hrel
    have s1 := S.out k
    have b1 := B.out k (by omega)
    by_cases h2 : k < 11
    · have m1 := M.out k h2
      have hi := hidx.out k h2
      have hp : 2 ^ k ≤ 2 ^ 10 := Nat.pow_le_pow_right (by decide) (by omega)
      have hq : ln k * 2 ^ k ≤ 2048 * 2 ^ 10 := Nat.mul_le_mul m1 hp
      have hnx : wrap64 ((T k : Int) + wrap64 ((ln k : Int) * 2 ^ k)) = (T (k + 1) : Nat) := by
        have e1 : (ln k : Int) * 2 ^ k = ((ln k * 2 ^ k : Nat) : Int) := by simp
        rw [e1, IntWalk.wrap64_in ((ln k * 2 ^ k : Nat) : Int) ⟨by omega, by omega⟩, s1, IntWalk.wrap64_in _ ⟨by omega, by omega⟩]
        omega
      have HX := hide hnx
      clear hnx hp hq b1 s1 m1
      go_wp2
      go_round
      case rel => exact ⟨k + 1, by omega, by go_num, by rw [HX.out]⟩
      case measure => simp [intOf]; omega
    · have hk11 : k = 11 := by omega
      subst hk11
      go_wp2
      go_ret
      exact ⟨rfl, rfl⟩
/-- Runs, of an order. -/
theorem runs_ok {w : World} {p n tb : Nat} {tk : Nat → Nat} {L : Nat → List Nat} {V : Nat → Value} (o : Nat) (h : Bud w p n tk L tb V) (ho : o < 11) (hl : (L o).length ≤ 2048) {oi : Int} (eo : oi = o) :
    Calls Tryd.prog 24 #[.pointer (some ⟨p, 0, none⟩), .int .i64 oi] w fun e w' => ∃ v, e = .returned v ∧ NL w' v (L o) ∧ (∀ b, v.ownBlock = some b → w.heap.size ≤ b) ∧ Kept [] w w' := by
  subst eo
  have hb0 : (0 : Int) ≤ o := by omega
  have hb1 : (o : Int) ≤ 10 := by omega
  have hc := h.cell o ho
  have hcl : Calls Tryd.prog 36 #[V o] w fun e w' => ∃ v, e = .returned v ∧ NL w' v (L o) ∧ (∀ b, v.ownBlock = some b → w.heap.size ≤ b) ∧ Kept [] w w' := by
    rcases h.list o ho with ⟨hv, hl0⟩ | ⟨b, cap, f, hv, hr, h1, h2, h3⟩
    · rw [hv]
      refine (Tryd.slices_Clone_int_nil 0 0 w).mono ?_
      rintro e w' ⟨rfl, hw⟩
      subst w'
      exact ⟨_, rfl, .inl ⟨rfl, hl0⟩, fun b hb => (by cases hb), Kept.refl _ _⟩
    · have hzl : (zs (L o)).length = (L o).length := by simp [zs]
      rw [hv]
      refine (Tryd.slices_Clone_int b 0 (L o).length cap (zs (L o)) w (by omega) (by omega) (fun j hj => ?_)).mono ?_
      · rw [Nat.zero_add, hr.cell (by omega), h3 j (by omega), zs_getD]; rfl
      · rintro e w' ⟨v', rfl, hown, hne, hbl⟩
        rw [← hzl, List.take_length] at hown
        rcases hown.2 with ⟨e, -⟩ | ⟨g, cp, cur, rfl, hg, hb, hn, hm, hs, ht⟩
        · exact absurd e hne
        · refine ⟨_, rfl, .inr ⟨g, cp, fun i => (cur[i]?).getD default, by rw [hzl], ⟨cur, hb, by omega, fun i hi => by show cur[i]? = some ((cur[i]?).getD default); rw [Array.getElem?_eq_getElem (by omega)]; rfl⟩, by omega, hm, fun i hi => ?_⟩, fun b hb => by cases hb; exact hg, Kept.of_below hbl⟩
          have h5 : cur[i]? = ((zs (L o)).map (Value.int .i64))[i]? := by
            rw [← ht, List.getElem?_take, if_pos (by omega)]; simp
          show (cur[i]?).getD default = _
          rw [h5]
          simp [zs, hi, iv]
  have HC := hide hcl
  clear hcl h
  go_enter Tryd.func24, Tryd.ntmps24
  go_wp2_with (first | (go_at_call 29; refine (isOrder_yes hb0 hb1 _).mono ?_; rintro e w' ⟨rfl, hw⟩; subst w') | (go_at_call 36; refine HC.out.mono ?_; rintro e w' ⟨v, rfl, h2⟩))
  go_ret
  exact ⟨v, rfl, h2⟩
theorem runs_bad {w : World} {p : Nat} {oi : Int} (ho : ¬ (0 ≤ oi ∧ oi ≤ 10)) :
    Calls Tryd.prog 24 #[.pointer (some ⟨p, 0, none⟩), .int .i64 oi] w fun e w' => e = .returned (.slice none 0 0) ∧ w' = w := by
  have HB := hide ho
  clear ho
  go_enter Tryd.func24, Tryd.ntmps24
  go_wp2_with (go_at_call 29; refine (isOrder_no HB.out _).mono ?_; rintro e w' ⟨rfl, hw⟩; subst w')
  go_ret
  exact ⟨rfl, rfl⟩
def so1 (x : Int) : Int := IntKind.u64.wrap (bits .and .u64 (x / 2) 6148914691236517205 + bits .and .u64 x 6148914691236517205)
def so2 (y : Int) : Int := IntKind.u64.wrap (bits .and .u64 (y / 4) 3689348814741910323 + bits .and .u64 y 3689348814741910323)
def so3 (y : Int) : Int := bits .and .u64 (IntKind.u64.wrap (y / 16 + y)) 1085102592571150095
def so4 (y d : Int) : Int := IntKind.u64.wrap (y + y / d)
def popF (x : Int) : Int := bits .and .i64 (wrap64 (so4 (so4 (so4 (so3 (so2 (so1 x))) 256) 65536) 4294967296)) 127
set_option maxHeartbeats 1000000 in
theorem ones64 (x : Nat) (w : World) : Calls Tryd.prog 43 #[.int .u64 x] w fun e w' => e = .returned (.int .i64 (popF x)) ∧ w' = w := by
  go_enter Tryd.func43, Tryd.ntmps43
  go_wp2
  go_ret
  exact ⟨rfl, rfl⟩
theorem ones_any (x : Nat) (w : World) : Calls Tryd.prog 33 #[.int .u64 x] w fun e w' => e = .returned (.int .i64 (popF x)) ∧ w' = w := by
  go_enter Tryd.func33, Tryd.ntmps33
  go_wp2_with (go_at_call 43; refine (ones64 _ _).mono ?_; rintro e w' ⟨rfl, hw⟩; subst w')
  go_ret
  exact ⟨rfl, rfl⟩
theorem popF_two : ∀ k, k ≤ 10 → popF ((2 ^ k : Nat) : Int) = 1 := by decide +kernel
/-- Is n 1, 2, 4 and so on to 1024? -/
def twoB (n : Nat) : Bool := (List.range 11).any (fun k => n == 2 ^ k)
theorem popF_all : ∀ n : Nat, n < 1025 → (popF (n : Int) == 1) = twoB n := by decide +kernel
def tab64 : List Nat := [0, 1, 56, 2, 57, 49, 28, 3, 61, 58, 42, 50, 38, 29, 17, 4, 62, 47, 59, 36, 45, 43, 51, 22, 53, 39, 33, 30, 24, 18, 12, 5, 63, 55, 48, 27, 60, 41, 37, 16, 46, 35, 44, 21, 52, 32, 23, 11, 54, 26, 40, 15, 34, 20, 31, 10, 25, 14, 19, 9, 13, 8, 7, 6]
/-- The table of math/bits lies in its variable. -/
def Tab (w : World) : Prop := ∀ j, j < 64 → w.cell? ⟨1, j, none⟩ = some (.int .u8 (tab64.getD j 0 : Nat))
theorem Tab.kept {w w' : World} {F : List Nat} (h : Tab w) (k : Kept F w w') (hF : 1 ∉ F) : Tab w' := fun j hj => k.cell (h j hj) hF
def tzE (x : Int) : Int := IntKind.u64.wrap (bits .and .u64 x (IntKind.u64.wrap (-x)) * 285870213051353865) / 288230376151711744
theorem tzE_two : ∀ k, k ≤ 10 → 0 ≤ tzE ((2 ^ k : Nat) : Int) ∧ tzE ((2 ^ k : Nat) : Int) < 64 ∧ tab64.getD (tzE ((2 ^ k : Nat) : Int)).toNat 0 = k := by decide +kernel
set_option maxHeartbeats 1000000 in
theorem tz64 (w : World) (hT : Tab w) (k : Nat) (hk : k ≤ 10) (x : Nat) (ex : x = 2 ^ k) : Calls Tryd.prog 45 #[.int .u64 x] w fun e w' => e = .returned (.int .i64 k) ∧ w' = w := by
  obtain ⟨h1, h2, h3⟩ := tzE_two k hk
  rw [← ex] at h1 h2 h3
  have hc := hT (tzE x).toNat (by omega)
  rw [h3] at hc
  have hx0 : ¬ ((x : Int) = 0) := by have := two_pos k; omega
  unfold tzE at h1 h2 hc
  clear hT h3 ex
  go_enter Tryd.func45, Tryd.ntmps45
  go_wp2
  go_ret
  exact ⟨rfl, rfl⟩
theorem tz_any (w : World) (hT : Tab w) (k : Nat) (hk : k ≤ 10) (x : Nat) (ex : x = 2 ^ k) : Calls Tryd.prog 34 #[.int .u64 x] w fun e w' => e = .returned (.int .i64 k) ∧ w' = w := by
  have T := hide (tz64 w hT k hk x ex)
  clear hT ex
  go_enter Tryd.func34, Tryd.ntmps34
  go_wp2_with (go_at_call 45; refine T.out.mono ?_; rintro e w' ⟨rfl, hw⟩; subst w')
  go_ret
  exact ⟨rfl, rfl⟩
end Go.Proofs.YtpljldjdemobbaaDoor.By
