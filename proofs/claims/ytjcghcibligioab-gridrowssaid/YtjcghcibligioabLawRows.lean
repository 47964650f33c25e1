/-
  GridRows: for every list of lists of numbers the law answers true, and its argument reads behind the call as before. No condition.
-/
import Derived.Test.YtjcghcibligioabGrids
import Derived.Test.YtjcghcibligioabRowI
import Derived.Test.YtjcghcibligioabLift
import Derived.Lib.MinMax
namespace Go.Proofs.Ytjcghcibligioab.rows
open Go.ChangeShapes Go.WideShapes Go.ChangeAt Go.RowKit

/-- The table so far: rows below r are put, and of row r the columns below c. -/
def put (L : Nat → Nat) (Z : Nat → Nat → Int) (r c j : Nat) : Int := if (j / 4 < r ∨ j / 4 = r ∧ j % 4 < c) ∧ j % 4 < L (j / 4) then Z (j / 4) (j % 4) else 0
theorem put_start (L : Nat → Nat) (Z : Nat → Nat → Int) (j : Nat) : put L Z 0 0 j = 0 := by
  unfold put; rw [if_neg (by rintro ⟨h | ⟨_, h⟩, _⟩ <;> exact absurd h (Nat.not_lt_zero _))]
theorem put_step (L : Nat → Nat) (Z : Nat → Nat → Int) (r c j : Nat) (hc : c < 4) (hL : c < L r) : (if j = r * 4 + c then Z r c else put L Z r c j) = put L Z r (c + 1) j := by
  by_cases e : j = r * 4 + c
  · have h1 : j / 4 = r := by omega
    have h2 : j % 4 = c := by omega
    unfold put; rw [if_pos e, h1, h2, if_pos ⟨by omega, hL⟩]
  · rw [if_neg e]; unfold put
    generalize hL2 : L (j / 4) = l
    generalize Z (j / 4) (j % 4) = z
    by_cases h : (j / 4 < r ∨ j / 4 = r ∧ j % 4 < c) ∧ j % 4 < l
    · rw [if_pos h, if_pos (by omega)]
    · rw [if_neg h, if_neg (by omega)]
theorem put_next (L : Nat → Nat) (Z : Nat → Nat → Int) (r c j : Nat) (hc : c = 4 ∨ c = L r) : put L Z r c j = put L Z (r + 1) 0 j := by
  unfold put
  by_cases e : j / 4 = r
  · rw [e]
    by_cases h : j % 4 < L r
    · by_cases h2 : (r < r ∨ r = r ∧ j % 4 < c) ∧ j % 4 < L r
      · rw [if_pos h2, if_pos (by omega)]
      · exact absurd ⟨.inr ⟨rfl, by omega⟩, h⟩ h2
    · rw [if_neg (by omega), if_neg (by omega)]
  · generalize L (j / 4) = l
    by_cases h2 : (j / 4 < r ∨ j / 4 = r ∧ j % 4 < c) ∧ j % 4 < l
    · rw [if_pos h2, if_pos (by omega)]
    · rw [if_neg h2, if_neg (by omega)]
theorem put_has (L : Nat → Nat) (Z : Nat → Nat → Int) (n r c : Nat) (hr : r < n) (hc : c < 4) (h : c < L r) : put L Z n 0 (r * 4 + c) = Z r c := by
  have h1 : (r * 4 + c) / 4 = r := by omega
  have h2 : (r * 4 + c) % 4 = c := by omega
  unfold put; rw [h1, h2, if_pos ⟨by omega, h⟩]
theorem put_not (L : Nat → Nat) (Z : Nat → Nat → Int) (n r c : Nat) (hc : c < 4) (h : L r ≤ c) : put L Z n 0 (r * 4 + c) = 0 := by
  have h1 : (r * 4 + c) / 4 = r := by omega
  have h2 : (r * 4 + c) % 4 = c := by omega
  unfold put; rw [h1, h2, if_neg (by omega)]

set_option maxHeartbeats 1000000 in
theorem walk (ao : Option Addr) (len cap : Nat) (L : Nat → Nat) (Z : Nat → Nat → Int) (w : World) (hlen : len ≤ maxLen) (hT : IsRows .i64 w ao len L Z) :
    Calls Try.prog 5 #[.slice ao len cap] w fun e w' => e = .returned (.bool true) ∧ Kept [] w w' := by
  unfold maxLen at hlen
  have HT := hide hT
  clear hT
  obtain ⟨n, hn, hn1, hn2⟩ : ∃ n : Nat, min (len : Int) 10 = n ∧ n ≤ len ∧ n ≤ 10 := ⟨min len 10, by omega, by omega, by omega⟩
  have HN := hide hn
  clear hn
  go_enter Try.func5, Try.ntmps5
  go_wp2_with fail
  rw [HN.out]
  refine (GI.new_ok n 4 (by omega) (by decide)).mono ?_
  rintro e w1 ⟨g, c, rfl, hG, hg, hc, k1⟩
  go_wp2_with fail
  refine (grids_true _).mono ?_
  rintro e w2 ⟨rfl, k2⟩
  have K2 := hide (k1.next k2)
  have G2 := hide (hG.kept k2 (by simp) (by simp))
  clear hG k1 k2
  go_wp2_with fail
  go_loopw [6] (fun i wr => ∃ r : Nat, r ≤ n ∧ i = .int .i64 r ∧ GI.GridAt wr g c n 4 (put L Z r 0) ∧ Kept [] w wr) (fun i _ => n - (intOf i).toNat)
  case atStart => exact ⟨0, by omega, rfl, G2.out.congr (fun i _ => (put_start L Z i).symm), K2.out⟩
  case round =>
    obtain ⟨r, hr, rfl, hG, hK⟩ := hrel
    by_cases hrn : r < n
    · obtain ⟨b, off, A, C, hao, hcell, hLC, hCm, hI⟩ := HT.out r (by omega)
      subst hao
      have hLm : L r ≤ 9223372036854775807 := by unfold maxLen at hCm; omega
      clear hLC hCm
      have RR := hide (And.intro hG hK)
      have HI := hide hI
      have HC := hide hcell
      clear hG hK hI hcell
      go_wp2_with fail
      go_loopw [7] (fun i wi => ∃ k : Nat, k ≤ 4 ∧ k ≤ L r ∧ i = .int .i64 k ∧ GI.GridAt wi g c n 4 (put L Z r k) ∧ Kept [] w wi) (fun i _ => 4 - (intOf i).toNat)
      case atStart => exact ⟨0, by omega, by omega, rfl, RR.out⟩
      case round =>
        obtain ⟨k, hk4, hkL, rfl, hG, hK⟩ := hrel
        have hcr := hK.cell HC.out (by simp)
        rcases (show (k < 4 ∧ k < L r) ∨ (k < 4 ∧ L r ≤ k) ∨ 4 ≤ k from by omega) with ⟨h4, hL⟩ | ⟨h4, hL⟩ | h4
        · obtain ⟨b2, off2, hA, hc2, hwf⟩ := HI.out k hL
          subst hA
          have hc3 := hK.cell hc2 (by simp)
          have RG := hide (And.intro hG hK)
          clear hG hK hc2 hwf
          go_wp2_with fail
          refine (GI.put_at r k rfl rfl (Z r k) (by exact RG.out.1) hrn h4).mono ?_
          rintro e w3 ⟨rfl, hG3, k3⟩
          have R := hide (And.intro (hG3.congr (fun i _ => put_step L Z r k i h4 hL)) (RG.out.2.trans k3 (by intro x hx hl; simp at hx; omega)))
          clear hG3 k3 hcr hc3
          go_wp2
          go_roundw
          case rel => exact ⟨k + 1, by omega, by omega, by go_num, R.out⟩
          case measure => simp [intOf]; omega
        · have R := hide (And.intro (hG.congr (fun i _ => put_next L Z r k i (by omega))) hK)
          clear hG hK
          go_wp2
          go_roundw
          case rel => exact ⟨r + 1, by omega, by go_num, R.out⟩
          case measure => simp [intOf]; omega
        · have R := hide (And.intro (hG.congr (fun i _ => put_next L Z r k i (by omega))) hK)
          clear hG hK
          go_wp2
          go_roundw
          case rel => exact ⟨r + 1, by omega, by go_num, R.out⟩
          case measure => simp [intOf]; omega
    · have e : r = n := by omega
      subst e
      have RR := hide (And.intro hG hK)
      clear hG hK G2 K2
      go_wp2_with fail
      go_loopw [8] (fun i wr => ∃ q : Nat, q ≤ r ∧ i = .int .i64 q ∧ GI.GridAt wr g c r 4 (put L Z r 0) ∧ Kept [] w wr) (fun i _ => r - (intOf i).toNat)
      case atStart => exact ⟨0, by omega, rfl, RR.out⟩
      case round =>
        obtain ⟨q, hq, rfl, hG, hK⟩ := hrel
        by_cases hqr : q < r
        · obtain ⟨b, off, A, C, hao, hcell, hLC, hCm, hI⟩ := HT.out q (by omega)
          subst hao
          have hLm : L q ≤ 9223372036854775807 := by unfold maxLen at hCm; omega
          clear hLC hCm
          have RG := hide (And.intro hG hK)
          have HI := hide hI
          have HC := hide hcell
          clear hG hK hI hcell
          go_wp2_with fail
          refine (GI.row_ok q (by exact RG.out.1) hqr).mono ?_
          rintro e w3 ⟨b1, cap1, h1, rfl, hb1, hc1, hrow1, hf1, k3⟩
          have G3 := RG.out.1.kept k3 (by simp) (by simp)
          have K3 := RG.out.2.next k3
          have hb1w : w.heap.size ≤ b1 := Nat.le_trans RG.out.2.size hb1
          have hb1g : g ≠ b1 := by have := RG.out.1.glt; omega
          have hb1c : c ≠ b1 := by have := RG.out.1.clt; omega
          have R3 := hide (And.intro G3 (And.intro K3 (And.intro hrow1 hf1)))
          clear G3 K3 hrow1 hf1 k3
          go_wp2_with fail
          go_loopw [10] (fun i wi => ∃ k : Nat, k ≤ 4 ∧ i = .int .i64 k ∧ GI.GridAt wi g c r 4 (put L Z r 0) ∧ Kept [] w wi ∧ ∃ h, wi.rowIs b1 3 cap1 h ∧ ∀ j, j < 4 → ∃ x, h j = .int .i64 x) (fun i _ => 4 - (intOf i).toNat)
          case atStart => exact ⟨0, by omega, rfl, R3.out.1, R3.out.2.1, h1, R3.out.2.2.1, fun j hj => ⟨_, R3.out.2.2.2 j hj⟩⟩
          case round =>
            obtain ⟨k, hk, rfl, hG, hK, h, hrow, hx⟩ := hrel
            by_cases hk4 : k < 4
            · obtain ⟨x, hxk⟩ := hx k hk4
              have hcl := hrow.cell (i := k) (by omega)
              rw [hxk] at hcl
              have hfr := hrow.frozen k
              have hnext : ∀ (v : Int), GI.GridAt (wr.setCell ⟨b1, k, none⟩ (.int .i64 v)) g c r 4 (put L Z r 0) ∧ Kept [] w (wr.setCell ⟨b1, k, none⟩ (.int .i64 v)) ∧ ∃ h, (wr.setCell ⟨b1, k, none⟩ (.int .i64 v)).rowIs b1 3 cap1 h ∧ ∀ j, j < 4 → ∃ x, h j = .int .i64 x := by
                intro v
                have k1 : Kept [b1] wr (wr.setCell ⟨b1, k, none⟩ (.int .i64 v)) := (Kept.refl _ _).setCell (fun _ => by simp) _
                refine ⟨hG.kept k1 (by simpa using hb1g) (by simpa using hb1c), hK.trans k1 (by intro y hy hl; simp at hy; omega), _, hrow.set k (.int .i64 v), fun j hj => ?_⟩
                by_cases e : j = k
                · exact ⟨v, by simp [e]⟩
                · obtain ⟨y, hy⟩ := hx j hj
                  exact ⟨y, by simp [e, hy]⟩
              have NX := hide hnext
              clear hnext hG hK hrow hx hxk
              go_wp2
              go_roundw
              case rel => exact ⟨k + 1, by omega, by go_num, NX.out _⟩
              case measure => simp [intOf]; omega
            · have RG := hide (And.intro hG hK)
              clear hG hK hrow hx
              go_wp2_with fail
              refine (GI.row_ok q (by exact RG.out.1) hqr).mono ?_
              rintro e w4 ⟨b2, cap2, h2, rfl, hb2, hc2, hrow2, hf2, k4⟩
              have R4 := hide (And.intro (RG.out.1.kept k4 (by simp) (by simp)) (And.intro (RG.out.2.next k4) (And.intro hrow2 hf2)))
              clear hrow2 hf2 k4
              go_wp2_with fail
              go_loopw [12] (fun i wj => ∃ k : Nat, k ≤ 4 ∧ i = .int .i64 k ∧ GI.GridAt wj g c r 4 (put L Z r 0) ∧ Kept [] w wj ∧ wj.rowIs b2 3 cap2 h2) (fun i _ => 4 - (intOf i).toNat)
              case atStart => exact ⟨0, by omega, rfl, R4.out.1, R4.out.2.1, R4.out.2.2.1⟩
              case round =>
                obtain ⟨j, hj, rfl, hG, hK, hrow⟩ := hrel
                by_cases hj4 : j < 4
                · have hcl := hrow.cell (i := j) (by omega)
                  rw [R4.out.2.2.2 j hj4] at hcl
                  have hcr := hK.cell HC.out (by simp)
                  have RG := hide (And.intro hG (And.intro hK hrow))
                  by_cases hL : j < L q
                  · obtain ⟨b5, off5, hA, hc5, hwf⟩ := HI.out j hL
                    subst hA
                    have hc6 := hK.cell hc5 (by simp)
                    rw [put_has L Z r q j hqr hj4 hL] at hcl
                    clear hG hK hrow hc5 hwf
                    go_wp2
                    go_roundw
                    case rel => exact ⟨j + 1, by omega, by go_num, RG.out⟩
                    case measure => simp [intOf]; omega
                  · rw [put_not L Z r q j hj4 (by omega)] at hcl
                    clear hG hK hrow
                    go_wp2
                    go_roundw
                    case rel => exact ⟨j + 1, by omega, by go_num, RG.out⟩
                    case measure => simp [intOf]; omega
                · have RG := hide (And.intro hG hK)
                  clear hG hK hrow
                  go_wp2
                  go_roundw
                  case rel => exact ⟨q + 1, by omega, by go_num, RG.out⟩
                  case measure => simp [intOf]; omega
        · go_wp2
          go_ret
          exact ⟨rfl, hK⟩

theorem own : ownKnob Try.prog.godebug = none := by kernel_rfl
theorem laidOut : laidOutB Try.prog = true := by kernel_rfl

set_option maxRecDepth 100000 in
theorem lifted (os : Os) (started : os.Started) (H : Type) (enc : TypeId × Value → H) :
    ReturnsInHanded {} Try.checked os 5 .any (Rows.gridRowsSpec.pre6 enc Try.prog Try.f5 Rows.gridRowsRow.domain false) (Rows.gridRowsSpec.post enc Try.prog Try.f5 false true false false) := by
  refine returnsInHanded_of_change (C := Try.checked) own started (by kernel_rfl) Try.func5
    (ChangeSpec.witness6 (enc := enc) (C := Try.checked) false ⟨#[], #[.slice none 0 0], []⟩ 8 (by kernel_rfl) (by kernel_rfl) (by kernel_rfl) (by kernel_rfl)) ?_
  intro W base args ds gs before hval0 hW hcnd _
  have hval : ∀ (j : Nat) t v, Try.f5.params[j]? = some t → args[j]? = some v → Value.okWide Try.prog W .any base t v := hval0
  have hW' := hW
  obtain ⟨p, q, hA0, hV, rfl, hfz, hnd⟩ := hW
  have hA : DataW.TrodAll enc Try.prog W 0 (fun _ => true) true Try.f5.params.toList args.toList ds p := hA0
  have hK := hA
  rw [Try.params5] at hA hval
  obtain ⟨v0, vs0, d0, ds0, p0, q0, hargs, rfl, rfl, h0, r0⟩ := trodAll_cons hA
  obtain ⟨rfl, rfl, rfl⟩ := trodAll_nil r0
  obtain rfl : args = #[v0] := by cases args; simp_all
  obtain ⟨rfl, rfl⟩ := trodVars_none hV
  obtain ⟨a0, len0, cap0, L, Z, rfl, hlen, hcap, hT⟩ := open_rows Try.underlying54 Try.underlying31 Try.underlying3 (by kernel_rfl) (by kernel_rfl) (okWide_slice Try.underlying54 (hval 0 54 v0 rfl rfl)) h0
  clear hA0 hval0
  refine (walk a0 len0 cap0 L Z W (Nat.le_trans hlen hcap) hT).mono fun e W' ⟨he, hk⟩ => ?_
  subst he
  exact ⟨_, rfl, _, _, _, [], _, [], hW', trodAll_mk1 (shut_bool Try.underlying4 _), trodAll_below laidOut hk.below _ _ _ _ hK (by kernel_rfl), rfl, hk.below.frame _, fun h => by cases h⟩

theorem said : Rows.GridRowsSaid :=
  OpenClaim.holds_of_wide 5 Try.f5 rfl rfl rfl rfl rfl rfl rfl ⟨rfl, rfl, rfl, rfl, rfl⟩ rfl rfl rfl rfl rfl (by kernel_rfl) Try.func5 (by kernel_rfl)
    (of_decide_eq_true (by kernel_rfl)) (by unfold Func.isWrapper; first | (rw [if_pos (by decide +kernel)]; kernel_rfl) | (rw [if_neg (by decide +kernel)]; exact ⟨rfl, rfl⟩))
    (fun os started H enc _ => lifted os started H enc)
end Go.Proofs.Ytjcghcibligioab.rows
