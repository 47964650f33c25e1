/-
  GridTexts: for every list of texts, every row and every column, the law answers true, and its arguments read behind the call as before. No condition.
-/
import Derived.Test.YtjcghcibligioabGrids
import Derived.Test.YtjcghcibligioabGridS
import Derived.Test.YtjcghcibligioabLift
namespace Go.Proofs.Ytjcghcibligioab.texts
open Go.ChangeShapes Go.WideShapes Go.ChangeAt Go.RowKit

def txt (ss : Nat → ByteArray) (k j : Nat) : ByteArray := if j < k then ss j else ByteArray.empty
theorem txt_step (ss : Nat → ByteArray) (k j : Nat) : (if j = k / 4 * 4 + k % 4 then ss k else txt ss k j) = txt ss (k + 1) j := by
  unfold txt
  by_cases e : j = k / 4 * 4 + k % 4
  · rw [if_pos e, if_pos (by omega)]; congr 1; omega
  · rw [if_neg e]
    by_cases h : j < k
    · rw [if_pos h, if_pos (by omega)]
    · rw [if_neg h, if_neg (by omega)]

def here : ByteArray := ⟨#[104, 101, 114, 101]⟩
def fin (ss : Nat → ByteArray) (len p j : Nat) : ByteArray := if j = p then here else txt ss len j
theorem fin_at (ss : Nat → ByteArray) (len p j : Nat) : fin ss len p (j / 4 * 4 + j % 4) = fin ss len p j := by congr 1; omega
theorem fin_here (ss : Nat → ByteArray) (len p j : Nat) (h1 : j ≤ p) (h2 : p ≤ j) : fin ss len p j = ⟨#[104, 101, 114, 101]⟩ := by unfold fin; rw [if_pos (by omega)]; rfl
theorem fin_text (ss : Nat → ByteArray) (len p j : Nat) (h : j < p ∨ p < j) (hl : j < len) : fin ss len p j = ss j := by unfold fin txt; rw [if_neg (by omega), if_pos hl]
theorem fin_none (ss : Nat → ByteArray) (len p j : Nat) (h : j < p ∨ p < j) (hl : len ≤ j) : fin ss len p j = ⟨#[]⟩ := by unfold fin txt; rw [if_neg (by omega), if_neg (by omega)]; rfl
set_option maxHeartbeats 1000000 in
theorem texts_walk (ao : Option Addr) (len cap : Nat) (ss : Nat → ByteArray) (row col : Int) (w : World) (hlen : len ≤ maxLen)
    (hT : IsTexts w ao len ss) :
    Calls Try.prog 4 #[.slice ao len cap, .int .i64 row, .int .i64 col] w fun e w' => e = .returned (.bool true) ∧ Kept [] w w' := by
  unfold maxLen at hlen
  have HT := hide hT
  clear hT
  go_enter Try.func4, Try.ntmps4
  go_wp2_with fail
  refine (GS.new_ok 5 4 (by decide) (by decide)).mono ?_
  rintro e w1 ⟨g, c, rfl, hG, hg, hc, k1⟩
  go_wp2_with fail
  refine (grids_true _).mono ?_
  rintro e w2 ⟨rfl, k2⟩
  have K2 := hide (k1.next k2)
  have G2 := hide (hG.kept k2 (by simp) (by simp))
  clear hG k1 k2
  go_wp2_with fail
  go_loopw [9] (fun i wr => ∃ k : Nat, k ≤ len ∧ k ≤ 20 ∧ i = .int .i64 k ∧ GS.GridAt wr g c 5 4 (txt ss k) ∧ Kept [] w wr) (fun i _ => 20 - (intOf i).toNat)
  case atStart => exact ⟨0, by omega, by omega, rfl, G2.out.congr (fun i _ => by simp [txt]), K2.out⟩
  case round =>
    obtain ⟨k, hk, hk20, rfl, hG, hK⟩ := hrel
    by_cases hlt : k < len ∧ k < 20
    · obtain ⟨hkl, hk2⟩ := hlt
      obtain ⟨b, off, hao, hcell, _⟩ := HT.out k hkl
      subst hao
      have hcr := hK.cell hcell (by simp)
      have hG := hide hG
      have hKh := hide hK
      clear hcell hK
      go_wp2_with fail
      refine (GS.put_at (k / 4) (k % 4) (by omega) (by omega) (ss k) (by exact hG.out) (by omega) (by omega)).mono ?_
      rintro e w3 ⟨rfl, hG3, k3⟩
      have R := hide (And.intro (hG3.congr (fun i _ => txt_step ss k i)) (hKh.out.trans k3 (by intro x hx hl; simp at hx; omega)))
      clear hG3 k3 hcr
      go_wp2
      go_roundw
      case rel => exact ⟨k + 1, by omega, by omega, by go_num, R.out.1, R.out.2⟩
      case measure => simp [intOf]; omega
    · have hfin : GS.GridAt wr g c 5 4 (txt ss len) := hG.congr (fun i hi => by unfold txt; by_cases h1 : i < k <;> by_cases h2 : i < len <;> simp [h1, h2] <;> omega)
      have hG := hide hfin
      have hKh := hide hK
      clear hK hfin
      obtain ⟨r, hr, er⟩ := mod_small row 5 (by decide) (by decide)
      obtain ⟨q, hq, eq⟩ := mod_small col 4 (by decide) (by decide)
      have ER := hide er
      have EQ := hide eq
      clear er eq
      rcases (show (k < 20 ∧ len ≤ k) ∨ (20 ≤ k ∧ k < len) ∨ (20 ≤ k ∧ len ≤ k) from by omega) with ⟨h20, hle⟩ | ⟨h20, hle⟩ | ⟨h20, hle⟩
      all_goals
        go_wp2_with fail
        rw [ER.out, EQ.out]
        refine (GS.put_at r q rfl rfl _ (by exact hG.out) (by omega) (by omega)).mono ?_
        rintro e w3 ⟨rfl, hG3, k3⟩
        have K3 := hide (hKh.out.trans k3 (by intro x hx hl; simp at hx; omega))
        have G3 := hide hG3
        clear hG3 k3
        go_wp2_with fail
        go_loopw [12] (fun i wr => ∃ k : Nat, k ≤ 20 ∧ i = .int .i64 k ∧ GS.GridAt wr g c 5 4 (fin ss len (r * 4 + q)) ∧ Kept [] w wr) (fun i _ => 20 - (intOf i).toNat)
        case atStart => exact ⟨0, by omega, rfl, G3.out, K3.out⟩
        case round =>
          obtain ⟨j, hj, rfl, hGj, hKj⟩ := hrel
          by_cases hj20 : j < 20
          · have R := hide (And.intro hGj hKj)
            have hre : ∀ wx, wx = wr.drew → GS.GridAt wx g c 5 4 (fin ss len (r * 4 + q)) ∧ Kept [] w wx := by
              rintro _ rfl; exact ⟨hGj.kept (Kept.refl [] _).drew (by simp) (by simp), hKj.drew⟩
            have RE := hide hre
            clear hre
            by_cases hjl : j < len
            · obtain ⟨b, off, hao, hcell, _⟩ := HT.out j hjl
              subst hao
              have hcr := hKj.cell hcell (by simp)
              clear hcell hGj hKj
              rcases (show (j ≤ r * 4 + q ∧ r * 4 + q ≤ j) ∨ j < r * 4 + q ∨ r * 4 + q < j from by omega) with ⟨ha, hb⟩ | ha | ha
              · have E := hide (fin_here ss len (r * 4 + q) j ha hb)
                go_wp2_with fail
                refine (GS.at_at (j / 4) (j % 4) (by omega) (by omega) (by exact R.out.1) (by omega) (by omega)).mono ?_
                rintro e w4 ⟨rfl, rfl⟩
                rw [fin_at, E.out]
                go_wp2
                go_roundw
                case rel => exact ⟨j + 1, by omega, by go_num, RE.out _ rfl⟩
                case measure => simp [intOf]; omega
              all_goals
                have E := hide (fin_text ss len (r * 4 + q) j (by omega) hjl)
                go_wp2_with fail
                refine (GS.at_at (j / 4) (j % 4) (by omega) (by omega) (by exact R.out.1) (by omega) (by omega)).mono ?_
                rintro e w4 ⟨rfl, rfl⟩
                rw [fin_at, E.out]
                go_wp2
                go_roundw
                case rel => exact ⟨j + 1, by omega, by go_num, RE.out _ rfl⟩
                case measure => simp [intOf]; omega
            · first | exact absurd (show j < len by omega) hjl | skip
              all_goals
                clear hGj hKj
                rcases (show (j ≤ r * 4 + q ∧ r * 4 + q ≤ j) ∨ j < r * 4 + q ∨ r * 4 + q < j from by omega) with ⟨ha, hb⟩ | ha | ha
                · have E := hide (fin_here ss len (r * 4 + q) j ha hb)
                  go_wp2_with fail
                  refine (GS.at_at (j / 4) (j % 4) (by omega) (by omega) (by exact R.out.1) (by omega) (by omega)).mono ?_
                  rintro e w4 ⟨rfl, rfl⟩
                  rw [fin_at, E.out]
                  go_wp2
                  go_roundw
                  case rel => exact ⟨j + 1, by omega, by go_num, RE.out _ rfl⟩
                  case measure => simp [intOf]; omega
                all_goals
                  have E := hide (fin_none ss len (r * 4 + q) j (by omega) (by omega))
                  go_wp2_with fail
                  refine (GS.at_at (j / 4) (j % 4) (by omega) (by omega) (by exact R.out.1) (by omega) (by omega)).mono ?_
                  rintro e w4 ⟨rfl, rfl⟩
                  rw [fin_at, E.out]
                  go_wp2
                  go_roundw
                  case rel => exact ⟨j + 1, by omega, by go_num, RE.out _ rfl⟩
                  case measure => simp [intOf]; omega
          · go_wp2
            go_ret
            exact ⟨rfl, hKj⟩

theorem own : ownKnob Try.prog.godebug = none := by kernel_rfl
theorem laidOut : laidOutB Try.prog = true := by kernel_rfl

set_option maxRecDepth 100000 in
theorem lifted (os : Os) (started : os.Started) (H : Type) (enc : TypeId × Value → H) :
    ReturnsInHanded {} Try.checked os 4 .any (Rows.gridTextsSpec.pre6 enc Try.prog Try.f4 Rows.gridTextsRow.domain false) (Rows.gridTextsSpec.post enc Try.prog Try.f4 false true false false) := by
  refine returnsInHanded_of_change (C := Try.checked) own started (by kernel_rfl) Try.func4
    (ChangeSpec.witness6 (enc := enc) (C := Try.checked) false ⟨#[], #[.slice none 0 0, .int .i64 0, .int .i64 0], []⟩ 8 (by kernel_rfl) (by kernel_rfl) (by kernel_rfl) (by kernel_rfl)) ?_
  intro W base args ds gs before hval0 hW hcnd _
  have hval : ∀ (j : Nat) t v, Try.f4.params[j]? = some t → args[j]? = some v → Value.okWide Try.prog W .any base t v := hval0
  have hW' := hW
  obtain ⟨p, q, hA0, hV, rfl, hfz, hnd⟩ := hW
  have hA : DataW.TrodAll enc Try.prog W 0 (fun _ => true) true Try.f4.params.toList args.toList ds p := hA0
  have hK := hA
  rw [Try.params4] at hA hval
  obtain ⟨v0, vs0, d0, ds0, p0, q0, hargs, rfl, rfl, h0, r0⟩ := trodAll_cons hA
  obtain ⟨v1, vs1, d1, ds1, p1, q1, rfl, rfl, rfl, h1, r1⟩ := trodAll_cons r0
  obtain ⟨v2, vs2, d2, ds2, p2, q2, rfl, rfl, rfl, h2, r2⟩ := trodAll_cons r1
  obtain ⟨rfl, rfl, rfl⟩ := trodAll_nil r2
  obtain rfl : args = #[v0, v1, v2] := by cases args; simp_all
  obtain ⟨rfl, rfl⟩ := trodVars_none hV
  obtain ⟨a0, len0, cap0, ss, rfl, hlen, hT⟩ := open_texts Try.underlying45 Try.underlying9 (by kernel_rfl) (okWide_slice Try.underlying45 (hval 0 45 v0 rfl rfl)) h0
  obtain ⟨row, rfl, rfl, rfl, w1⟩ := open_int Try.underlying3 (hval 1 3 v1 rfl rfl) h1
  obtain ⟨col, rfl, rfl, rfl, w2⟩ := open_int Try.underlying3 (hval 2 3 v2 rfl rfl) h2
  clear hA0 hval0
  refine (texts_walk a0 len0 cap0 ss row col W hlen hT).mono fun e W' ⟨he, hk⟩ => ?_
  subst he
  exact ⟨_, rfl, _, _, _, [], _, [], hW', trodAll_mk1 (shut_bool Try.underlying4 _), trodAll_below laidOut hk.below _ _ _ _ hK (by kernel_rfl), rfl, hk.below.frame _, fun h => by cases h⟩

theorem said : Rows.GridTextsSaid :=
  OpenClaim.holds_of_wide 4 Try.f4 rfl rfl rfl rfl rfl rfl rfl ⟨rfl, rfl, rfl, rfl, rfl⟩ rfl rfl rfl rfl rfl (by kernel_rfl) Try.func4 (by kernel_rfl)
    (of_decide_eq_true (by kernel_rfl)) (by unfold Func.isWrapper; first | (rw [if_pos (by decide +kernel)]; kernel_rfl) | (rw [if_neg (by decide +kernel)]; exact ⟨rfl, rfl⟩))
    (fun os started H enc _ => lifted os started H enc)
end Go.Proofs.Ytjcghcibligioab.texts
