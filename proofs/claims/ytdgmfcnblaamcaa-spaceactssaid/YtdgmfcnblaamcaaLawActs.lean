/-
  SpaceActs answers true at every row of acts: a space answers what the document's space answers, call by call, and of none nothing is told; no condition.
-/
import Derived.Test.YtdgmfcnblaamcaaSpc22
import Derived.Test.YtdgmfcnblaamcaaRows
namespace Go.Proofs.Ytdgmfcnblaamcaa.LA
open Go.ChangeShapes Go.WideShapes Go.ChangeAt Go.RowKit Sc
set_option maxRecDepth 20000 in
set_option maxHeartbeats 8000000 in
theorem walk {ao : Option Addr} {len cap : Nat} {w : World} (_hl : len ≤ maxLen) (hA : IsActs w ao len) : Calls Try.prog 3 #[.slice ao len cap] w fun e w' => e = .returned (.bool true) ∧ Kept [] w w' := by
  unfold maxLen at _hl
  have HA := hide hA
  clear hA
  go_enter Try.func3, Try.ntmps3
  go_wp2_with (first | (go_at_call 6; refine (none_ok _).mono ?_; rintro e w' ⟨rfl, hw⟩; subst w') | (go_at_call 7; refine (take_nil _ _).mono ?_; rintro e w' ⟨rfl, hw⟩; subst w') | (go_at_call 8; refine (give_nil _ _).mono ?_; rintro e w' ⟨rfl, hw⟩; subst w') | (go_at_call 9; refine (of_nil _ _).mono ?_; rintro e w' ⟨rfl, hw⟩; subst w'))
  refine (spaces_true w).mono ?_
  rintro e w2 ⟨rfl, hk2⟩
  have K2 := hide hk2
  clear hk2
  go_wp2_with (first | (go_at_call 6; refine (none_ok _).mono ?_; rintro e w' ⟨rfl, hw⟩; subst w') | (go_at_call 11; refine (runs_nil _).mono ?_; rintro e w' ⟨rfl, hw⟩; subst w') | (go_at_call 12; refine (free_nil _).mono ?_; rintro e w' ⟨rfl, hw⟩; subst w'))
  refine (new_ok w2).mono ?_
  rintro e w3 ⟨rfl, hw⟩
  have S3 := hide (show SB w w3 w2.heap.size [w2.heap.size] 0 (fun _ => 0) (fun _ => 0) from hw ▸ SB.new w w2 K2.out _ _)
  obtain ⟨r, hr⟩ : ∃ r, r = w2.heap.size := ⟨_, rfl⟩
  rw [← hr] at S3
  rw [← hr]
  have hrl : w3.heap.size = r + 1 := by rw [hw, hr]; simp
  have HRL := hide hrl
  clear hw hr K2 hrl
  go_wp2_with fail
  have S4 := hide (show SE w (w3.alloc (Obj.cells #[Value.slice none 0 0] 37)) r w3.heap.size 0 (fun _ => 0) (fun _ => 0) 0 (fun _ => 0) (fun _ => 0) from by
    have hb : (w3.alloc (.cells #[.slice none 0 0] 37)).heap[w3.heap.size]? = some (.cells #[.slice none 0 0] 37) := Array.getElem?_push_size
    have K := (Kept.refl [] w3).alloc (.cells #[.slice none 0 0] 37)
    refine ⟨[r], w.heap.size, .slice none 0 0, S3.out.next K, ⟨blk_cell hb 0 rfl, ⟨fun _ => .slice none 0 0, #[.slice none 0 0], hb, rfl, fun i hi => ?_⟩, World.ownsRow_nil _ _ _ _, fun i hi => by omega, (fun h => by cases h)⟩, S3.out.kept.size, Nat.le_refl _, fun hm => ?_, (fun b h => by cases h)⟩
    · obtain rfl : i = 0 := by omega
      rfl
    · have := HRL.out; simp at hm; omega)
  clear S3 HRL
  generalize w3.alloc (Obj.cells #[Value.slice none 0 0] 37) = w4 at S4 ⊢
  generalize w3.heap.size = q at S4 ⊢
  go_loopw [12] (fun v wr => ∃ (k n : Nat) (F C : Nat → Nat), k ≤ len ∧ k ≤ 60 ∧ v = .int .i64 k ∧ SE w wr r q n F C n F C) (fun v _ => 60 - (intOf v).toNat)
  case atStart => exact ⟨0, 0, _, _, Nat.zero_le _, Nat.zero_le _, rfl, S4.out⟩
  case round =>
    clear S4
    obtain ⟨k, n, F, C, hk1, hk60, rfl, hS⟩ := hrel
    have SS := hide hS
    clear hS
    by_cases hi : k < len ∧ k < 60
    · obtain ⟨b, off, x, y, rfl, c0, c1, hy⟩ := (HA.out.kept SS.out.kept) k hi.1
      have hi1 : (k : Int) < len := by omega
      have hi2 : (k : Int) < 60 := by omega
      have hk0 : (0 : Int) ≤ (k : Int) := by omega
      obtain ⟨t, ht, hmod⟩ := mod_small x 5 (by decide) (by decide)
      have HM := hide hmod
      clear hmod
      have HY := hide hy
      clear hy
      rcases (show t = 0 ∨ t = 1 ∨ t = 2 ∨ t = 3 ∨ t = 4 by omega) with rfl | rfl | rfl | rfl | rfl
      case inl | inr.inl =>
        all_goals
          obtain ⟨xr, gr, hP⟩ := SS.out.takes y
          have P := hide hP
          clear hP
          have hmod := HM.out
          go_wp2_with fail
          clear hmod c0 c1
          refine P.out.mono ?_
          rintro e w5 ⟨rfl, hk5, hQ⟩
          have Q := hide hQ
          clear hQ P
          go_wp2_with fail
          refine (Q.out w5 (Kept.refl _ _)).mono ?_
          rintro e w6 ⟨rfl, n2, F2, C2, hS6⟩
          have S6 := hide hS6
          clear hS6 Q hk5
          have hxx : (xr != xr) = false := by simp
          have hgg : (gr != gr) = false := by simp
          go_wp2_with fail
          go_roundw
          case rel => exact ⟨k + 1, n2, F2, C2, by omega, by omega, by go_num, S6.out⟩
          case measure => simp [intOf]; omega
      case inr.inr.inr.inl =>
          obtain ⟨xr, gr, hP⟩ := SS.out.gives y
          have P := hide hP
          clear hP
          have hmod := HM.out
          go_wp2_with fail
          clear hmod c0 c1
          refine P.out.mono ?_
          rintro e w5 ⟨rfl, hk5, hQ⟩
          have Q := hide hQ
          clear hQ P
          go_wp2_with fail
          refine (Q.out w5 (Kept.refl _ _)).mono ?_
          rintro e w6 ⟨rfl, n2, F2, C2, hS6⟩
          have S6 := hide hS6
          clear hS6 Q hk5
          have hxx : (xr != xr) = false := by simp
          have hgg : (gr != gr) = false := by simp
          go_wp2_with fail
          go_roundw
          case rel => exact ⟨k + 1, n2, F2, C2, by omega, by omega, by go_num, S6.out⟩
          case measure => simp [intOf]; omega
      case inr.inr.inr.inr =>
          obtain ⟨ar, br, tr, hP⟩ := SS.out.ofs (page := y) HY.out
          have P := hide hP
          clear hP
          have hmod := HM.out
          go_wp2_with fail
          clear hmod c0 c1
          refine P.out.mono ?_
          rintro e w5 ⟨rfl, hS5, hQ⟩
          have Q := hide hQ
          clear hQ P
          go_wp2_with fail
          refine (Q.out w5 (Kept.refl _ _)).mono ?_
          rintro e w6 ⟨rfl, hS6⟩
          have S6 := hide hS6
          clear hS6 Q hS5
          have hxx : (ar != ar) = false := by simp
          have hgg : (br != br) = false := by simp
          have htt : (tr != tr) = false := by simp
          go_wp2_with fail
          go_roundw
          case rel => exact ⟨k + 1, n, F, C, by omega, by omega, by go_num, S6.out⟩
          case measure => simp [intOf]; omega
      case inr.inr.inl =>
          have hc9 : ∃ ao9 cap9, wr.cell? ⟨q, 0, none⟩ = some (.slice ao9 n cap9) ∧ n ≤ 4095 ∧ ∀ j, j < n → ∃ g, ao9 = some ⟨g, 0, none⟩ ∧ wr.cell? ⟨g, j * 2, none⟩ = some (.int .i64 (F j)) := by
            obtain ⟨B, base, v, hD⟩ := SS.out
            obtain ⟨ao9, cap9, rfl, -, -, hcl⟩ := hD.rq.form
            refine ⟨ao9, cap9, hD.rq.c, hD.rq.ap.le, fun j hj => ?_⟩
            obtain ⟨g, e, h9, -⟩ := hcl j hj
            exact ⟨g, e, h9⟩
          obtain ⟨ao9, cap9, cq, hn9, hcl⟩ := hc9
          by_cases hn0 : n = 0
          · subst hn0
            obtain ⟨xr, gr, hP⟩ := SS.out.gives y
            have P := hide hP
            clear hP hcl
            have hmod := HM.out
            go_wp2_with fail
            clear hmod c0 c1 cq
            refine P.out.mono ?_
            rintro e w5 ⟨rfl, hk5, hQ⟩
            have Q := hide hQ
            clear hQ P
            go_wp2_with fail
            refine (Q.out w5 (Kept.refl _ _)).mono ?_
            rintro e w6 ⟨rfl, n2, F2, C2, hS6⟩
            have S6 := hide hS6
            clear hS6 Q hk5
            have hxx : (xr != xr) = false := by simp
            have hgg : (gr != gr) = false := by simp
            go_wp2_with fail
            go_roundw
            case rel => exact ⟨k + 1, n2, F2, C2, by omega, by omega, by go_num, S6.out⟩
            case measure => simp [intOf]; omega
          · have hnp : (0 : Int) < (n : Int) := by omega
            obtain ⟨j, hj, hjE⟩ := mod_small y n (by omega) (by omega)
            have HJ := hide hjE
            clear hjE
            obtain ⟨g, rfl, cg⟩ := hcl j (by omega)
            obtain ⟨xr, gr, hP⟩ := (SS.out.next ((Kept.refl [] wr).drew)).gives (F j)
            have P := hide hP
            have hj0 : (0 : Int) ≤ (j : Int) := by omega
            clear hP hcl
            generalize F j = fj at P cg
            have hjm := HJ.out
            have hmod := HM.out
            go_wp2_with fail
            go_big_region
            go_wp2_with fail
            clear hmod hjm c0 c1 cq cg
            refine P.out.mono ?_
            rintro e w5 ⟨rfl, hk5, hQ⟩
            have Q := hide hQ
            clear hQ P
            go_wp2_with fail
            refine (Q.out w5 (Kept.refl _ _)).mono ?_
            rintro e w6 ⟨rfl, n2, F2, C2, hS6⟩
            have S6 := hide hS6
            clear hS6 Q hk5
            have hxx : (xr != xr) = false := by simp
            have hgg : (gr != gr) = false := by simp
            go_wp2_with fail
            go_roundw
            case rel => exact ⟨k + 1, n2, F2, C2, by omega, by omega, by go_num, S6.out⟩
            case measure => simp [intOf]; omega
    · have hnn : ¬ ((k : Int) < len ∧ (k : Int) < 60) := by omega
      by_cases hil2 : (k : Int) < len
      all_goals
        first | (have hi40n : ¬ ((k : Int) < 60) := by omega) | skip
        clear hnn
        go_wp2_with fail
        obtain ⟨B, base, v, hD⟩ := SS.out
        obtain ⟨ao9, cap9, rfl, hle9, hcm9, hcl9⟩ := hD.rq.form
        refine hD.sb.sq.runs.mono ?_
        rintro e w5 ⟨v5, rfl, hk5, ho5⟩
        obtain ⟨a5, cap5, rfl, hm5, hc5⟩ := own_form ho5
        have D5 := hide ((⟨hD.sb.next hk5, hD.rq.next hk5, hD.hq, hD.hb, hD.qB, hD.vB⟩ : SD w w5 r q B base (.slice ao9 n cap9) n F C n F C))
        have hcL := hide (show ∀ i, i < n → ∃ g, a5 = some ⟨g, 0, none⟩ ∧ w5.cell? ⟨g, i, none⟩ = some (.int .i64 (F i)) from fun i hi => by
          obtain ⟨g, e, -, h9⟩ := hc5 i (ivn (F i)) (by simp [hi])
          exact ⟨g, e, h9⟩)
        have hcR := hide (show ∀ i, i < n → ∃ g, ao9 = some ⟨g, 0, none⟩ ∧ w5.cell? ⟨g, i * 2, none⟩ = some (.int .i64 (F i)) ∧ w5.cell? ⟨g, i * 2 + 1, none⟩ = some (.int .i64 (C i)) from fun i hi => by
          obtain ⟨g, e, h8, h9⟩ := hcl9 i hi
          exact ⟨g, e, hk5.cell h8 (by simp), hk5.cell h9 (by simp)⟩)
        have cq := D5.out.rq.c
        have hn9 := D5.out.rq.ap.le
        clear SS hD hk5 ho5 hc5 hcl9 hm5
        have hnn0 : ∀ x : Int, (x != x) = false := fun x => by simp
        go_wp2_with fail
        go_loopw [25, 26] (fun fv v w6 => ∃ j : Nat, j ≤ n ∧ v = .int .i64 j ∧ fv = .int .i64 (4095 - sumC C j : Nat) ∧ Kept [] w5 w6) (fun _ v _ => n - (intOf v).toNat)
        case atStart => exact ⟨0, Nat.zero_le _, rfl, rfl, Kept.refl _ _⟩
        case round =>
          obtain ⟨j, hj, rfl, rfl, hKj⟩ := hrel
          have K := hide hKj
          have cq6 := hKj.cell cq (by simp)
          have hsj := D5.out.sb.sq.ap.few j hj
          by_cases hjn : j < n
          · have hji : (j : Int) < (n : Int) := by omega
            have hj0 : (0 : Int) ≤ (j : Int) := by omega
            obtain ⟨g, rfl, e1⟩ := hcL.out j hjn
            obtain ⟨g', rfl, e2, e3⟩ := hcR.out j hjn
            have e1 := hKj.cell e1 (by simp)
            have e2 := hKj.cell e2 (by simp)
            have e3 := hKj.cell e3 (by simp)
            have hsk := D5.out.sb.sq.ap.few (j + 1) (by omega)
            have hnx : sumC C (j + 1) = sumC C j + C j := rfl
            rw [hnx] at hsk
            have HX := hide hnx
            generalize F j = f at e1 e2
            generalize C j = cc at e3 hsk HX
            obtain ⟨sj, hs⟩ : ∃ s, s = sumC C j := ⟨_, rfl⟩
            rw [← hs] at hsk hsj HX
            rw [← hs]
            have hff : ((f : Int) != (f : Int)) = false := by simp
            have hw1 : IntKind.i64.wrap (((4095 - sj : Nat) : Int) - (cc : Int)) = ((4095 - (sj + cc) : Nat) : Int) := by rw [wrap_small _ (by omega) (by omega)]; omega
            clear hs hKj hnx hcL hcR
            go_wp2_with fail
            go_big_region
            go_wp2_with fail
            go_roundw
            case rel => exact ⟨j + 1, by omega, by go_num, by rw [HX.out], by first | exact K.out | exact K.out.drewN _⟩
            case measure => simp [intOf]; omega
          · have e : j = n := by omega
            subst e
            have hji : ¬ (j : Int) < (j : Int) := by omega
            clear hKj hcL hcR
            go_wp2_with fail
            refine ((D5.out.sb.sq.kept0 K.out).free).mono ?_
            rintro e w9 ⟨rfl, hk9⟩
            have K9 := hide ((D5.out.sb.kept.next K.out).next hk9)
            clear hk9 D5 K
            go_wp2_with fail
            go_ret
            exact ⟨by simp, K9.out⟩

theorem own : ownKnob Try.prog.godebug = none := by kernel_rfl
theorem laidOut : laidOutB Try.prog = true := by kernel_rfl

set_option maxRecDepth 100000 in
theorem lifted (os : Os) (started : os.Started) (H : Type) (enc : TypeId × Value → H) :
    ReturnsInHanded {} Try.checked os 3 .any (Rows.spaceActsSpec.pre6 enc Try.prog Try.f3 Rows.spaceActsRow.domain false) (Rows.spaceActsSpec.post enc Try.prog Try.f3 false true false false) := by
  refine returnsInHanded_of_change (C := Try.checked) own started (by kernel_rfl) Try.func3
    (ChangeSpec.witness6 (enc := enc) (C := Try.checked) false ⟨#[], #[.slice none 0 0], []⟩ 8 (by kernel_rfl) (by kernel_rfl) (by kernel_rfl) (by kernel_rfl)) ?_
  intro W base args ds gs before hval0 hW hcnd _
  have hval : ∀ (j : Nat) t v, Try.f3.params[j]? = some t → args[j]? = some v → Value.okWide Try.prog W .any base t v := hval0
  have hW' := hW
  obtain ⟨p, q, hA0, hV, rfl, hfz, hnd⟩ := hW
  have hA : DataW.TrodAll enc Try.prog W 0 (fun _ => true) true Try.f3.params.toList args.toList ds p := hA0
  have hK := hA
  rw [Try.params3] at hA hval
  obtain ⟨v0, vs0, d0, ds0, p0, q0, hargs, rfl, rfl, h0, r0⟩ := trodAll_cons hA
  obtain ⟨rfl, rfl, rfl⟩ := trodAll_nil r0
  obtain rfl : args = #[v0] := by cases args; simp_all
  obtain ⟨rfl, rfl⟩ := trodVars_none hV
  obtain ⟨a0, len0, cap0, rfl, hl0, hAc⟩ := open_acts (okWide_slice Try.underlying22 (hval 0 22 v0 rfl rfl)) h0
  clear hA0 hval0
  refine (walk hl0 hAc).mono fun e W' ⟨he, hk⟩ => ?_
  subst he
  exact ⟨_, rfl, _, _, _, [], _, [], hW', trodAll_mk1 (shut_bool Try.underlying4 _), trodAll_below laidOut hk.below _ _ _ _ hK (by kernel_rfl), rfl, hk.below.frame _, fun h => by cases h⟩

theorem said : Rows.SpaceActsSaid :=
  OpenClaim.holds_of_wide 3 Try.f3 rfl rfl rfl rfl rfl rfl rfl ⟨rfl, rfl, rfl, rfl, rfl⟩ rfl rfl rfl rfl rfl (by kernel_rfl) Try.func3 (by kernel_rfl)
    (of_decide_eq_true (by kernel_rfl)) (by unfold Func.isWrapper; first | (rw [if_pos (by decide +kernel)]; kernel_rfl) | (rw [if_neg (by decide +kernel)]; exact ⟨rfl, rfl⟩))
    (fun os started H enc _ => lifted os started H enc)
end Go.Proofs.Ytdgmfcnblaamcaa.LA
