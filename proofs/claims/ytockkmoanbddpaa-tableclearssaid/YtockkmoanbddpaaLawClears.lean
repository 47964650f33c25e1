/-
  TableClears: for every list of numbers the law answers true, and its argument reads behind the call as before. No condition.
-/
import Derived.Test.YtockkmoanbddpaaTwoHolds
import Derived.Test.YtockkmoanbddpaaHeap3
import Derived.Test.YtockkmoanbddpaaLift
namespace Go.Proofs.Ytockkmoanbddpaa.clears
open Go.ChangeShapes Go.WideShapes Go.ChangeAt Go.RowKit Tb

/-- lo to hi are mapped, x to 100 + x. -/
def M (lo hi : Nat) (x : Int) : Option Int := if (lo : Int) ≤ x ∧ x < hi then some (100 + x) else none
def W (lo hi : Nat) (y : Int) : Option Int := if 100 + (lo : Int) ≤ y ∧ y < 100 + hi then some (y - 100) else none
theorem M_put (k : Nat) (x : Int) : mput (M 0 k) k (100 + k) x = M 0 (k + 1) x := by
  unfold mput M
  by_cases h : x = k
  · subst h; rw [if_pos rfl, if_pos (by omega)]
  · rw [if_neg h]; by_cases h2 : (0 : Int) ≤ x ∧ x < k
    · rw [if_pos (by simpa using h2), if_pos (by omega)]
    · rw [if_neg (by simpa using h2), if_neg (by omega)]
theorem W_put (k : Nat) (y : Int) : mput (W 0 k) (100 + k) k y = W 0 (k + 1) y := by
  unfold mput W
  by_cases h : y = 100 + k
  · subst h; rw [if_pos rfl, if_pos (by omega)]; congr 1; omega
  · rw [if_neg h]; by_cases h2 : 100 ≤ y ∧ y < 100 + k
    · rw [if_pos (by simpa using h2), if_pos (by omega)]
    · rw [if_neg (by simpa using h2), if_neg (by omega)]
theorem M_at (lo hi k : Nat) (h : lo ≤ k) (h2 : k < hi) : M lo hi k = some (100 + (k : Int)) := by unfold M; rw [if_pos (by omega)]
theorem M_no (lo hi k : Nat) (h : k < lo ∨ hi ≤ k) : M lo hi k = none := by unfold M; rw [if_neg (by omega)]
theorem W_no (lo hi k : Nat) (h : k < lo ∨ hi ≤ k) : W lo hi (100 + k) = none := by unfold W; rw [if_neg (by omega)]
theorem M_del (lo hi : Nat) (x : Int) : mdel (M lo hi) lo x = M (lo + 1) hi x := by
  unfold mdel M
  by_cases h : x = lo
  · subst h; rw [if_pos rfl, if_neg (by omega)]
  · rw [if_neg h]; by_cases h2 : (lo : Int) ≤ x ∧ x < hi
    · rw [if_pos h2, if_pos (by omega)]
    · rw [if_neg h2, if_neg (by omega)]
theorem W_del (lo hi : Nat) (y : Int) : mdel (W lo hi) (100 + lo) y = W (lo + 1) hi y := by
  unfold mdel W
  by_cases h : y = 100 + lo
  · subst h; rw [if_pos rfl, if_neg (by omega)]
  · rw [if_neg h]; by_cases h2 : 100 + (lo : Int) ≤ y ∧ y < 100 + hi
    · rw [if_pos h2, if_pos (by omega)]
    · rw [if_neg h2, if_neg (by omega)]
/-- The last k of n are mapped, the other way about. -/
def R (n k : Nat) (x : Int) : Option Int := if (n : Int) - k ≤ x ∧ x < n then some (100 + (n - 1 - x)) else none
def V (n k : Nat) (y : Int) : Option Int := if 100 ≤ y ∧ y < 100 + k then some (n - 1 - (y - 100)) else none
theorem R_no (n k : Nat) : R n k ((n : Int) - 1 - k) = none := by unfold R; rw [if_neg (by omega)]
theorem V_no (n k : Nat) : V n k (100 + k) = none := by unfold V; rw [if_neg (by omega)]
theorem R_put (n k : Nat) (x : Int) : mput (R n k) ((n : Int) - 1 - k) (100 + k) x = R n (k + 1) x := by
  unfold mput R
  by_cases h : x = (n : Int) - 1 - k
  · subst h; rw [if_pos rfl, if_pos (by omega)]; congr 1; omega
  · rw [if_neg h]; by_cases h2 : (n : Int) - k ≤ x ∧ x < n
    · rw [if_pos h2, if_pos (by omega)]
    · rw [if_neg h2, if_neg (by omega)]
theorem V_put (n k : Nat) (y : Int) : mput (V n k) (100 + k) ((n : Int) - 1 - k) y = V n (k + 1) y := by
  unfold mput V
  by_cases h : y = 100 + k
  · subst h; rw [if_pos rfl, if_pos (by omega)]; congr 1; omega
  · rw [if_neg h]; by_cases h2 : 100 ≤ y ∧ y < 100 + k
    · rw [if_pos (by simpa using h2), if_pos (by omega)]
    · rw [if_neg (by simpa using h2), if_neg (by omega)]

set_option maxRecDepth 20000 in
set_option maxHeartbeats 1000000 in
theorem walk (ao : Option Addr) (len cap : Nat) (w : World) (hlen : len ≤ maxLen) :
    Calls Try.prog 8 #[.slice ao len cap] w fun e w' => e = .returned (.bool true) ∧ Kept [] w w' := by
  unfold maxLen at hlen
  obtain ⟨n, hn⟩ : ∃ n : Nat, n = min len 20 := ⟨_, rfl⟩
  have en : min (len : Int) 20 = (n : Int) := by omega
  have hn20 : n ≤ 20 := by omega
  clear hn
  go_enter Try.func8, Try.ntmps8
  go_wp2_with fail
  refine (TII.new_ok _).mono ?_
  rintro e w1 ⟨g, bt, bf, rfl, t1, hg, hbt, hbf, k1⟩
  have T1 := hide t1
  have K1 := hide k1
  clear t1 k1
  go_wp2_with fail
  refine (tables_true _).mono ?_
  rintro e w2 ⟨rfl, k2⟩
  have T2 := hide (T1.out.kept0 k2)
  have K2 := hide (K1.out.next k2)
  clear T1 K1 k2
  go_wp2_with fail
  clear en
  go_loopw [5] (fun i wr => ∃ k : Nat, k ≤ n ∧ i = .int .i64 k ∧ TII.TwoAt wr g bt bf k k (M 0 k) (W 0 k) ∧ Kept [] w wr) (fun i _ => n - (intOf i).toNat)
  case atStart => exact ⟨0, by omega, rfl, T2.out.congr (fun x _ => by unfold M; rw [if_neg (by omega)]) (fun x _ => by unfold W; rw [if_neg (by omega)]), K2.out⟩
  case round =>
    obtain ⟨k, hk, rfl, t, kk⟩ := hrel
    have T := hide t
    have KK := hide kk
    clear t kk T2 K2
    by_cases hlt : k < n
    · go_wp2_with fail
      refine (TII.map_ok k (100 + k) (okSI (by omega) (by omega)) (okSI (by omega) (by omega)) T.out (by omega) (by omega) (by omega) (by rw [M_no 0 k k (by omega)]; rfl) (by rw [W_no 0 k k (by omega)]; rfl)).mono ?_
      rintro e w3 ⟨rfl, t3, k3⟩
      have T3 := hide (t3.congr (fun x _ => M_put k x) (fun y _ => W_put k y))
      have K3 := hide (KK.out.trans k3 (by intro x hx hl; simp at hx; omega))
      clear t3 k3 T KK
      go_wp2
      go_roundw
      case rel => exact ⟨k + 1, by omega, by go_num, T3.out, K3.out⟩
      case measure => simp [intOf]; omega
    · obtain rfl : k = n := by omega
      go_wp2_with fail
      go_loopw [6] (fun i wr => ∃ j : Nat, j ≤ k ∧ i = .int .i64 j ∧ TII.TwoAt wr g bt bf k ((k : Int) - j) (M j k) (W j k) ∧ Kept [] w wr) (fun i _ => k - (intOf i).toNat)
      case atStart => exact ⟨0, by omega, rfl, by simpa using T.out, KK.out⟩
      case round =>
        obtain ⟨j, hj, rfl, t, kk⟩ := hrel
        have TJ := hide t
        have KJ := hide kk
        clear t kk T KK
        by_cases hjk : j < k
        · go_wp2_with fail
          refine (TII.unmap_ok j (100 + j) (okSI (by omega) (by omega)) (okSI (by omega) (by omega)) TJ.out (by omega) (by omega) (M_at j k j (by omega) hjk)).mono ?_
          rintro e w3 ⟨rfl, t3, k3⟩
          have T3 := hide (t3.congr (fun x _ => M_del j k x) (fun y _ => W_del j k y))
          have K3 := hide (KJ.out.trans k3 (by intro x hx hl; simp at hx; omega))
          clear t3 k3 TJ KJ
          go_wp2_with fail
          refine (TII.to_any j (okSI (by omega) (by omega)) T3.out 0 false (by rw [M_no (j + 1) k j (by omega)]; rfl) (by rw [M_no (j + 1) k j (by omega)]; rfl)).mono ?_
          rintro e w4 ⟨rfl, k4⟩
          have T4 := hide (T3.out.kept0 k4)
          have K4 := hide (K3.out.next k4)
          clear k4 T3 K3
          go_wp2_with fail
          refine (TII.from_any (100 + j) (okSI (by omega) (by omega)) T4.out 0 false (by rw [W_no (j + 1) k j (by omega)]; rfl) (by rw [W_no (j + 1) k j (by omega)]; rfl)).mono ?_
          rintro e w5 ⟨rfl, k5⟩
          have T5 := hide (T4.out.kept0 k5)
          have K5 := hide (K4.out.next k5)
          clear k5 T4 K4
          go_wp2_with fail
          refine (TII.len_any T5.out).mono ?_
          rintro e w6 ⟨rfl, hw6⟩
          subst w6
          have hq : ((k : Int) - j - 1 == (k : Int) - 1 - j) = true := by simp; omega
          go_wp2
          go_roundw
          case rel => exact ⟨j + 1, by omega, by go_num, by have := T5.out; rwa [show (k : Int) - j - 1 = (k : Int) - ((j + 1 : Nat) : Int) by omega] at this, K5.out⟩
          case measure => simp [intOf]; omega
        · obtain rfl : j = k := by omega
          go_wp2_with fail
          go_loopw [13] (fun i wr => ∃ q : Nat, q ≤ j ∧ i = .int .i64 q ∧ TII.TwoAt wr g bt bf (j + q) q (R j q) (V j q) ∧ Kept [] w wr) (fun i _ => j - (intOf i).toNat)
          case atStart => exact ⟨0, by omega, rfl, by have := TJ.out.congr (to' := R j 0) (fr' := V j 0) (fun x _ => by unfold M R; rw [if_neg (by omega), if_neg (by omega)]) (fun y _ => by unfold W V; rw [if_neg (by omega), if_neg (by omega)]); simpa using this, KJ.out⟩
          case round =>
            obtain ⟨q, hq, rfl, t, kk⟩ := hrel
            have TQ := hide t
            have KQ := hide kk
            clear t kk TJ KJ
            by_cases hqj : q < j
            · go_wp2_with fail
              refine (TII.map_ok ((j : Int) - 1 - q) (100 + q) (okSI (by omega) (by omega)) (okSI (by omega) (by omega)) TQ.out (by omega) (by omega) (by omega) (by rw [R_no j q]; rfl) (by rw [V_no j q]; rfl)).mono ?_
              rintro e w3 ⟨rfl, t3, k3⟩
              have T3 := hide (t3.congr (fun x _ => R_put j q x) (fun y _ => V_put j q y))
              have K3 := hide (KQ.out.trans k3 (by intro x hx hl; simp at hx; omega))
              clear t3 k3 TQ KQ
              go_wp2
              go_roundw
              case rel => exact ⟨q + 1, by omega, by go_num, T3.out, K3.out⟩
              case measure => simp [intOf]; omega
            · obtain rfl : q = j := by omega
              go_wp2_with fail
              refine (TII.len_any TQ.out).mono ?_
              rintro e w6 ⟨rfl, hw6⟩
              subst w6
              go_wp2
              go_ret
              exact ⟨by simp, KQ.out⟩

theorem own : ownKnob Try.prog.godebug = none := by kernel_rfl
theorem laidOut : laidOutB Try.prog = true := by kernel_rfl

set_option maxRecDepth 100000 in
theorem lifted (os : Os) (started : os.Started) (H : Type) (enc : TypeId × Value → H) :
    ReturnsInHanded {} Try.checked os 8 .any (Rows.tableClearsSpec.pre6 enc Try.prog Try.f8 Rows.tableClearsRow.domain false) (Rows.tableClearsSpec.post enc Try.prog Try.f8 false true false false) := by
  refine returnsInHanded_of_change (C := Try.checked) own started (by kernel_rfl) Try.func8
    (ChangeSpec.witness6 (enc := enc) (C := Try.checked) false ⟨#[], #[.slice none 0 0], []⟩ 8 (by kernel_rfl) (by kernel_rfl) (by kernel_rfl) (by kernel_rfl)) ?_
  intro W base args ds gs before hval0 hW hcnd _
  have hval : ∀ (j : Nat) t v, Try.f8.params[j]? = some t → args[j]? = some v → Value.okWide Try.prog W .any base t v := hval0
  have hW' := hW
  obtain ⟨p, q, hA0, hV, rfl, hfz, hnd⟩ := hW
  have hA : DataW.TrodAll enc Try.prog W 0 (fun _ => true) true Try.f8.params.toList args.toList ds p := hA0
  have hK := hA
  rw [Try.params8] at hA hval
  obtain ⟨v0, vs0, d0, ds0, p0, q0, hargs, rfl, rfl, h0, r0⟩ := trodAll_cons hA
  obtain ⟨rfl, rfl, rfl⟩ := trodAll_nil r0
  obtain rfl : args = #[v0] := by cases args; simp_all
  obtain ⟨rfl, rfl⟩ := trodVars_none hV
  obtain ⟨a0, len0, cap0, zs0, rfl, hl0, hm0, hn0, hT0⟩ := open_list Try.underlying49 Try.underlying3 (by kernel_rfl) (okWide_slice Try.underlying49 (hval 0 49 v0 rfl rfl)) h0
  clear hA0 hval0
  refine (walk a0 len0 cap0 W (Nat.le_trans hl0 hm0)).mono fun e W' ⟨he, hk⟩ => ?_
  subst he
  exact ⟨_, rfl, _, _, _, [], _, [], hW', trodAll_mk1 (shut_bool Try.underlying4 _), trodAll_below laidOut hk.below _ _ _ _ hK (by kernel_rfl), rfl, hk.below.frame _, fun h => by cases h⟩

theorem said : Rows.TableClearsSaid :=
  OpenClaim.holds_of_wide 8 Try.f8 rfl rfl rfl rfl rfl rfl rfl ⟨rfl, rfl, rfl, rfl, rfl⟩ rfl rfl rfl rfl rfl (by kernel_rfl) Try.func8 (by kernel_rfl)
    (of_decide_eq_true (by kernel_rfl)) (by unfold Func.isWrapper; first | (rw [if_pos (by decide +kernel)]; kernel_rfl) | (rw [if_neg (by decide +kernel)]; exact ⟨rfl, rfl⟩))
    (fun os started H enc _ => lifted os started H enc)
end Go.Proofs.Ytockkmoanbddpaa.clears
