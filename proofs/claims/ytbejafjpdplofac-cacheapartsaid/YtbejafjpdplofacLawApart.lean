/-
  CacheApart: for every row of acts the law answers true, and its argument reads behind the call as before; no condition.
-/
import Derived.Test.YtbejafjpdplofacCch4
import Derived.Test.YtbejafjpdplofacStructs
import Derived.Test.YtbejafjpdplofacRows
namespace Go.Proofs.Ytbejafjpdplofac.LA
open Go.ChangeShapes Go.WideShapes Go.ChangeAt Go.RowKit Cc By
/-- The classes among the arguments. -/
def IsActs (w : World) (ao : Option Addr) (len : Nat) : Prop := ∀ i, i < len → ∃ b off cv, ao = some ⟨b, off, none⟩ ∧ w.cell? ⟨b, off + i * 3 + 1, none⟩ = some (.int .i64 cv)
theorem list3 {α : Type} (l : List α) (h : l.length = 3) : ∃ a b c, l = [a, b, c] := by
  match l, h with
  | [a, b, c], _ => exact ⟨a, b, c, rfl⟩
theorem open_acts {H : Type} {enc : TypeId × Value → H} {W : World} {v : Value} {d : DataW H} {p : List MemPlace} (hv : ∃ a len cap, v = .slice a len cap)
    (h : DataW.Trod enc Try.prog W 0 (fun _ => true) true 22 v d p) : ∃ a len cap, v = .slice a len cap ∧ len ≤ maxLen ∧ IsActs W a len := by
  obtain ⟨a, len, cap, rfl, hl, hx⟩ := open_structs (P := Try.prog) (kc := 3) Try.underlying22 Try.underlying30 (by kernel_rfl) (by decide) hv h
  refine ⟨a, len, cap, rfl, hl, fun i hi => ?_⟩
  obtain ⟨b, off, rfl, fuel, cs, hcs, hc, hf⟩ := hx i hi
  obtain ⟨x0, x1, x2, rfl⟩ := list3 cs hcs
  obtain ⟨y1, h1⟩ := hf 1 _ rfl
  have c1 := hc 1 x1 rfl
  have hc3 : Try.prog.cellsOf 3 = 1 := by kernel_rfl
  have h1 : DataW.trod enc Try.prog W 0 (fun _ => true) true fuel 3 (([x0, x1, x2].drop 1).take (Try.prog.cellsOf 3)) = some y1 := h1
  rw [hc3] at h1
  obtain ⟨z1, e1, -, -⟩ := DataW.trod_int Try.underlying3 h1
  simp at e1
  subst e1
  exact ⟨b, off, z1, rfl, c1⟩
theorem up_self {α : Type} (S : Nat → α) (k : Nat) : up S k (S k) = S := by
  funext j
  unfold up
  by_cases e : j = k <;> simp [e]
theorem up_le {L : Nat → List Nat} (h : ∀ j, (L j).length ≤ 8) {k x : Nat} (hl : (L k).length < 8) : ∀ j, ((up L k (L k ++ [x])) j).length ≤ 8 := by
  intro j
  unfold up
  by_cases e : j = k
  · rw [if_pos e]; simp; omega
  · rw [if_neg e]; exact h j
/-- Of the classes below k nothing is left, and of class k so many. -/
def rest (M : Nat → List Nat) (k n : Nat) : Nat → List Nat := fun j => if j < k then [] else if j = k then (M j).take n else M j
set_option maxRecDepth 20000 in
set_option maxHeartbeats 4000000 in
theorem walk {ao : Option Addr} {len cap : Nat} {w : World} (_hl : len ≤ maxLen) (hA : IsActs w ao len) : Calls Try.prog 3 #[.slice ao len cap] w fun e w' => e = .returned (.bool true) ∧ Kept [] w w' := by
  unfold maxLen at _hl
  have HA := hide hA
  obtain ⟨i3, I3, Z3, S3, B3⟩ : ∃ i, Try.prog.info? 3 = some i ∧ i.zero = some (.int .i64 0) ∧ i.size = 1 ∧ i.bytes = 8 := by
    obtain ⟨ti, hti, hz⟩ := Option.map_eq_some_iff.1 info3
    simp only [Prod.mk.injEq] at hz
    exact ⟨ti, hti, hz.1, hz.2.1, hz.2.2⟩
  have I := hide I3
  have Z := hide Z3
  have SZ := hide S3
  have B := hide B3
  clear hA I3 Z3 S3 B3
  go_enter Try.func3, Try.ntmps3
  go_wp2_with fail
  refine (new_ok w).mono ?_
  rintro e w1 ⟨rfl, hC, hk1, hs1⟩
  have A2 := hide (show AP w (w1.alloc (.cells #[.slice none 0 0, .slice none 0 0, .slice none 0 0, .slice none 0 0] 26)) w.heap.size w1.heap.size (fun _ => []) (fun _ => []) from by
    have k1 := (Kept.refl [] w1).alloc (.cells #[.slice none 0 0, .slice none 0 0, .slice none 0 0, .slice none 0 0] 26)
    refine ⟨_, fun _ => .slice none 0 0, hC.kept0 k1, ⟨?_, fun k _ => .inl ⟨rfl, rfl⟩, fun k b _ hb => (by cases hb), fun i j b _ _ _ hb => (by cases hb)⟩, hk1.next k1, fun b hb => ?_, fun b hb => ?_, fun b hb hf => ?_⟩
    · refine World.rowIs_alloc w1 #[.slice none 0 0, .slice none 0 0, .slice none 0 0, .slice none 0 0] 26 _ (fun k hk => ?_)
      match k, hk with
      | 0, _ => rfl
      | 1, _ => rfl
      | 2, _ => rfl
      | 3, _ => rfl
    · rcases mem_foot.1 hb with e | ⟨k, hk, e⟩
      · omega
      · cases e
    · rcases mem_foot.1 hb with e | ⟨k, hk, e⟩
      · have := hk1.size; omega
      · cases e
    · rcases mem_foot.1 hf with e | ⟨k, hk, e⟩
      · have := hC.lt hb; omega
      · cases e)
  clear hC hk1 hs1
  go_wp2_with fail
  generalize w1.alloc (.cells #[.slice none 0 0, .slice none 0 0, .slice none 0 0, .slice none 0 0] 26) = w2 at A2 ⊢
  generalize w1.heap.size = q at A2 ⊢
  generalize w.heap.size = p at A2 ⊢
  refine (caches_true w2).mono ?_
  rintro e w3 ⟨rfl, hk3⟩
  have A3 := hide (A2.out.next hk3)
  clear hk3 A2
  go_wp2_with fail
  go_loopw [5] (fun v wr => ∃ (i : Nat) (L : Nat → List Nat), v = .int .i64 i ∧ i ≤ len ∧ i ≤ 40 ∧ (∀ j, (L j).length ≤ 8) ∧ AP w wr p q L L) (fun v _ => 40 - (intOf v).toNat)
  case atStart => exact ⟨0, _, rfl, by omega, by omega, fun _ => by simp, A3.out⟩
  case round =>
    obtain ⟨i, L, rfl, hi1, hi2, hL, hS⟩ := hrel
    have S := hide hS
    have HL := hide hL
    clear hS A3 hL
    by_cases hi : i < len ∧ i < 40
    · obtain ⟨b, off, cv, rfl, x1⟩ := HA.out i hi.1
      obtain ⟨k, hk4, hx⟩ := mod_small cv 4 (by decide) (by decide)
      have y1 := S.out.kept.cell x1 (by simp)
      have hk : k < 4 := by omega
      have hi0 : (0 : Int) ≤ (i : Int) := by omega
      have hi3 : (i : Int) < (len : Int) := by omega
      have hi4 : (i : Int) < 40 := by omega
      have hk0 : (0 : Int) ≤ (k : Int) := by omega
      have HK := hide hk
      clear x1 hk
      by_cases hl8 : (L k).length < 8
      · have HL8 := hide hl8
        have hlv : decide (((L k).length : Int) < 8) = true := decide_eq_true (by omega)
        have hP := S.out.push HK.out hl8 i
        have P := hide hP
        clear hP hl8
        go_wp2_with fail
        refine P.out.mono ?_
        rintro e w4 ⟨rfl, hS4⟩
        obtain ⟨S4, T4, hap⟩ := hS4
        obtain ⟨ao4, cp4, hv4, -⟩ := (hap.two.list k HK.out).slice
        have hc4 : w4.cell? ⟨q, k, none⟩ = some (.slice ao4 (L k).length cp4) := by rw [← hv4]; exact hap.two.row.cell HK.out
        have O4 := hide (hap.two.list k HK.out).own
        rw [hv4] at O4
        have V4 := hide hv4
        have A4 := hide hap
        have npq : q ∉ (T4 k).ownBlock.toList := fun hp => hap.two.np k q HK.out (by simpa using hp) rfl
        have NP := hide npq
        clear hv4 hap npq P S
        go_wp2_with (at_builtin; refine wpList_append_own_at _ rfl _ _ _ rfl 0 3 i3 (.int .i64 0) 1 8 Try.underlying25 I.out Z.out SZ.out B.out rfl (by decide) (.slice ao4 (L k).length cp4) (L k).length ((L k).map iv) rfl (own_kept O4.out ((Kept.refl [] w4).alloc _) (by simp)) ⟨_, 0, none⟩ 1 1 [iv i] rfl rfl (fun j u hj => news_one (w := w4) j u hj) (by simp [iv, Value.oneCell']) (by have := HL8.out; unfold maxLen; omega) (by have := HL8.out; omega) (Nat.zero_le _) ?_)
        intro v5 w5 o5 g5 _ b5
        have K5 := grown_kept V4.out ((Kept.refl [] w4).alloc _) g5
        have n5 : NL w5 v5 (L k ++ [i]) := NL.of_own (by rw [List.map_append]; exact o5)
        have A5 := hide (A4.out.app HK.out K5 n5 (fun b hb => by
          rcases b5 with e | e
          · exact .inl (by rw [V4.out, ← e]; exact hb)
          · rw [e] at hb; cases hb; exact .inr (by simp)))
        have hc5 : w5.cell? ⟨q, k, none⟩ = some (.slice ao4 (L k).length cp4) := K5.cell hc4 NP.out
        have hf5 : ∀ i, w5.frozen? ⟨q, i, none⟩ = false := fun i => (K5.row A4.out.two.row NP.out).frozen i
        obtain ⟨a6, c6, hv6, -⟩ := n5.slice
        rw [show (L k ++ [i]).length = (L k).length + 1 by simp] at hv6
        subst hv6
        clear o5 g5 b5 K5 n5 O4 hc4 A4 NP V4 y1
        go_wp2
        go_roundw
        case rel => exact ⟨i + 1, _, by go_num, by omega, by omega, up_le HL.out HL8.out, A5.out⟩
        case measure => simp [intOf]; omega
      · have hl9 : (L k).length = 8 := by have := HL.out k; omega
        have hlv : decide (((L k).length : Int) < 8) = false := decide_eq_false (by omega)
        have hP := S.out.full HK.out hl9 i
        have P := hide hP
        obtain ⟨S4, T4, hap⟩ := S.out
        obtain ⟨ao4, cp4, hv4, -⟩ := (hap.two.list k HK.out).slice
        have hc4 : wr.cell? ⟨q, k, none⟩ = some (.slice ao4 (L k).length cp4) := by rw [← hv4]; exact hap.two.row.cell HK.out
        rw [hl9] at hc4
        clear hP hl8 hlv hv4 hap
        go_wp2_with fail
        refine P.out.mono ?_
        rintro e w' ⟨rfl, hw⟩
        subst w'
        clear P
        go_wp2
        go_roundw
        case rel => exact ⟨i + 1, _, by go_num, by omega, by omega, HL.out, S.out⟩
        case measure => simp [intOf]; omega
    · have hnn : ¬ ((i : Int) < len ∧ (i : Int) < 40) := by omega
      have S0 := hide (show AP w wr p q (rest L 0 8) L from S.out.congr (fun j _ => by
        unfold rest
        rw [if_neg (by omega)]
        split
        · exact (List.take_of_length_le (HL.out j)).symm
        · rfl))
      clear S HA
      by_cases hkl : (i : Int) < len
      all_goals
        first | (have hk40 : ¬ ((i : Int) < 40) := by omega) | skip
        clear hnn
        go_wp2_with fail
        go_loopw [9] (fun v wr => ∃ k : Nat, k ≤ 4 ∧ v = .int .i64 k ∧ AP w wr p q (rest L k 8) L) (fun v _ => 4 - (intOf v).toNat)
        case atStart => exact ⟨0, by omega, rfl, S0.out⟩
        case round =>
          clear S0
          obtain ⟨k, hk, rfl, hS⟩ := hrel
          have S := hide hS
          clear hS
          by_cases hk4 : k < 4
          · have hki : (k : Int) < 4 := by omega
            have hk0 : (0 : Int) ≤ (k : Int) := by omega
            have hL8 := HL.out k
            have hc : ∀ wq Lq, AP w wq p q Lq L → ∃ ao cp, wq.cell? ⟨q, k, none⟩ = some (.slice ao (L k).length cp) ∧ ∀ j, j < (L k).length → ∃ b, ao = some ⟨b, 0, none⟩ ∧ wq.cell? ⟨b, j, none⟩ = some (iv ((L k).getD j 0)) := by
              intro wq Lq h
              obtain ⟨S4, T4, hap⟩ := h
              obtain ⟨ao4, cp4, hv4, hce⟩ := (hap.two.list k hk4).slice
              exact ⟨ao4, cp4, by rw [← hv4]; exact hap.two.row.cell hk4, hce⟩
            have HC := hide hc
            obtain ⟨ao4, cp4, c4, -⟩ := hc _ _ S.out
            have S1 := hide (show AP w wr p q (rest L k (L k).length) L from S.out.congr (fun j _ => by
              unfold rest
              split
              · rfl
              · split
                · rename_i e
                  subst e
                  rw [List.take_of_length_le hL8, List.take_length]
                · rfl))
            have hwl : IntKind.i64.wrap (((L k).length : Int) - 1) = ((L k).length : Int) - 1 := by rw [IntKind.wrap_i64]; omega
            clear hc S
            go_wp2_with fail
            go_loopw [10] (fun v wr => ∃ (n : Nat) (z : Int), v = .int .i64 z ∧ Hid (z = (n : Int) - 1) ∧ n ≤ (L k).length ∧ AP w wr p q (rest L k n) L) (fun v _ => (intOf v + 1).toNat)
            case atStart => exact ⟨(L k).length, _, rfl, hide rfl, Nat.le_refl _, S1.out⟩
            case round =>
              clear S1 c4
              obtain ⟨n, z, rfl, hz, hn, hS⟩ := hrel
              have S := hide hS
              clear hS
              cases n with
              | zero =>
                have hz1 : z = -1 := hz.out
                subst hz1
                have S2 := hide (show AP w wr p q (rest L (k + 1) 8) L from S.out.congr (fun j _ => by
                  unfold rest
                  by_cases e1 : j < k
                  · rw [if_pos e1, if_pos (by omega)]
                  · rw [if_neg e1]
                    by_cases e2 : j = k
                    · rw [if_pos e2, if_pos (by omega)]; rfl
                    · rw [if_neg e2, if_neg (by omega)]
                      split
                      · exact (List.take_of_length_le (HL.out j)).symm
                      · rfl))
                clear S hz HC
                go_wp2
                go_roundw
                case rel => exact ⟨k + 1, by omega, by go_num, S2.out⟩
                case measure => simp [intOf]; omega
              | succ n =>
                have hz1 : z = (n : Int) := by have := hz.out; omega
                subst hz1
                have hn0 : (0 : Int) ≤ (n : Int) := by omega
                have hnl : (n : Int) < ((L k).length : Int) := by omega
                have hrk : rest L k (n + 1) k = (L k).take (n + 1) := by unfold rest; rw [if_neg (by omega), if_pos rfl]
                have hP := S.out.pop (k := k) (n := n) hk4 (by rw [hrk, List.length_take]; omega) (by omega)
                rw [hrk] at hP
                have hgd : ((L k).take (n + 1)).getD n 0 = (L k).getD n 0 := by
                  rw [List.getD_eq_getElem?_getD, List.getD_eq_getElem?_getD, List.getElem?_take, if_pos (by omega)]
                rw [hgd, List.take_take, Nat.min_eq_left (by omega)] at hP
                have hup : up (rest L k (n + 1)) k ((L k).take n) = rest L k n := by
                  funext j
                  unfold up rest
                  by_cases e1 : j = k
                  · rw [if_pos e1, if_neg (by omega), if_pos e1, e1]
                  · rw [if_neg e1, if_neg e1, if_neg e1]
                rw [hup] at hP
                have P := hide hP
                clear hP hup hgd hrk S
                go_wp2_with fail
                refine P.out.mono ?_
                rintro e w5 ⟨rfl, hS5⟩
                obtain ⟨ao5, cp5, c5, hce⟩ := HC.out _ _ hS5
                obtain ⟨b5, hb5, d5⟩ := hce n (by omega)
                subst hb5
                have d5' : w5.cell? ⟨b5, n, none⟩ = some (.int .i64 ((L k).getD n 0 : Nat)) := d5
                have S5 := hide hS5
                clear hS5 hce d5 P
                generalize (L k).getD n 0 = y at *
                have hyy : ((y : Int) != (y : Int)) = false := by simp
                go_wp2
                go_roundw
                case rel => exact ⟨n, (n : Int) - 1, by go_num, hide rfl, by omega, S5.out⟩
                case measure => simp [intOf]
          · have hnk : ¬ (k : Int) < 4 := by omega
            have hk4' : k = 4 := by omega
            subst hk4'
            obtain ⟨S4, T4, hap⟩ := S.out
            have K := hide S.out.kept
            have H4 := hide hap.one
            clear hap S
            go_wp2_with fail
            refine (all_empty H4.out (fun j hj => by unfold rest; rw [if_pos hj])).mono ?_
            rintro e w' ⟨rfl, hw⟩
            subst w'
            go_wp2
            go_ret
            exact ⟨rfl, K.out⟩

theorem own : ownKnob Try.prog.godebug = none := by kernel_rfl
theorem laidOut : laidOutB Try.prog = true := by kernel_rfl

set_option maxRecDepth 100000 in
theorem lifted (os : Os) (started : os.Started) (H : Type) (enc : TypeId × Value → H) :
    ReturnsInHanded {} Try.checked os 3 .any (Rows.cacheApartSpec.pre6 enc Try.prog Try.f3 Rows.cacheApartRow.domain false) (Rows.cacheApartSpec.post enc Try.prog Try.f3 false true false false) := by
  refine returnsInHanded_of_change (C := Try.checked) own started (by kernel_rfl) Try.func3
    (ChangeSpec.witness6 (enc := enc) (C := Try.checked) false ⟨#[], #[.slice none 0 0], []⟩ 8 (by kernel_rfl) (by kernel_rfl) (by kernel_rfl) (by kernel_rfl)) ?_
  intro W base args ds gs before hval0 hW hcnd _
  have hval : ∀ (j : Nat) t v, Try.f3.params[j]? = some t → args[j]? = some v → Value.okWide Try.prog W .any base t v := hval0
  have hW' := hW
  obtain ⟨p, q, hA0, hV, rfl, hfz, hnd⟩ := hW
  have hA : DataW.TrodAll enc Try.prog W 0 (fun _ => true) true Try.f3.params.toList args.toList ds p := hA0
  have hK := hA
  rw [Try.params3] at hA hval
  obtain ⟨v0, vs0, d0, ds0, p0, q0, hargs, rfl, rfl, h0, r0⟩ := trodAll_cons hA
  obtain ⟨rfl, rfl, rfl⟩ := trodAll_nil r0
  obtain rfl : args = #[v0] := by cases args; simp_all
  obtain ⟨rfl, rfl⟩ := trodVars_none hV
  obtain ⟨a0, len0, cap0, rfl, hl0, hI0⟩ := open_acts (okWide_slice Try.underlying22 (hval 0 22 v0 rfl rfl)) h0
  clear hA0 hval0
  refine (walk hl0 hI0 (w := W)).mono fun e W' ⟨he, hk⟩ => ?_
  subst he
  exact ⟨_, rfl, _, _, _, [], _, [], hW', trodAll_mk1 (shut_bool Try.underlying4 _), trodAll_below laidOut hk.below _ _ _ _ hK (by kernel_rfl), rfl, hk.below.frame _, fun h => by cases h⟩

theorem said : Rows.CacheApartSaid :=
  OpenClaim.holds_of_wide 3 Try.f3 rfl rfl rfl rfl rfl rfl rfl ⟨rfl, rfl, rfl, rfl, rfl⟩ rfl rfl rfl rfl rfl (by kernel_rfl) Try.func3 (by kernel_rfl)
    (of_decide_eq_true (by kernel_rfl)) (by unfold Func.isWrapper; first | (rw [if_pos (by decide +kernel)]; kernel_rfl) | (rw [if_neg (by decide +kernel)]; exact ⟨rfl, rfl⟩))
    (fun os started H enc _ => lifted os started H enc)
end Go.Proofs.Ytbejafjpdplofac.LA
