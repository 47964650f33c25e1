/-
  BindEdges: for every page, count and set the law answers true; no condition.
-/
import Derived.Test.YtbejafjpdplofacBnd2
import Derived.Test.YtbejafjpdplofacRows
namespace Go.Proofs.Ytbejafjpdplofac.LE
open Go.ChangeShapes Go.WideShapes Go.ChangeAt Go.RowKit Bd Go.Maps
/-- A book of a law's own. -/
structure BS (W w : World) (p b nd n : Nat) (m : Int → Option T3) : Prop where
  bk : BK w p b nd n m
  kept : Kept [] W w
  hb : W.heap.size ≤ b
theorem BS.next {W w w' : World} {p b nd n : Nat} {m : Int → Option T3} (h : BS W w p b nd n m) (k : Kept [] w w') : BS W w' p b nd n m := ⟨h.bk.kept0 k, h.kept.next k, h.hb⟩
theorem BS.set {W w : World} {p b nd n : Nat} {m : Int → Option T3} (h : BS W w p b nd n m) (x k : Nat) (h1 : 1 ≤ k) (h2 : x + k ≤ 4096) (hn : n ≤ 100000) (s : Nat) (hs : s < 256) (hc : PO.chk 1 s 0 nd = 0) :
    Calls Try.prog 15 #[.pointer (some ⟨p, 0, none⟩), .int .i64 x, .int .i64 k, .agg #[.int .i64 1, .int .u8 s, .int .i64 0]] w fun e w' => e = .returned (.int .i64 0) ∧ BS W w' p b nd (n + k) (puts m x (1, (s : Int), 0) k) := by
  refine (set_ok h.bk x k h1 h2 hn 1 s 0 hs hc).mono ?_
  rintro e w' ⟨rfl, hb, hk⟩
  exact ⟨rfl, hb, h.kept.trans hk (fun y hy hl => by simp at hy; have := h.hb; omega), h.hb⟩
theorem BS.clear {W w : World} {p b nd n : Nat} {m : Int → Option T3} (h : BS W w p b nd n m) (x k : Nat) (h1 : 1 ≤ k) (h2 : x + k ≤ 4096) :
    Calls Try.prog 17 #[.pointer (some ⟨p, 0, none⟩), .int .i64 x, .int .i64 k] w fun e w' => e = .returned (.int .i64 0) ∧ BS W w' p b nd n (dels m x k) := by
  refine (clear_ok h.bk x k h1 h2).mono ?_
  rintro e w' ⟨rfl, hb, hk⟩
  exact ⟨rfl, hb, h.kept.trans hk (fun y hy hl => by simp at hy; have := h.hb; omega), h.hb⟩
/-- What Of answers at no policy, and at a Bind. -/
theorem of_none {w : World} {p b nd n : Nat} {m : Int → Option T3} (h : BK w p b nd n m) (x : Int) (hx : 0 ≤ x ∧ x ≤ 8192) (hm : m x = none) :
    Calls Try.prog 16 #[.pointer (some ⟨p, 0, none⟩), .int .i64 x] w fun e w' => e = .returned (.tuple #[.agg #[.int .i64 0, .int .u8 0, .int .i64 0], .bool false]) ∧ Kept [] w w' := of_ok h x (okI_nat hx.1 hx.2) none hm
theorem of_bind {w : World} {p b nd n : Nat} {m : Int → Option T3} (h : BK w p b nd n m) (x : Int) (hx : 0 ≤ x ∧ x ≤ 8192) (s : Nat) (hm : m x = some (1, (s : Int), 0)) :
    Calls Try.prog 16 #[.pointer (some ⟨p, 0, none⟩), .int .i64 x] w fun e w' => e = .returned (.tuple #[.agg #[.int .i64 1, .int .u8 s, .int .i64 0], .bool true]) ∧ Kept [] w w' := of_ok h x (okI_nat hx.1 hx.2) _ hm
theorem puts_in {m : Int → Option T3} {x : Int} {y : T3} {k : Nat} {j : Int} (h : x ≤ j ∧ j < x + k) : puts m x y k j = some y := by unfold puts; rw [if_pos h]
theorem puts_out {x : Int} {y : T3} {k : Nat} {j : Int} (h : ¬ (x ≤ j ∧ j < x + k)) : puts (fun _ => none) x y k j = none := by unfold puts; rw [if_neg h]
theorem dels_puts (x : Int) (y : T3) (k : Nat) (j : Int) : dels (puts (fun _ => none) x y k) x k j = none := by
  unfold dels puts
  by_cases h : x ≤ j ∧ j < x + k
  · rw [if_pos h]
  · rw [if_neg h, if_neg h]
theorem chk_bind (s : Nat) (h0 : s ≠ 0) : PO.chk 1 s 0 8 = 0 := by
  unfold PO.chk
  rw [if_neg (by decide), if_neg (by decide), if_pos (by decide)]
  unfold PO.setE
  rw [if_neg h0, if_pos]
  unfold PO.belowB
  rw [List.all_eq_true]
  intro x hx
  have := ND.pre_mem hx
  exact decide_eq_true (by omega)
set_option maxRecDepth 20000 in
set_option maxHeartbeats 2000000 in
theorem binds_true (w : World) : Calls Try.prog 14 #[] w fun e w' => e = .returned (.bool true) ∧ Kept [] w w' := by
  go_enter Try.func14, Try.ntmps14
  go_wp2_with fail
  refine (bnew_ok 2 (by decide) (by decide) w).mono ?_
  rintro e w1 ⟨p, b, rfl, hB, hp, hb, hk⟩
  have S1 := hide (show BS w w1 p b 2 0 (fun _ => none) from ⟨hB, hk, hb⟩)
  clear hB hp hb hk
  go_wp2_with fail
  refine (S1.out.set 5 2 (by decide) (by decide) (by decide) 2 (by decide) (by decide)).mono ?_
  rintro e w2 ⟨rfl, hS⟩
  have S2 := hide hS
  clear hS S1
  go_wp2_with fail
  refine (of_none S2.out.bk 7 (by decide) (puts_out (by decide))).mono ?_
  rintro e w3 ⟨rfl, hk3⟩
  have S3 := hide (S2.out.next (hk3.alloc (.cells #[.int .i64 0, .int .u8 0, .int .i64 0] 47)))
  clear hk3 S2
  go_wp2_with fail
  generalize w3.alloc (.cells #[.int .i64 0, .int .u8 0, .int .i64 0] 47) = w4 at S3 ⊢
  refine (ok_bind S3.out.bk 6 (okI_nat (by decide) (by decide)) 2 (by decide) 0 (puts_in (by decide)) 1 (by decide)).mono ?_
  rintro e w5 ⟨rfl, hk5⟩
  have S5 := hide (S3.out.next hk5)
  clear hk5 S3
  have b1 : ND.hasB 2 ((1 : Nat) : Int) = true := by decide
  rw [b1]
  go_wp2_with fail
  refine (ok_bind S5.out.bk 6 (okI_nat (by decide) (by decide)) 2 (by decide) 0 (puts_in (by decide)) 0 (by decide)).mono ?_
  rintro e w6 ⟨rfl, hk6⟩
  have S6 := hide (S5.out.next hk6)
  clear hk6 S5 b1
  have b1 : ND.hasB 2 ((0 : Nat) : Int) = false := by decide
  rw [b1]
  go_wp2_with fail
  refine (ok_none S6.out.bk 7 (okI_nat (by decide) (by decide)) (puts_out (by decide)) 0 (by decide)).mono ?_
  rintro e w7 ⟨rfl, hk7⟩
  have S7 := hide (S6.out.next hk7)
  clear hk7 S6 b1
  go_wp2_with fail
  refine (ok_out S7.out.bk 7 2 (by decide)).mono ?_
  rintro e w' ⟨rfl, hw⟩
  subst w'
  go_wp2
  go_ret
  exact ⟨rfl, S7.out.kept⟩
set_option maxRecDepth 20000 in
set_option maxHeartbeats 4000000 in
theorem walk (pg nn : Int) (st : Nat) (w : World) : Calls Try.prog 5 #[.int .i64 pg, .int .i64 nn, .int .u8 st] w fun e w' => e = .returned (.bool true) ∧ Kept [] w w' := by
  obtain ⟨f0, hf0, hx⟩ := mod_small pg 4000 (by decide) (by decide)
  obtain ⟨k0, hk0, hy⟩ := mod_small nn 90 (by decide) (by decide)
  have hf00 : f0 < 4000 := by clear hx hy hk0; omega
  have hk00 : k0 < 90 := by clear hx hy hf0; omega
  obtain ⟨f, hf⟩ : ∃ f : Nat, f = 1 + f0 := ⟨_, rfl⟩
  obtain ⟨k, hk⟩ : ∃ k : Nat, k = 1 + k0 := ⟨_, rfl⟩
  obtain ⟨s, hs⟩ : ∃ s : Nat, s = st % 255 + 1 := ⟨_, rfl⟩
  have hf1 : 1 ≤ f ∧ f ≤ 4000 := by clear hx hy; omega
  have hk1 : 1 ≤ k ∧ k ≤ 90 := by clear hx hy; omega
  have hs1 : s ≠ 0 ∧ s < 256 := by clear hx hy; have := Nat.mod_lt st (show 255 > 0 by decide); omega
  have hwf : IntKind.i64.wrap (1 + (f0 : Int)) = (f : Int) := by rw [IntKind.wrap_i64]; clear hx hy; omega
  have hwf2 : wrap64 (1 + (f0 : Int)) = (f : Int) := by rw [IntWalk.wrap64_in _ ⟨by clear hx hy; omega, by clear hx hy; omega⟩]; clear hx hy; omega
  have hwk : IntKind.i64.wrap (1 + (k0 : Int)) = (k : Int) := by rw [IntKind.wrap_i64]; clear hx hy; omega
  have hwk2 : wrap64 (1 + (k0 : Int)) = (k : Int) := by rw [IntWalk.wrap64_in _ ⟨by clear hx hy; omega, by clear hx hy; omega⟩]; clear hx hy; omega
  have hms : (st : Int).tmod 255 = ((st % 255 : Nat) : Int) := rfl
  have hws : IntKind.u8.wrap (((st % 255 : Nat) : Int) + 1) = (s : Int) := by
    have : st % 255 < 255 := Nat.mod_lt _ (by omega)
    rw [IntKind.wrap_u8]; clear hx hy; omega
  have HF := hide hf1
  have HK := hide hk1
  have HS := hide hs1
  clear hf hk hs hf0 hk0 hf1 hk1 hs1 hf00 hk00
  generalize st % 255 = s0 at *
  go_enter Try.func5, Try.ntmps5
  go_wp2_with fail
  refine (bnew_ok 8 (by decide) (by decide) w).mono ?_
  rintro e w1 ⟨p, b, rfl, hB, hp, hb, hk⟩
  have S1 := hide (show BS w w1 p b 8 0 (fun _ => none) from ⟨hB, hk, hb⟩)
  clear hB hp hb hk
  go_wp2_with fail
  refine (binds_true w1).mono ?_
  rintro e w2 ⟨rfl, hk2⟩
  have S2 := hide (S1.out.next hk2)
  clear hk2 S1 hx hy
  go_wp2_with fail
  refine (S2.out.set f k HK.out.1 (by have := HF.out; have := HK.out; omega) (by decide) s HS.out.2 (chk_bind s HS.out.1)).mono ?_
  rintro e w3 ⟨rfl, hS⟩
  have S3 := hide hS
  have hwm : IntKind.i64.wrap ((f : Int) - 1) = (f : Int) - 1 := by rw [IntKind.wrap_i64]; have := HF.out; omega
  have hwp : IntKind.i64.wrap ((f : Int) + (k : Int)) = (f : Int) + (k : Int) := by rw [IntKind.wrap_i64]; have := HF.out; have := HK.out; omega
  clear hS S2 hwf hwf2 hwk hwk2 hms hws
  go_wp2_with fail
  refine (of_none S3.out.bk ((f : Int) - 1) (by have := HF.out; omega) (puts_out (by omega))).mono ?_
  rintro e w4 ⟨rfl, hk4⟩
  have S4 := hide (S3.out.next (hk4.alloc (.cells #[.int .i64 0, .int .u8 0, .int .i64 0] 47)))
  clear hk4 S3
  go_wp2_with fail
  generalize w4.alloc (.cells #[.int .i64 0, .int .u8 0, .int .i64 0] 47) = w5 at S4 ⊢
  refine (of_none S4.out.bk ((f : Int) + (k : Int)) (by have := HF.out; have := HK.out; omega) (puts_out (by omega))).mono ?_
  rintro e w6 ⟨rfl, hk6⟩
  have S6 := hide (S4.out.next (hk6.alloc (.cells #[.int .i64 0, .int .u8 0, .int .i64 0] 47)))
  clear hk6 S4 hwm
  go_wp2_with fail
  generalize w6.alloc (.cells #[.int .i64 0, .int .u8 0, .int .i64 0] 47) = w7 at S6 ⊢
  go_loopw [16] (fun v wr => ∃ j : Nat, f ≤ j ∧ j ≤ f + k ∧ v = .int .i64 j ∧ BS w wr p b 8 (0 + k) (puts (fun _ => none) f (1, (s : Int), 0) k)) (fun v _ => f + k - (intOf v).toNat)
  case atStart => exact ⟨f, Nat.le_refl _, by omega, rfl, S6.out⟩
  case round =>
    obtain ⟨j, hj1, hj2, rfl, hS⟩ := hrel
    have S := hide hS
    clear hS S6
    by_cases hj : j < f + k
    · have hji : (j : Int) < (f : Int) + (k : Int) := by omega
      have hj9 : j ≤ 8000 := by have := HF.out; have := HK.out; omega
      have hss : ((s : Int) != (s : Int)) = false := by simp
      have HO := hide (of_bind S.out.bk (j : Int) (by omega) s (puts_in (by omega)))
      go_wp2_with fail
      refine HO.out.mono ?_
      rintro e w8 ⟨rfl, hk8⟩
      have S8 := hide (S.out.next (hk8.alloc (.cells #[.int .i64 1, .int .u8 s, .int .i64 0] 47)))
      obtain ⟨r0, r1, r2⟩ := row3 w8 47 (.int .i64 1) (.int .u8 s) (.int .i64 0)
      clear hk8 S HO r0 r2
      go_wp2
      go_roundw
      case rel => exact ⟨j + 1, by omega, by omega, by go_num, S8.out⟩
      case measure => simp [intOf]; omega
    · have hji : ¬ (j : Int) < (f : Int) + (k : Int) := by omega
      have S0 := hide S.out
      clear S hj1 hj2 hj
      go_wp2_with fail
      refine (S0.out.clear f k HK.out.1 (by have := HF.out; have := HK.out; omega)).mono ?_
      rintro e w8 ⟨rfl, hS⟩
      have S8 := hide hS
      clear hS S0 hji
      go_wp2_with fail
      go_loopw [19] (fun v wr => ∃ j : Nat, f ≤ j ∧ j ≤ f + k ∧ v = .int .i64 j ∧ BS w wr p b 8 (0 + k) (dels (puts (fun _ => none) f (1, (s : Int), 0) k) f k)) (fun v _ => f + k - (intOf v).toNat)
      case atStart => exact ⟨f, Nat.le_refl _, by omega, rfl, S8.out⟩
      case round =>
        obtain ⟨j, hj1, hj2, rfl, hS⟩ := hrel
        have S := hide hS
        clear hS S8
        by_cases hj : j < f + k
        · have hji : (j : Int) < (f : Int) + (k : Int) := by omega
          have hj9 : j ≤ 8000 := by have := HF.out; have := HK.out; omega
          go_wp2_with fail
          refine (of_none S.out.bk (j : Int) (by omega) (dels_puts _ _ _ _)).mono ?_
          rintro e w9 ⟨rfl, hk9⟩
          have S9 := hide (S.out.next (hk9.alloc (.cells #[.int .i64 0, .int .u8 0, .int .i64 0] 47)))
          clear hk9 S
          go_wp2_with fail
          refine (ok_none S9.out.bk (j : Int) (okI_nat (by omega) (by omega)) (dels_puts _ _ _ _) 7 (by decide)).mono ?_
          rintro e w10 ⟨rfl, hk10⟩
          have S10 := hide (S9.out.next hk10)
          clear hk10 S9
          go_wp2
          go_roundw
          case rel => exact ⟨j + 1, by omega, by omega, by go_num, S10.out⟩
          case measure => simp [intOf]; omega
        · have hji : ¬ (j : Int) < (f : Int) + (k : Int) := by omega
          go_wp2
          go_ret
          exact ⟨rfl, S.out.kept⟩

theorem own : ownKnob Try.prog.godebug = none := by kernel_rfl
theorem laidOut : laidOutB Try.prog = true := by kernel_rfl

set_option maxRecDepth 100000 in
theorem lifted (os : Os) (started : os.Started) (H : Type) (enc : TypeId × Value → H) :
    ReturnsInHanded {} Try.checked os 5 .any (Rows.bindEdgesSpec.pre6 enc Try.prog Try.f5 Rows.bindEdgesRow.domain false) (Rows.bindEdgesSpec.post enc Try.prog Try.f5 false true false false) := by
  refine returnsInHanded_of_change (C := Try.checked) own started (by kernel_rfl) Try.func5
    (ChangeSpec.witness6 (enc := enc) (C := Try.checked) false ⟨#[], #[.int .i64 0, .int .i64 0, .int .u8 0], []⟩ 8 (by kernel_rfl) (by kernel_rfl) (by kernel_rfl) (by kernel_rfl)) ?_
  intro W base args ds gs before hval0 hW hcnd _
  have hval : ∀ (j : Nat) t v, Try.f5.params[j]? = some t → args[j]? = some v → Value.okWide Try.prog W .any base t v := hval0
  have hW' := hW
  obtain ⟨p, q, hA0, hV, rfl, hfz, hnd⟩ := hW
  have hA : DataW.TrodAll enc Try.prog W 0 (fun _ => true) true Try.f5.params.toList args.toList ds p := hA0
  have hK := hA
  rw [Try.params5] at hA hval
  obtain ⟨v0, vs0, d0, ds0, p0, q0, hargs, rfl, rfl, h0, r0⟩ := trodAll_cons hA
  obtain ⟨v1, vs1, d1, ds1, p1, q1, rfl, rfl, rfl, h1, r1⟩ := trodAll_cons r0
  obtain ⟨v2, vs2, d2, ds2, p2, q2, rfl, rfl, rfl, h2, r2⟩ := trodAll_cons r1
  obtain ⟨rfl, rfl, rfl⟩ := trodAll_nil r2
  obtain rfl : args = #[v0, v1, v2] := by cases args; simp_all
  obtain ⟨rfl, rfl⟩ := trodVars_none hV
  obtain ⟨x, rfl, rfl, rfl, w0⟩ := open_int Try.underlying3 (hval 0 3 v0 rfl rfl) h0
  obtain ⟨n, rfl, rfl, rfl, w1⟩ := open_int Try.underlying3 (hval 1 3 v1 rfl rfl) h1
  obtain ⟨s, rfl, rfl, rfl, w2⟩ := open_int Try.underlying5 (hval 2 5 v2 rfl rfl) h2
  obtain ⟨sn, rfl⟩ := Int.eq_ofNat_of_zero_le (bounds_u8 w2).1
  clear hA0 hval0
  refine (walk x n sn W).mono fun e W' ⟨he, hk⟩ => ?_
  subst he
  exact ⟨_, rfl, _, _, _, [], _, [], hW', trodAll_mk1 (shut_bool Try.underlying4 _), trodAll_below laidOut hk.below _ _ _ _ hK (by kernel_rfl), rfl, hk.below.frame _, fun h => by cases h⟩

theorem said : Rows.BindEdgesSaid :=
  OpenClaim.holds_of_wide 5 Try.f5 rfl rfl rfl rfl rfl rfl rfl ⟨rfl, rfl, rfl, rfl, rfl⟩ rfl rfl rfl rfl rfl (by kernel_rfl) Try.func5 (by kernel_rfl)
    (of_decide_eq_true (by kernel_rfl)) (by unfold Func.isWrapper; first | (rw [if_pos (by decide +kernel)]; kernel_rfl) | (rw [if_neg (by decide +kernel)]; exact ⟨rfl, rfl⟩))
    (fun os started H enc _ => lifted os started H enc)
end Go.Proofs.Ytbejafjpdplofac.LE
