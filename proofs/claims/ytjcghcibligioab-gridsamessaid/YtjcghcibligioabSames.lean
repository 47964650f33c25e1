/-
  GridSames: for all numbers of rows and columns and every place the law answers true, and its arguments read behind the call as before. No condition.
-/
import Derived.Test.YtjcghcibligioabGrids
import Derived.Test.YtjcghcibligioabSameS
import Derived.Test.YtjcghcibligioabTurnedS
import Derived.Test.YtjcghcibligioabLift2
namespace Go.Proofs.Ytjcghcibligioab.sames
open Go.ChangeShapes Go.WideShapes Go.ChangeAt Go.RowKit GS

theorem side (x : Int) : ∃ m : Nat, 1 ≤ m ∧ m ≤ 6 ∧ wrap64 (1 + wrap64 ((IntKind.u64.wrap x).tmod 6)) = m := by
  obtain ⟨r, hr, er⟩ := mod_small x 6 (by decide) (by decide)
  exact ⟨r + 1, by omega, by omega, by rw [er, IntWalk.wrap64_in _ ⟨by omega, by omega⟩]; omega⟩

/-- What stands at the places: nothing, but x at place p. -/
def one (p : Nat) (x : ByteArray) (j : Nat) : ByteArray := if j = p then x else ByteArray.empty

theorem same_true {b : Bool} {m n : Nat} {f : Nat → ByteArray} (h : SameIs b m n f m n f) : b = true := h.2 ⟨rfl, rfl, fun _ _ => rfl⟩
theorem same_false {b : Bool} {m n : Nat} {f f' : Nat → ByteArray} (h : SameIs b m n f m n f') (i : Nat) (hi : i < m * n) (hne : f i ≠ f' i) : b = false := by
  cases b
  · rfl
  · exact absurd ((h.1 rfl).2.2 i hi) hne
theorem same_sides {b : Bool} {m n m' n' : Nat} {f f' : Nat → ByteArray} (h : SameIs b m n f m' n' f') (hne : m ≠ m') : b = false := by
  cases b
  · rfl
  · exact absurd (h.1 rfl).1 hne
def ex : ByteArray := ⟨#[120]⟩
theorem ex_ne : ex ≠ ByteArray.empty := by
  intro h
  have := congrArg ByteArray.size h
  exact absurd this (by decide)

set_option maxHeartbeats 1000000 in
theorem walk (rows cols a0 a1 : Int) (w : World) :
    Calls Try.prog 6 #[.int .i64 rows, .int .i64 cols, .agg #[.int .i64 a0, .int .i64 a1]] w fun e w' => e = .returned (.bool true) ∧ Kept [] w w' := by
  obtain ⟨m, hm1, hm6, em⟩ := side rows
  obtain ⟨n, hn1, hn6, en⟩ := side cols
  obtain ⟨r, hr, er⟩ := mod_small a0 m (by omega) (by omega)
  obtain ⟨k, hk, ek⟩ := mod_small a1 n (by omega) (by omega)
  have um : IntKind.u64.wrap (m : Int) = m := IntWalk.u64_in _ ⟨by omega, by omega⟩
  have un : IntKind.u64.wrap (n : Int) = n := IntWalk.u64_in _ ⟨by omega, by omega⟩
  have EM := hide em
  have EN := hide en
  have ER := hide er
  have EK := hide ek
  clear em en er ek
  go_enter Try.func6, Try.ntmps6
  go_wp2_with fail
  rw [EM.out, EN.out]
  refine (new_ok m n (by omega) (by omega)).mono ?_
  rintro e w1 ⟨ga, ca, rfl, hA, hga, hca, k1⟩
  have c0 : w1.cell? ⟨w.heap.size, 0, none⟩ = some (.int .i64 a0) := k1.cell (by simp) (by simp)
  have c1 : w1.cell? ⟨w.heap.size, 1, none⟩ = some (.int .i64 a1) := k1.cell (by simp) (by simp)
  have K1 := hide (((Kept.refl [] w).alloc (.cells #[.int .i64 a0, .int .i64 a1] 56)).next k1)
  have hlt1 : w.heap.size < w1.heap.size := by have := k1.size; simp at this; omega
  simp at hga hca
  clear k1
  go_wp2_with fail
  refine (new_ok m n (by omega) (by omega)).mono ?_
  rintro e w2 ⟨gb, cb, rfl, hB, hgb, hcb, k2⟩
  have c0 := k2.cell c0 (by simp)
  have c1 := k2.cell c1 (by simp)
  have hgA := hA.glt
  have hcA := hA.clt
  have hA := hA.kept k2 (by simp) (by simp)
  have K2 := hide (K1.out.next k2)
  clear k2
  go_wp2_with fail
  refine (new_ok n m (by omega) (by omega)).mono ?_
  rintro e w3 ⟨gc, cc, rfl, hC, hgc, hcc, k3⟩
  have c0 := k3.cell c0 (by simp)
  have c1 := k3.cell c1 (by simp)
  have hgB := hB.glt
  have hcB := hB.clt
  have hA := hA.kept k3 (by simp) (by simp)
  have hB := hB.kept k3 (by simp) (by simp)
  have K3 := hide (K2.out.next k3)
  clear k3
  have AA := hide hA
  have BB := hide hB
  have CC := hide hC
  clear hA hB hC
  go_wp2_with fail
  go_region
  rw [ER.out, EK.out]
  have hr2 : r < m := by omega
  have hk2 : k < n := by omega
  have hp : r * n + k < m * n := pos_lt hr2 hk2
  clear c0 c1 um un
  have K4 := hide (K3.out.drew)
  have AA := hide (AA.out.kept (Kept.refl [] w3).drew (by simp) (by simp))
  have BB := hide (BB.out.kept (Kept.refl [] w3).drew (by simp) (by simp))
  have CC := hide (CC.out.kept (Kept.refl [] w3).drew (by simp) (by simp))
  go_wp2_with fail
  refine (grids_true _).mono ?_
  rintro e w4 ⟨rfl, k4⟩
  have K5 := hide (K4.out.next k4)
  have AA := hide (AA.out.kept k4 (by simp) (by simp))
  have BB := hide (BB.out.kept k4 (by simp) (by simp))
  have CC := hide (CC.out.kept k4 (by simp) (by simp))
  clear k4
  go_wp2_with fail
  refine (same_ok (by exact AA.out) (by exact BB.out)).mono ?_
  rintro e w5 ⟨b1, rfl, s1, k5⟩
  obtain rfl := same_true s1
  have K6 := hide (K5.out.next k5)
  have AA := hide (AA.out.kept k5 (by simp) (by simp))
  have BB := hide (BB.out.kept k5 (by simp) (by simp))
  have CC := hide (CC.out.kept k5 (by simp) (by simp))
  clear k5 s1
  go_wp2_with fail
  refine (same_ok (by exact AA.out) (by exact CC.out)).mono ?_
  rintro e w6 ⟨b2, rfl, s2, k6⟩
  have K7 := hide (K6.out.next k6)
  have AA := hide (AA.out.kept k6 (by simp) (by simp))
  have BB := hide (BB.out.kept k6 (by simp) (by simp))
  have CC := hide (CC.out.kept k6 (by simp) (by simp))
  clear k6
  have hb2 : b2 = ((m : Int) == (n : Int)) := by
    by_cases e : m = n
    · subst e; rw [same_true s2]; simp
    · rw [same_sides s2 e]; symm; rw [beq_eq_false_iff_ne]; omega
  subst hb2
  clear s2
  go_wp2_with fail
  have nab : ga ≠ cb ∧ ca ≠ cb ∧ gb ≠ ca ∧ cb ≠ ca ∧ gc ≠ ca ∧ cc ≠ ca ∧ gc ≠ cb ∧ cc ≠ cb := by
    have := AA.out.ne
    have := BB.out.ne
    omega
  obtain ⟨n1, n2, n3, n4, n5, n6, n7, n8⟩ := nab
  have hex : (⟨#[120]⟩ : ByteArray) = ex := rfl
  rw [hex]
  refine (put_at r k rfl rfl ex (by exact AA.out) hr2 hk2).mono ?_
  rintro e w7 ⟨rfl, hA7, k7⟩
  have K8 := hide (K7.out.trans k7 (by intro x hx hl; simp at hx; omega))
  have AA := hide (hA7.congr (f' := one (r * n + k) ex) (fun i _ => rfl))
  have BB := hide (BB.out.kept k7 (by simpa using n3) (by simpa using n4))
  have CC := hide (CC.out.kept k7 (by simpa using n5) (by simpa using n6))
  clear hA7 k7
  go_wp2_with fail
  refine (same_ok (by exact AA.out) (by exact BB.out)).mono ?_
  rintro e w8 ⟨b3, rfl, s3, k8⟩
  obtain rfl := same_false s3 (r * n + k) hp (by unfold one; rw [if_pos rfl]; exact ex_ne)
  have K9 := hide (K8.out.next k8)
  have AA := hide (AA.out.kept k8 (by simp) (by simp))
  have BB := hide (BB.out.kept k8 (by simp) (by simp))
  have CC := hide (CC.out.kept k8 (by simp) (by simp))
  clear s3 k8
  go_wp2_with fail
  refine (put_at r k rfl rfl ex (by exact BB.out) hr2 hk2).mono ?_
  rintro e w9 ⟨rfl, hB9, k9⟩
  have K10 := hide (K9.out.trans k9 (by intro x hx hl; simp at hx; omega))
  have BB := hide (hB9.congr (f' := one (r * n + k) ex) (fun i _ => rfl))
  have AA := hide (AA.out.kept k9 (by simpa using n1) (by simpa using n2))
  have CC := hide (CC.out.kept k9 (by simpa using n7) (by simpa using n8))
  clear hB9 k9
  go_wp2_with fail
  refine (same_ok (by exact BB.out) (by exact AA.out)).mono ?_
  rintro e w10 ⟨b4, rfl, s4, k10⟩
  obtain rfl := same_true s4
  have K11 := hide (K10.out.next k10)
  have AA := hide (AA.out.kept k10 (by simp) (by simp))
  have BB := hide (BB.out.kept k10 (by simp) (by simp))
  have CC := hide (CC.out.kept k10 (by simp) (by simp))
  clear s4 k10
  go_wp2_with fail
  refine (turned_ok (by exact AA.out)).mono ?_
  rintro e w11 ⟨gs, cs, rfl, hTA, hgs, hcs, k11⟩
  have K12 := hide (K11.out.next k11)
  have AA := hide (AA.out.kept k11 (by simp) (by simp))
  have BB := hide (BB.out.kept k11 (by simp) (by simp))
  have CC := hide (CC.out.kept k11 (by simp) (by simp))
  clear k11
  go_wp2_with fail
  refine (turned_ok (by exact BB.out)).mono ?_
  rintro e w12 ⟨gt, ct, rfl, hTB, hgt, hct, k12⟩
  have TA := hide (hTA.kept k12 (by simp) (by simp))
  have TB := hide hTB
  have K13 := hide (K12.out.next k12)
  have AA := hide (AA.out.kept k12 (by simp) (by simp))
  have BB := hide (BB.out.kept k12 (by simp) (by simp))
  have CC := hide (CC.out.kept k12 (by simp) (by simp))
  clear hTA hTB k12
  go_wp2_with fail
  refine (same_ok (by exact TA.out) (by exact TB.out)).mono ?_
  rintro e w13 ⟨b5, rfl, s5, k13⟩
  obtain rfl := same_true s5
  have K14 := hide (K13.out.next k13)
  have AA := hide (AA.out.kept k13 (by simp) (by simp))
  have BB := hide (BB.out.kept k13 (by simp) (by simp))
  have CC := hide (CC.out.kept k13 (by simp) (by simp))
  clear s5 k13 TA TB
  go_wp2_with fail
  refine (turned_ok (by exact CC.out)).mono ?_
  rintro e w14 ⟨gu, cu, rfl, hTC, hgu, hcu, k14⟩
  have K15 := hide (K14.out.next k14)
  have AA := hide (AA.out.kept k14 (by simp) (by simp))
  have BB := hide (BB.out.kept k14 (by simp) (by simp))
  have CC := hide (CC.out.kept k14 (by simp) (by simp))
  have hc0 := hTC.c0
  clear hTC k14
  go_wp2_with fail
  refine (rows_any gu m _ hc0).mono ?_
  rintro e w15 ⟨rfl, rfl⟩
  clear hc0
  go_wp2_with fail
  refine (put_at r k rfl rfl _ (by exact AA.out) hr2 hk2).mono ?_
  rintro e w16 ⟨rfl, hA16, k16⟩
  have K16 := hide (K15.out.trans k16 (by intro x hx hl; simp at hx; omega))
  have BB := hide (BB.out.kept k16 (by simpa using n3) (by simpa using n4))
  go_wp2_with fail
  refine (same_ok (by exact hA16) (by exact BB.out)).mono ?_
  rintro e w17 ⟨b6, rfl, s6, k17⟩
  obtain rfl := same_false s6 (r * n + k) hp (by unfold one; rw [if_pos rfl, if_pos rfl]; exact fun h => ex_ne h.symm)
  have K17 := hide (K16.out.next k17)
  clear s6 k17 hA16 k16
  go_wp2_with fail
  go_ret
  exact ⟨rfl, K17.out⟩

theorem own : ownKnob Try.prog.godebug = none := by kernel_rfl
theorem laidOut : laidOutB Try.prog = true := by kernel_rfl

set_option maxRecDepth 100000 in
theorem lifted (os : Os) (started : os.Started) (H : Type) (enc : TypeId × Value → H) :
    ReturnsInHanded {} Try.checked os 6 .any (Rows.gridSamesSpec.pre6 enc Try.prog Try.f6 Rows.gridSamesRow.domain false) (Rows.gridSamesSpec.post enc Try.prog Try.f6 false true false false) := by
  refine returnsInHanded_of_change (C := Try.checked) own started (by kernel_rfl) Try.func6
    (ChangeSpec.witness6 (enc := enc) (C := Try.checked) false ⟨#[], #[.int .i64 0, .int .i64 0, .agg #[.int .i64 0, .int .i64 0]], []⟩ 8 (by kernel_rfl) (by kernel_rfl) (by kernel_rfl) (by kernel_rfl)) ?_
  intro W base args ds gs before hval0 hW hcnd _
  have hval : ∀ (j : Nat) t v, Try.f6.params[j]? = some t → args[j]? = some v → Value.okWide Try.prog W .any base t v := hval0
  have hW' := hW
  obtain ⟨p, q, hA0, hV, rfl, hfz, hnd⟩ := hW
  have hA : DataW.TrodAll enc Try.prog W 0 (fun _ => true) true Try.f6.params.toList args.toList ds p := hA0
  have hK := hA
  rw [Try.params6] at hA hval
  obtain ⟨v0, vs0, d0, ds0, p0, q0, hargs, rfl, rfl, h0, r0⟩ := trodAll_cons hA
  obtain ⟨v1, vs1, d1, ds1, p1, q1, rfl, rfl, rfl, h1, r1⟩ := trodAll_cons r0
  obtain ⟨v2, vs2, d2, ds2, p2, q2, rfl, rfl, rfl, h2, r2⟩ := trodAll_cons r1
  obtain ⟨rfl, rfl, rfl⟩ := trodAll_nil r2
  obtain rfl : args = #[v0, v1, v2] := by cases args; simp_all
  obtain ⟨rfl, rfl⟩ := trodVars_none hV
  obtain ⟨rows, rfl, rfl, rfl, w0⟩ := open_int Try.underlying3 (hval 0 3 v0 rfl rfl) h0
  obtain ⟨cols, rfl, rfl, rfl, w1⟩ := open_int Try.underlying3 (hval 1 3 v1 rfl rfl) h1
  obtain ⟨a0, a1, rfl, wa0, wa1⟩ := open_pair Try.underlying56 Try.underlying3 (by kernel_rfl) (by kernel_rfl) (hval 2 56 v2 rfl rfl) h2
  clear hA0 hval0
  refine (walk rows cols a0 a1 W).mono fun e W' ⟨he, hk⟩ => ?_
  subst he
  exact ⟨_, rfl, _, _, _, [], _, [], hW', trodAll_mk1 (shut_bool Try.underlying4 _), trodAll_below laidOut hk.below _ _ _ _ hK (by kernel_rfl), rfl, hk.below.frame _, fun h => by cases h⟩

theorem said : Rows.GridSamesSaid :=
  OpenClaim.holds_of_wide 6 Try.f6 rfl rfl rfl rfl rfl rfl rfl ⟨rfl, rfl, rfl, rfl, rfl⟩ rfl rfl rfl rfl rfl (by kernel_rfl) Try.func6 (by kernel_rfl)
    (of_decide_eq_true (by kernel_rfl)) (by unfold Func.isWrapper; first | (rw [if_pos (by decide +kernel)]; kernel_rfl) | (rw [if_neg (by decide +kernel)]; exact ⟨rfl, rfl⟩))
    (fun os started H enc _ => lifted os started H enc)
end Go.Proofs.Ytjcghcibligioab.sames
