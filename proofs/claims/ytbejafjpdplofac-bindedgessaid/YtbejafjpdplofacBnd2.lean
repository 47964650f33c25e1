
/-
  No statement of the program: the calls of package bind, over this seat's translation.
-/
import Derived.Test.YtbejafjpdplofacBnd
import Derived.OwnWalk
namespace Go.Proofs.Ytbejafjpdplofac.Bd
open Go.RowKit Go.Maps Go.WideMaps Go.ChangeShapes Go.WideShapes Go.ChangeAt
/-- The pages x to x + k - 1 have the policy y. -/
def puts (m : Int → Option T3) (x : Int) (y : T3) (k : Nat) : Int → Option T3 := fun j => if x ≤ j ∧ j < x + k then some y else m j
def dels (m : Int → Option T3) (x : Int) (k : Nat) : Int → Option T3 := fun j => if x ≤ j ∧ j < x + k then none else m j
theorem puts_zero (m : Int → Option T3) (x : Int) (y : T3) : puts m x y 0 = m := by funext j; unfold puts; rw [if_neg (by omega)]
theorem dels_zero (m : Int → Option T3) (x : Int) : dels m x 0 = m := by funext j; unfold dels; rw [if_neg (by omega)]
theorem puts_succ (m : Int → Option T3) (x : Int) (y : T3) (k : Nat) : mput (puts m x y k) (x + k) y = puts m x y (k + 1) := by
  funext j
  unfold mput puts
  by_cases e : j = x + k
  · rw [if_pos e, if_pos (by omega)]
  · rw [if_neg e]
    by_cases e2 : x ≤ j ∧ j < x + k
    · rw [if_pos e2, if_pos (by omega)]
    · rw [if_neg e2, if_neg (by omega)]
theorem dels_succ (m : Int → Option T3) (x : Int) (k : Nat) : mdel (dels m x k) (x + k) = dels m x (k + 1) := by
  funext j
  unfold mdel dels
  by_cases e : j = x + k
  · rw [if_pos e, if_pos (by omega)]
  · rw [if_neg e]
    by_cases e2 : x ≤ j ∧ j < x + k
    · rw [if_pos e2, if_pos (by omega)]
    · rw [if_neg e2, if_neg (by omega)]
theorem okI_nat {x : Int} (h : 0 ≤ x) (h2 : x ≤ 8192) : okI x := okI_of (by omega) (by omega)
theorem row3 (w : World) (t : TypeId) (a b c : Value) : (w.alloc (.cells #[a, b, c] t)).cell? ⟨w.heap.size, 0, none⟩ = some a ∧ (w.alloc (.cells #[a, b, c] t)).cell? ⟨w.heap.size, 1, none⟩ = some b ∧
    (w.alloc (.cells #[a, b, c] t)).cell? ⟨w.heap.size, 2, none⟩ = some c := by
  have h := World.rowIs_alloc w #[a, b, c] t (fun i => if i = 0 then a else if i = 1 then b else c) (by
    intro i hi
    match i, hi with
    | 0, _ => rfl
    | 1, _ => rfl
    | 2, _ => rfl)
  exact ⟨h.cell (i := 0) (by simp), h.cell (i := 1) (by simp), h.cell (i := 2) (by simp)⟩
section
variable {w : World} {p b nd n : Nat} {m : Int → Option T3}
set_option maxHeartbeats 2000000 in
theorem set_ok (h : BK w p b nd n m) (x k : Nat) (h1 : 1 ≤ k) (h2 : x + k ≤ 4096) (hn : n ≤ 100000) (pm : Int) (ps : Nat) (pn : Int) (hps : ps < 256) (hc : PO.chk pm ps pn nd = 0) :
    Calls Try.prog 15 #[.pointer (some ⟨p, 0, none⟩), .int .i64 x, .int .i64 k, .agg #[.int .i64 pm, .int .u8 ps, .int .i64 pn]] w fun e w' => e = .returned (.int .i64 0) ∧ BK w' p b nd (n + k) (puts m x (pm, (ps : Int), pn) k) ∧ Kept [b] w w' := by
  have K1 := (Kept.refl [] w).alloc (.cells #[.int .i64 pm, .int .u8 ps, .int .i64 pn] 47)
  obtain ⟨r0, r1, r2⟩ := row3 w 47 (.int .i64 pm) (.int .u8 ps) (.int .i64 pn)
  have HB := hide (h.kept0 K1)
  have hbl := h.map.lt
  have hwb := hide (show w.heap.size ∉ [b] by simp; omega)
  have hpb := hide (show p ∉ [b] by simpa using h.ne)
  have hcheck := fun w => PO.check_any pm ps pn nd hps w
  rw [hc] at hcheck
  have HCH := hide hcheck
  have KK := hide (K1.mono (M := [b]) (fun _ h _ => by cases h))
  clear h hc hcheck K1 hbl
  go_enter Try.func15, Try.ntmps15
  go_wp2_with fail
  generalize w.alloc (.cells #[.int .i64 pm, .int .u8 ps, .int .i64 pn] 47) = w1 at *
  refine (bmade_ok HB.out).mono ?_
  rintro e w' ⟨rfl, hw⟩
  subst w'
  go_wp2_with fail
  refine (are_ok x k h1 h2 w1).mono ?_
  rintro e w' ⟨rfl, hw⟩
  subst w'
  have f0 := HB.out.f0
  have f1 := HB.out.f1
  go_wp2_with fail
  go_region_held3 (fun w' => w'.cell? ⟨p, 0, none⟩ = some (.int .i64 nd) ∧ w'.cell? ⟨w.heap.size, 0, none⟩ = some (.int .i64 pm) ∧ w'.cell? ⟨w.heap.size, 1, none⟩ = some (.int .u8 ps) ∧ w'.cell? ⟨w.heap.size, 2, none⟩ = some (.int .i64 pn)) (go_keep) (first | (go_at_call 24; refine (HCH.out _).mono ?_; rintro e w3 ⟨rfl, hk3⟩; have hk4 : Kept [] w1 w3 := ⟨hk3.os, hk3.tape, hk3.output, hk3.size, hk3.block⟩; have y3 := hk4.cell f0 (by simp); have t0 := hk4.cell r0 (by simp); have t1 := hk4.cell r1 (by simp); have t2 := hk4.cell r2 (by simp)))
  all_goals
    rename_i hHeld
    clear hHeld
    have B3 := hide (HB.out.kept0 hk4)
    have K3 := hide (KK.out.trans hk4 (fun _ hx _ => by cases hx))
    have R0 := hide (hk4.cell r0 (by simp))
    have R1 := hide (hk4.cell r1 (by simp))
    have R2 := hide (hk4.cell r2 (by simp))
    clear hk3 hk4 y3 t0 t1 t2 f0 f1 r0 r1 r2 HB KK HCH
    go_wp2_with fail
    go_loopw [10, 30] (fun v0 v wr => ∃ j : Nat, j ≤ k ∧ v = .int .i64 j ∧ BK wr p b nd (n + j) (puts m x (pm, (ps : Int), pn) j) ∧ Kept [b] w wr ∧ wr.cell? ⟨w.heap.size, 0, none⟩ = some (.int .i64 pm) ∧ wr.cell? ⟨w.heap.size, 1, none⟩ = some (.int .u8 ps) ∧ wr.cell? ⟨w.heap.size, 2, none⟩ = some (.int .i64 pn)) (fun _ v _ => k - (intOf v).toNat)
    case atStart => exact ⟨0, Nat.zero_le _, rfl, by rw [puts_zero]; exact B3.out, K3.out, R0.out, R1.out, R2.out⟩
    case round =>
      obtain ⟨j, hj, rfl, hB, hK, q0, q1, q2⟩ := hrel
      have BJ := hide hB
      have KJ := hide hK
      have f1 := hB.f1
      clear hB hK B3 K3 R0 R1 R2
      by_cases hjk : j < k
      · have hji : (j : Int) < (k : Int) := by omega
        have hwx : IntKind.i64.wrap ((x : Int) + (j : Int)) = (x : Int) + (j : Int) := by rw [IntKind.wrap_i64]; omega
        obtain ⟨D, g1, g2⟩ := BJ.out.map
        have hok : okI ((x : Int) + (j : Int)) := okI_nat (by omega) (by omega)
        obtain ⟨w5, hrun, g3, g4⟩ := (show wr.drew.ownsMap Try.prog 3 rP b (n + j) D from g1).update kI Try.underlying57 (by unfold maxLen; omega) (keyI hok) (show rP (.agg #[.int .i64 pm, .int .u8 ps, .int .i64 pn]) = some (eP (pm, (ps : Int), pn), []) from rfl)
        have m5 := MapP.put g3 g1.isMap g2 hok
        have k5 : Kept [b] wr w5 := (Kept.refl [b] wr).drew.trans (Kept.of_grownBy (L := [b]) g4 (by intro j hj _; cases hj; simp)) (fun _ h _ => h)
        rw [puts_succ] at m5
        have M5 := hide m5
        have K5 := hide k5
        clear g1 g2 g3 g4 hok m5 k5
        go_wp2_with fail
        go_region
        have B5 := hide (show BK w5 p b nd (n + (j + 1)) (puts m x (pm, (ps : Int), pn) (j + 1)) from ⟨K5.out.row BJ.out.row hpb.out, M5.out, BJ.out.ne⟩)
        have KJ5 := hide (KJ.out.trans K5.out (fun _ hx _ => hx))
        have t0 := hide (K5.out.cell q0 hwb.out)
        have t1 := hide (K5.out.cell q1 hwb.out)
        have t2 := hide (K5.out.cell q2 hwb.out)
        clear hrun M5 K5 q0 q1 q2 f1 BJ KJ
        go_wp2
        go_roundw
        case rel => exact ⟨j + 1, by omega, by go_num, B5.out, KJ5.out, t0.out, t1.out, t2.out⟩
        case measure => simp [intOf]; omega
      · have hji : ¬ (j : Int) < (k : Int) := by omega
        have hje : j = k := by omega
        subst hje
        go_wp2
        go_ret
        exact ⟨rfl, BJ.out, KJ.out⟩
set_option maxHeartbeats 1000000 in
theorem clear_ok (h : BK w p b nd n m) (x k : Nat) (h1 : 1 ≤ k) (h2 : x + k ≤ 4096) :
    Calls Try.prog 17 #[.pointer (some ⟨p, 0, none⟩), .int .i64 x, .int .i64 k] w fun e w' => e = .returned (.int .i64 0) ∧ BK w' p b nd n (dels m x k) ∧ Kept [b] w w' := by
  have HB := hide h
  have hpb := hide (show p ∉ [b] by simpa using h.ne)
  clear h
  go_enter Try.func17, Try.ntmps17
  go_wp2_with fail
  refine (bmade_ok HB.out).mono ?_
  rintro e w' ⟨rfl, hw⟩
  subst w'
  go_wp2_with fail
  refine (are_ok x k h1 h2 w).mono ?_
  rintro e w' ⟨rfl, hw⟩
  subst w'
  go_wp2_with fail
  go_loopw [7, 18] (fun v0 v wr => ∃ j : Nat, j ≤ k ∧ v = .int .i64 j ∧ BK wr p b nd n (dels m x j) ∧ Kept [b] w wr) (fun _ v _ => k - (intOf v).toNat)
  case atStart => exact ⟨0, Nat.zero_le _, rfl, by rw [dels_zero]; exact HB.out, Kept.refl _ _⟩
  case round =>
    obtain ⟨j, hj, rfl, hB, hK⟩ := hrel
    have BJ := hide hB
    have KJ := hide hK
    have f1 := hB.f1
    clear hB hK HB
    by_cases hjk : j < k
    · have hji : (j : Int) < (k : Int) := by omega
      have hwx : IntKind.i64.wrap ((x : Int) + (j : Int)) = (x : Int) + (j : Int) := by rw [IntKind.wrap_i64]; omega
      have OK := hide (show okI ((x : Int) + (j : Int)) from okI_nat (by omega) (by omega))
      go_wp2_with (at_delete; refine wpList_dropP rfl _ _ 57 rfl Try.underlying57 (dels m x j) b n rfl BJ.out.map ((x : Int) + (j : Int)) rfl OK.out ?_)
      intro w5 m5 k5
      rw [dels_succ] at m5
      have B5 := hide (show BK w5 p b nd n (dels m x (j + 1)) from ⟨k5.row BJ.out.row hpb.out, m5, BJ.out.ne⟩)
      have KJ5 := hide (KJ.out.trans k5 (fun _ hx _ => hx))
      clear m5 k5 BJ KJ f1
      go_wp2
      go_roundw
      case rel => exact ⟨j + 1, by omega, by go_num, B5.out, KJ5.out⟩
      case measure => simp [intOf]; omega
    · have hji : ¬ (j : Int) < (k : Int) := by omega
      have hje : j = k := by omega
      subst hje
      go_wp2
      go_ret
      exact ⟨rfl, BJ.out, KJ.out⟩
set_option maxHeartbeats 1000000 in
theorem of_ok (h : BK w p b nd n m) (x : Int) (hx : okI x) (o : Option T3) (ho : m x = o) :
    Calls Try.prog 16 #[.pointer (some ⟨p, 0, none⟩), .int .i64 x] w fun e w' => e = .returned (.tuple #[vP (o.getD (0, 0, 0)), .bool o.isSome]) ∧ Kept [] w w' := by
  have K0 := (Kept.refl [] w).alloc (.cells #[.int .i64 0, .int .u8 0, .int .i64 0] 47)
  have HB := hide (h.kept0 K0)
  have HX := hide hx
  obtain ⟨⟨a1, a2, a3⟩, ha⟩ : ∃ y, o.getD (0, 0, 0) = y := ⟨_, rfl⟩
  have HO := hide ho
  have hR : Value.tuple #[vP ((m x).getD (0, 0, 0)), .bool (m x).isSome] = .tuple #[.agg #[.int .i64 a1, .int .u8 a2, .int .i64 a3], .bool o.isSome] := by rw [ho, ha]; rfl
  have HR := hide hR.symm
  rw [ha]
  have f1 := HB.out.f1
  have KA := hide (K0)
  clear h hx ho hR K0 ha
  generalize o.isSome = bo at *
  unfold vP
  go_enter Try.func16, Try.ntmps16
  go_wp2_with fail
  refine (bmade_ok HB.out).mono ?_
  rintro e w' ⟨rfl, hw⟩
  subst w'
  go_wp2_with (at_lookup; refine wpList_findP rfl _ _ 57 rfl Try.underlying57 m b n rfl HB.out.map x rfl HX.out (.tuple #[.agg #[.int .i64 a1, .int .u8 a2, .int .i64 a3], .bool bo]) HR.out ?_)
  have KR := hide (((Kept.refl [] w).alloc (.cells #[.int .i64 a1, .int .u8 a2, .int .i64 a3] 47)).alloc (.cells #[.int .i64 a1, .int .u8 a2, .int .i64 a3] 47))
  obtain ⟨r0, r1, r2⟩ := row3 w 47 (.int .i64 a1) (.int .u8 a2) (.int .i64 a3)
  have k2 := (Kept.refl [] (w.alloc (.cells #[.int .i64 a1, .int .u8 a2, .int .i64 a3] 47))).alloc (.cells #[.int .i64 a1, .int .u8 a2, .int .i64 a3] 47)
  have r0 := k2.cell r0 (by simp)
  have r1 := k2.cell r1 (by simp)
  have r2 := k2.cell r2 (by simp)
  clear k2
  generalize ((w.alloc (.cells #[.int .i64 a1, .int .u8 a2, .int .i64 a3] 47)).alloc (.cells #[.int .i64 a1, .int .u8 a2, .int .i64 a3] 47)) = w1 at r0 r1 r2 KR ⊢
  refine bodyPost_ret (by simp [results, Try.results16, go_sem, r0, r1, r2]; try rfl) rfl ?_
  exact ⟨rfl, KR.out⟩
theorem ok_out (h : BK w p b nd n m) (x nn : Int) (hn : ¬ (0 ≤ nn ∧ nn < nd)) : Calls Try.prog 18 #[.pointer (some ⟨p, 0, none⟩), .int .i64 x, .int .i64 nn] w fun e w' => e = .returned (.bool false) ∧ w' = w := by
  have HB := hide h
  have f0 := h.f0
  clear h
  by_cases h0 : nn < 0
  · clear hn
    go_enter Try.func18, Try.ntmps18
    go_wp2_with (go_at_call 22; refine (bmade_ok HB.out).mono ?_; rintro e w' ⟨rfl, hw⟩; subst w')
    go_ret
    exact ⟨rfl, rfl⟩
  · have h1 : (nd : Int) ≤ nn := by omega
    clear hn
    go_enter Try.func18, Try.ntmps18
    go_wp2_with (go_at_call 22; refine (bmade_ok HB.out).mono ?_; rintro e w' ⟨rfl, hw⟩; subst w')
    go_ret
    exact ⟨rfl, rfl⟩
set_option maxHeartbeats 1000000 in
theorem ok_none (h : BK w p b nd n m) (x : Int) (hx : okI x) (hm : m x = none) (nn : Nat) (hn : nn < nd) : Calls Try.prog 18 #[.pointer (some ⟨p, 0, none⟩), .int .i64 x, .int .i64 nn] w fun e w' => e = .returned (.bool true) ∧ Kept [] w w' := by
  have HB := hide h
  have f0 := h.f0
  have HO := hide (of_ok h x hx none hm)
  have h0 : ¬ (nn : Int) < 0 := by omega
  have h1 : ¬ (nd : Int) ≤ (nn : Int) := by omega
  clear h hx hm
  unfold vP at HO
  simp only [Option.getD_none, Option.isSome_none] at HO
  go_enter Try.func18, Try.ntmps18
  go_wp2_with (first | (go_at_call 22; refine (bmade_ok HB.out).mono ?_; rintro e w' ⟨rfl, hw⟩; subst w') | (go_at_call 16; refine HO.out.mono ?_; rintro e w2 ⟨rfl, hk2⟩))
  go_ret
  exact ⟨rfl, hk2.alloc _⟩
set_option maxHeartbeats 1000000 in
theorem ok_bind (h : BK w p b nd n m) (x : Int) (hx : okI x) (s : Nat) (hs : s < 256) (pn : Int) (hm : m x = some (1, (s : Int), pn)) (nn : Nat) (hn : nn < nd) : Calls Try.prog 18 #[.pointer (some ⟨p, 0, none⟩), .int .i64 x, .int .i64 nn] w fun e w' => e = .returned (.bool (ND.hasB s nn)) ∧ Kept [] w w' := by
  have HB := hide h
  have f0 := h.f0
  have HO := hide (of_ok h x hx _ hm)
  have HH := hide (fun w => ND.has_any s nn hs w)
  have h0 : ¬ (nn : Int) < 0 := by omega
  have h1 : ¬ (nd : Int) ≤ (nn : Int) := by omega
  clear h hx hm
  unfold vP at HO
  simp only [Option.getD_some, Option.isSome_some] at HO
  generalize ND.hasB s nn = bh at *
  go_enter Try.func18, Try.ntmps18
  go_wp2_with (first | (go_at_call 22; refine (bmade_ok HB.out).mono ?_; rintro e w' ⟨rfl, hw⟩; subst w') | (go_at_call 16; refine HO.out.mono ?_; rintro e w2 ⟨rfl, hk2⟩; have K2 := hide hk2; obtain ⟨r0, r1, r2⟩ := row3 w2 47 (.int .i64 1) (.int .u8 s) (.int .i64 pn); clear hk2) | (go_at_call 25; refine (HH.out _).mono ?_; rintro e w' ⟨rfl, hw⟩; subst w'))
  go_ret
  exact ⟨rfl, K2.out.alloc _⟩
end
end Go.Proofs.Ytbejafjpdplofac.Bd
