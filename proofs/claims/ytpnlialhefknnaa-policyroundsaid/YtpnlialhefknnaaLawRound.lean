/-
  The walk of 'messuagelaw10.PolicyRound', and the given statement of it.
-/
import Derived.Test.YtpnlialhefknnaaPolRef
import Derived.Test.YtpnlialhefknnaaOpenAgg
import Derived.Test.YtpnlialhefknnaaRows
import Derived.Deep.OwnRows
import Derived.Deep.RegionHeld
namespace Go.Proofs.Ytpnlialhefknnaa.LR
open Go.ChangeShapes Go.WideShapes Go.ChangeAt Go.RowKit ND PO
/-- The node that comes k starts behind the one at place i. -/
def at_ (l : List Int) (i k : Nat) : Int := l.getD ((i + k) % l.length) 0
def vis (l : List Int) (i k : Nat) (y : Int) : Bool := (List.range k).any (fun j => at_ l i j == y)
theorem vis_succ (l : List Int) (i k : Nat) (y : Int) : vis l i (k + 1) y = (vis l i k y || (at_ l i k == y)) := by
  unfold vis; rw [List.range_succ, List.any_append]; simp
theorem cyc : ∀ s, s < 256 → ∀ i, i < (nodes s).length → (nextOf (nodes s) ((nodes s).getD i 0)).1 = (nodes s).getD ((i + 1) % (nodes s).length) 0 := by decide +kernel
theorem lens : ∀ s, s < 256 → Lib.onesCount s = (nodes s).length := by decide +kernel
theorem apart : ∀ s, s < 256 → ∀ i, i < (nodes s).length → ∀ j, j < (nodes s).length → (nodes s).getD i 0 = (nodes s).getD j 0 → i = j := by decide +kernel
theorem mem_get {l : List Int} {i : Nat} (h : i < l.length) : l.getD i 0 ∈ l := by
  rw [List.getD_eq_getElem?_getD, List.getElem?_eq_getElem h]; exact List.getElem_mem h
theorem first (s : Nat) (hs : s ≠ 0) (h2 : s < 256) (cur : Int) : ∃ i, i < (nodes s).length ∧ (nextOf (nodes s) cur).1 = (nodes s).getD i 0 := by
  have hl := (PR.last_max s h2 hs).1
  cases hn : nodes s with
  | nil => rw [hn] at hl; simp at hl
  | cons x r =>
    unfold nextOf
    simp only []
    cases hf : (x :: r).find? (fun y => decide (cur < y)) with
    | none => exact ⟨0, by simp, rfl⟩
    | some y =>
      have hm : y ∈ x :: r := List.mem_of_find?_eq_some hf
      obtain ⟨i, hi, e⟩ := List.getElem_of_mem hm
      refine ⟨i, hi, ?_⟩
      rw [List.getD_eq_getElem?_getD, List.getElem?_eq_getElem hi, e]; rfl
/-- The cursor behind k starts. -/
def cu (l : List Int) (i : Nat) (cur : Int) : Nat → Int
  | 0 => cur
  | k + 1 => at_ l i k
theorem step {s i : Nat} {cur : Int} (hs : s < 256) (h : i < (nodes s).length) (hi : (nextOf (nodes s) cur).1 = (nodes s).getD i 0) (k : Nat) : (nextOf (nodes s) (cu (nodes s) i cur k)).1 = at_ (nodes s) i k := by
  cases k with
  | zero => show (nextOf (nodes s) cur).1 = _; rw [hi]; unfold at_; rw [Nat.add_zero, Nat.mod_eq_of_lt h]
  | succ k =>
    show (nextOf (nodes s) (at_ (nodes s) i k)).1 = _
    unfold at_
    rw [cyc s hs _ (Nat.mod_lt _ (by omega))]
    congr 1
    rw [Nat.mod_add_mod, Nat.add_assoc]
theorem fresh {s i k : Nat} (hs : s < 256) (h : i < (nodes s).length) (hk : k < (nodes s).length) : vis (nodes s) i k (at_ (nodes s) i k) = false := by
  unfold vis
  rw [List.any_eq_false]
  intro j hj he
  have hjk : j < k := List.mem_range.1 hj
  have e : at_ (nodes s) i j = at_ (nodes s) i k := by simpa using he
  have e2 := apart s hs _ (Nat.mod_lt _ (by omega)) _ (Nat.mod_lt _ (by omega)) e
  have hl : 0 < (nodes s).length := by omega
  have a1 := Nat.div_add_mod (i + j) (nodes s).length
  have a2 := Nat.div_add_mod (i + k) (nodes s).length
  rw [e2] at a1
  generalize (nodes s).length = n at *
  generalize (i + k) % n = r at *
  have hd : (i + j) / n = (i + k) / n ∨ (i + j) / n + 1 ≤ (i + k) / n := by
    have := Nat.div_le_div_right (c := n) (show i + j ≤ i + k by omega)
    omega
  rcases hd with hd | hd
  · rw [hd] at a1; omega
  · have := Nat.mul_le_mul_left n hd
    rw [Nat.mul_add] at this
    omega
theorem at_in {s i k : Nat} (_hs : s < 256) (h : i < (nodes s).length) : ∃ x : Nat, at_ (nodes s) i k = x ∧ x < 8 ∧ s.testBit x = true := by
  have hm := pre_mem (mem_get (l := nodes s) (i := (i + k) % (nodes s).length) (Nat.mod_lt _ (by omega)))
  obtain ⟨x, hx⟩ := Int.eq_ofNat_of_zero_le hm.1
  refine ⟨x, hx, ?_, ?_⟩
  · have := hm.2.1; rw [hx] at this; omega
  · have := hm.2.2; rw [hx] at this; simpa using this
set_option maxHeartbeats 2000000 in
set_option maxRecDepth 20000 in
theorem law_any (s : Nat) (cur : Int) (hs : s < 256) (w : World) : Calls Try.prog 4 #[.int .u8 s, .int .i64 cur] w fun e w' => e = .returned (.bool true) ∧ Kept [] w w' := by
  by_cases h0 : s = 0
  · subst h0
    go_enter Try.func4, Try.ntmps4
    go_wp2_with fail
    refine (PR.starts_true _).mono ?_
    rintro e w1 ⟨rfl, hK⟩
    have K1 := hide (((Kept.refl [] w).alloc (.cells #[.int .i64 2, .int .u8 0, .int .i64 0] 32)).next hK)
    clear hK
    go_wp2_with (go_at_call 11; refine (PR.starts_true _).mono ?_; rintro e w2 ⟨rfl, hK⟩; have K2 := hide (K1.out.next hK); clear hK)
    go_ret
    exact ⟨rfl, K2.out⟩
  · obtain ⟨i0, hi0, hfst⟩ := first s h0 hs cur
    have hst : ∀ k, k < (nodes s).length → ∀ w, Calls Try.prog 10 #[.agg #[.int .i64 2, .int .u8 s, .int .i64 0], .int .i64 8, .int .i64 0, .int .i64 (cu (nodes s) i0 cur k)] w fun e w' => e = .returned (.tuple #[.int .i64 (at_ (nodes s) i0 k), .int .i64 (at_ (nodes s) i0 k), .int .i64 0]) ∧ Kept [] w w' := by
      intro k hk w
      have h := PO.start_any 2 s 0 8 0 (cu (nodes s) i0 cur k) hs w
      have hc : chk 2 s 0 8 = 0 := by
        unfold chk
        rw [if_neg (by decide), if_neg (by decide), if_pos (by decide)]
        unfold setE
        rw [if_neg h0, if_pos]
        unfold belowB
        rw [List.all_eq_true]
        intro x hx
        have := pre_mem hx
        exact decide_eq_true (by omega)
      have e : startOf 2 s 0 8 0 (cu (nodes s) i0 cur k) = (at_ (nodes s) i0 k, at_ (nodes s) i0 k, 0) := by
        unfold startOf
        rw [if_pos hc, if_pos (by decide), if_pos rfl, step hs hi0 hfst]
      rw [e] at h
      exact h
    have HS := hide hst
    have hcnt := count_any s hs
    rw [lens s hs] at hcnt
    have hle : (nodes s).length ≤ 8 := pre_le s 8
    have hs0 : ¬ ((s : Int) = 0) := by omega
    clear hst hfst
    go_enter Try.func4, Try.ntmps4
    go_wp2_with fail
    refine (PR.starts_true _).mono ?_
    rintro e w1 ⟨rfl, hK⟩
    have c0 := hK.cell (p := ⟨w.heap.size, 0, none⟩) (v := .int .i64 2) (by simp) (by simp)
    have c1 := hK.cell (p := ⟨w.heap.size, 1, none⟩) (v := .int .u8 s) (by simp) (by simp)
    have c2 := hK.cell (p := ⟨w.heap.size, 2, none⟩) (v := .int .i64 0) (by simp) (by simp)
    have K1 := hide (((Kept.refl [] w).alloc (.cells #[.int .i64 2, .int .u8 s, .int .i64 0] 32)).next hK)
    have hsz := hK.size
    clear hK
    go_wp2_with fail
    have R1 := hide (World.rowIs_alloc w1 #[.bool false, .bool false, .bool false, .bool false, .bool false, .bool false, .bool false, .bool false] 44 (fun _ => .bool false) (by
      intro i hi
      match i, hi with
      | 0, _ => rfl
      | 1, _ => rfl
      | 2, _ => rfl
      | 3, _ => rfl
      | 4, _ => rfl
      | 5, _ => rfl
      | 6, _ => rfl
      | 7, _ => rfl))
    have K2 := hide (K1.out.alloc (.cells #[.bool false, .bool false, .bool false, .bool false, .bool false, .bool false, .bool false, .bool false] 44))
    have hka := (Kept.refl [] w1).alloc (.cells #[.bool false, .bool false, .bool false, .bool false, .bool false, .bool false, .bool false, .bool false] 44)
    have c0 := hka.cell c0 (by simp)
    have c1 := hka.cell c1 (by simp)
    have c2 := hka.cell c2 (by simp)
    clear hka
    generalize (w1.alloc (.cells #[.bool false, .bool false, .bool false, .bool false, .bool false, .bool false, .bool false, .bool false] 44)) = w2 at R1 K2 c0 c1 c2 ⊢
    have hb1 : w.heap.size ≠ w1.heap.size := by
      have := hsz
      simp at this
      omega
    have hbs : w.heap.size ≤ w1.heap.size := by
      have := hsz
      simp at this
      omega
    have hz : ((s : Int) == 0) = false := by simpa using hs0
    rw [hz]
    go_loopw [1, 7] (fun c i wr => ∃ k : Nat, k ≤ (nodes s).length ∧ i = .int .i64 k ∧ c = .int .i64 (cu (nodes s) i0 cur k) ∧ wr.rowIs w1.heap.size 44 8 (fun y => .bool (vis (nodes s) i0 k y)) ∧ Kept [] w wr ∧
      wr.cell? ⟨w.heap.size, 0, none⟩ = some (.int .i64 2) ∧ wr.cell? ⟨w.heap.size, 1, none⟩ = some (.int .u8 s) ∧ wr.cell? ⟨w.heap.size, 2, none⟩ = some (.int .i64 0)) (fun _ i _ => 8 - (intOf i).toNat)
    case atStart =>
      exact ⟨0, by omega, rfl, rfl, R1.out, K2.out, c0, c1, c2⟩
    case round =>
      obtain ⟨k, hk, rfl, rfl, hR, hKk, d0, d1, d2⟩ := hrel
      have HR := hide hR
      have HK := hide hKk
      clear hR hKk R1 K2 K1 c0 c1 c2
      by_cases hkl : k < (nodes s).length
      · obtain ⟨x, hx, hx8, hbit⟩ := at_in (k := k) hs hi0
        have hst := HS.out k hkl
        have hfr := fresh hs hi0 hkl
        rw [hx] at hst hfr
        have hrow := HR.out.cell (i := x) hx8
        have hfz := HR.out.frozen x
        rw [show vis (nodes s) i0 k (x : Int) = false from hfr] at hrow
        have hB := hasB_in s x hx8
        rw [hbit] at hB
        have hhas := ND.has_any s x hs
        rw [hB] at hhas
        have hki : (k : Int) < ((nodes s).length : Int) := by omega
        generalize hcc : cu (nodes s) i0 cur k = cc at hst
        go_wp2_with (first
          | (go_at_call 17; refine (hcnt _).mono ?_; rintro e w' ⟨rfl, hw⟩; subst w')
          | (go_at_call 10; refine (hst _).mono ?_; rintro e w5 ⟨rfl, hK5⟩; have e0 := hK5.cell d0 (by simp); have e1 := hK5.cell d1 (by simp); have e2 := hK5.cell d2 (by simp); have er := hK5.cell hrow (by simp); have R5 := hide (hK5.row HR.out (by simp)); have ef := R5.out.frozen x; have K5 := hide (HK.out.next hK5); clear hK5)
          | (go_at_call 15; refine (hhas _).mono ?_; rintro e w' ⟨rfl, hw⟩; subst w'))
        go_roundw
        case rel =>
          refine ⟨k + 1, by omega, by go_num, by rw [← hx]; rfl, ?_, ?_, ?_, ?_, ?_⟩
          · refine (R5.out.set x (.bool true)).congr (fun y hy => ?_)
            rw [vis_succ, hx]
            by_cases hxy : y = x
            · subst hxy; simp
            · have : ¬ ((x : Int) = y) := by omega
              simp [hxy, this]
          · exact K5.out.setCell (fun h => absurd h (Nat.not_lt.2 hbs)) _
          · exact (World.cell?_setCell_far _ _ _ _ (fun h => hb1 h.symm)).trans e0
          · exact (World.cell?_setCell_far _ _ _ _ (fun h => hb1 h.symm)).trans e1
          · exact (World.cell?_setCell_far _ _ _ _ (fun h => hb1 h.symm)).trans e2
        case measure => simp [intOf]; omega
      · have e : k = (nodes s).length := by omega
        subst e
        go_wp2_with (go_at_call 17; refine (hcnt _).mono ?_; rintro e w' ⟨rfl, hw⟩; subst w')
        go_ret
        exact ⟨rfl, HK.out⟩

theorem own : ownKnob Try.prog.godebug = none := by kernel_rfl
theorem laidOut : laidOutB Try.prog = true := by kernel_rfl

set_option maxRecDepth 100000 in
theorem lifted (os : Os) (started : os.Started) (H : Type) (enc : TypeId × Value → H) :
    ReturnsInHanded {} Try.checked os 4 .any (Rows.policyRoundSpec.pre6 enc Try.prog Try.f4 Rows.policyRoundRow.domain false) (Rows.policyRoundSpec.post enc Try.prog Try.f4 false true false false) := by
  refine returnsInHanded_of_change (C := Try.checked) own started (by kernel_rfl) Try.func4
    (ChangeSpec.witness6 (enc := enc) (C := Try.checked) false ⟨#[], #[.int .u8 0, .int .i64 0], []⟩ 8 (by kernel_rfl) (by kernel_rfl) (by kernel_rfl) (by kernel_rfl)) ?_
  intro W base args ds gs before hval0 hW hcnd _
  have hval : ∀ (j : Nat) t v, Try.f4.params[j]? = some t → args[j]? = some v → Value.okWide Try.prog W .any base t v := hval0
  have hW' := hW
  obtain ⟨p, q, hA0, hV, rfl, hfz, hnd⟩ := hW
  have hA : DataW.TrodAll enc Try.prog W 0 (fun _ => true) true Try.f4.params.toList args.toList ds p := hA0
  have hK := hA
  rw [Try.params4] at hA hval
  obtain ⟨v0, vs0, d0, ds0, p0, q0, hargs, rfl, rfl, h0, r0⟩ := trodAll_cons hA
  obtain ⟨v1, vs1, d1, ds1, p1, q1, rfl, rfl, rfl, h1, r1⟩ := trodAll_cons r0
  obtain ⟨rfl, rfl, rfl⟩ := trodAll_nil r1
  obtain rfl : args = #[v0, v1] := by cases args; simp_all
  obtain ⟨rfl, rfl⟩ := trodVars_none hV
  obtain ⟨s, rfl, rfl, rfl, w0⟩ := open_int Try.underlying5 (hval 0 5 v0 rfl rfl) h0
  obtain ⟨sn, rfl⟩ := Int.eq_ofNat_of_zero_le (bounds_u8 w0).1
  have hs : sn < 256 := by have := (bounds_u8 w0).2; omega
  obtain ⟨cur, rfl, rfl, rfl, w1⟩ := open_int Try.underlying3 (hval 1 3 v1 rfl rfl) h1
  clear hA0 hval0
  refine (law_any sn cur hs W).mono fun e W' ⟨he, hk⟩ => ?_
  subst he
  exact ⟨_, rfl, _, _, _, [], _, [], hW', trodAll_mk1 (shut_bool Try.underlying4 _), trodAll_below laidOut hk.below _ _ _ _ hK (by kernel_rfl), rfl, hk.below.frame _, fun h => by cases h⟩

theorem said : Rows.PolicyRoundSaid :=
  OpenClaim.holds_of_wide 4 Try.f4 rfl rfl rfl rfl rfl rfl rfl ⟨rfl, rfl, rfl, rfl, rfl⟩ rfl rfl rfl rfl rfl (by kernel_rfl) Try.func4 (by kernel_rfl)
    (of_decide_eq_true (by kernel_rfl)) (by unfold Func.isWrapper; first | (rw [if_pos (by decide +kernel)]; kernel_rfl) | (rw [if_neg (by decide +kernel)]; exact ⟨rfl, rfl⟩))
    (fun os started H enc _ => lifted os started H enc)
end Go.Proofs.Ytpnlialhefknnaa.LR
