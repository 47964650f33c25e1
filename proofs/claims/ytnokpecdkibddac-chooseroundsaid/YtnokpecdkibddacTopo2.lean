
/-
  No statement of the program: the contract of package topo's distancesFit and Check, over this seat's translation.
-/
import Derived.Test.YtnokpecdkibddacTopo
import Derived.Test.YtnokpecdkibddacTurnedI
import Derived.Test.YtnokpecdkibddacSameI
namespace Go.Proofs.Ytnokpecdkibddac.TP
open Go.RowKit GI

/-- The first q cells of a table of n columns are laid. -/
def fill (n : Nat) (Z : Nat → Nat → Int) (q i : Nat) : Int := if i < q then Z (i / n) (i % n) else 0
theorem fill_step (n : Nat) (Z : Nat → Nat → Int) (r k i : Nat) (hk : k < n) : (if i = r * n + k then Z r k else fill n Z (r * n + k) i) = fill n Z (r * n + (k + 1)) i := by
  unfold fill
  by_cases h : i = r * n + k
  · rw [if_pos h, if_pos (by omega), h]
    have h0 : 0 < n := by omega
    have e1 : (r * n + k) / n = r := by
      rw [Nat.add_comm, Nat.add_mul_div_right _ _ h0, Nat.div_eq_of_lt hk, Nat.zero_add]
    have e2 : (r * n + k) % n = k := by
      rw [Nat.add_comm, Nat.add_mul_mod_self_right, Nat.mod_eq_of_lt hk]
    rw [e1, e2]
  · rw [if_neg h]
    by_cases h2 : i < r * n + k
    · rw [if_pos h2, if_pos (by omega)]
    · rw [if_neg h2, if_neg (by omega)]
structure Mid (w wr : World) (B g c n q : Nat) (Z : Nat → Nat → Int) (dA : Option Addr) (dC : Nat) : Prop where
  grid : GridAt wr g c n n (fill n Z q)
  kept : Kept [] w wr
  c0 : wr.cell? ⟨B, 0, none⟩ = some (.int .i64 n)
  c3 : wr.cell? ⟨B, 3, none⟩ = some (.slice dA n dC)
  hc : w.heap.size ≤ c
  hB : B ≠ c
theorem Mid.put {w wr w' : World} {B g c n r k : Nat} {Z : Nat → Nat → Int} {dA : Option Addr} {dC : Nat} (h : Mid w wr B g c n (r * n + k) Z dA dC) (hk : k < n)
    (hg : GridAt w' g c n n (fun j => if j = r * n + k then Z r k else fill n Z (r * n + k) j)) (hK : Kept [c] wr w') : Mid w w' B g c n (r * n + (k + 1)) Z dA dC :=
  ⟨hg.congr (fun i _ => fill_step n Z r k i hk), h.kept.trans hK (fun x hx hl => by simp at hx; have := h.hc; omega), hK.cell h.c0 (by simpa using h.hB), hK.cell h.c3 (by simpa using h.hB), h.hc, h.hB⟩

theorem sym_iff {n : Nat} {Z : Nat → Nat → Int} (hn : 0 < n) : (∀ i, i < n * n → fill n Z (n * n) i = turn n n (fill n Z (n * n)) i) ↔ ∀ a, a < n → ∀ b, b < n → Z a b = Z b a := by
  have key : ∀ a b, a < n → b < n → fill n Z (n * n) (a * n + b) = Z a b := by
    intro a b ha hb
    unfold fill
    have : a * n + b < n * n := by
      have := Nat.mul_le_mul_right n (show a + 1 ≤ n by omega)
      rw [Nat.add_mul, Nat.one_mul] at this
      omega
    rw [if_pos this]
    have e1 : (a * n + b) / n = a := by rw [Nat.add_comm, Nat.add_mul_div_right _ _ hn, Nat.div_eq_of_lt hb, Nat.zero_add]
    have e2 : (a * n + b) % n = b := by rw [Nat.add_comm, Nat.add_mul_mod_self_right, Nat.mod_eq_of_lt hb]
    rw [e1, e2]
  have tk : ∀ a b, a < n → b < n → turn n n (fill n Z (n * n)) (a * n + b) = Z b a := by
    intro a b ha hb
    unfold turn
    have e1 : (a * n + b) / n = a := by rw [Nat.add_comm, Nat.add_mul_div_right _ _ hn, Nat.div_eq_of_lt hb, Nat.zero_add]
    have e2 : (a * n + b) % n = b := by rw [Nat.add_comm, Nat.add_mul_mod_self_right, Nat.mod_eq_of_lt hb]
    rw [e1, e2, key b a hb ha]
  constructor
  · intro h a ha b hb
    have hi : a * n + b < n * n := by
      have := Nat.mul_le_mul_right n (show a + 1 ≤ n by omega)
      rw [Nat.add_mul, Nat.one_mul] at this
      omega
    have := h _ hi
    rwa [key a b ha hb, tk a b ha hb] at this
  · intro h i hi
    have ha : i / n < n := Nat.div_lt_of_lt_mul hi
    have hb : i % n < n := Nat.mod_lt _ hn
    have e : i = i / n * n + i % n := by rw [Nat.mul_comm]; exact (Nat.div_add_mod i n).symm
    rw [e, key _ _ ha hb, tk _ _ ha hb]
    exact h _ ha _ hb

def distP (n dL : Nat) (L : Nat → Nat) (Z : Nat → Nat → Int) : Prop := dL = n ∧ (∀ r, r < n → L r = n) ∧ ∀ a, a < n → ∀ b, b < n → fitP a b (Z a b) ∧ Z a b = Z b a
instance (n dL : Nat) (L : Nat → Nat) (Z : Nat → Nat → Int) : Decidable (distP n dL L Z) := by unfold distP; infer_instance
set_option maxHeartbeats 2000000 in
set_option maxRecDepth 20000 in
theorem dist_any (n : Nat) (fr : Int) (cA : Option Addr) (cL cC : Nat) (dA : Option Addr) (dL dC : Nat) (L : Nat → Nat) (Z : Nat → Nat → Int) (w : World) (hpos : 0 < n) (hn : n ≤ 8) (hl : dL ≤ maxLen) (hr : IsRows .i64 w dA dL L Z) :
    Calls Try.prog 30 #[tval n fr cA cL cC dA dL dC] w fun e w' => e = .returned (.bool (decide (distP n dL L Z))) ∧ Kept [] w w' := by
  unfold tval
  unfold maxLen at hl
  by_cases hdn : dL = n
  · subst hdn
    obtain ⟨res, hres⟩ : ∃ r, r = decide (distP dL dL L Z) := ⟨_, rfl⟩
    rw [← hres]
    have HR := hide hres
    have HW := hide hr
    clear hres hr
    have hbx : dL ≤ 64 := by omega
    go_enter Try.func30, Try.ntmps30
    go_wp2_with fail
    refine (new_ok dL dL hbx hbx).mono ?_
    rintro e w1 ⟨g, c, rfl, hG, hg, hc, hK⟩
    have M1 := hide (show Mid w w1 w.heap.size g c dL (0 * dL) Z dA dC from ⟨hG.congr (fun i _ => by unfold fill; rw [if_neg (by omega)]), ((Kept.refl [] w).alloc _).next hK, hK.cell (p := ⟨w.heap.size, 0, none⟩) (by simp) (by simp), hK.cell (p := ⟨w.heap.size, 3, none⟩) (by simp) (by simp), by simp at hc; omega, by simp at hc; omega⟩)
    have d3 := M1.out.c3
    clear hG hg hc hK
    go_wp2_with fail
    go_loopw [26] (fun i wr => ∃ k : Nat, k ≤ dL ∧ i = .int .i64 k ∧ Mid w wr w.heap.size g c dL (k * dL) Z dA dC ∧ ∀ r, r < k → L r = dL ∧ ∀ b, b < dL → fitP r b (Z r b)) (fun i _ => dL - (intOf i).toNat)
    case atStart => exact ⟨0, by omega, rfl, M1.out, fun r hr => absurd hr (Nat.not_lt_zero _)⟩
    case round =>
      obtain ⟨k, hk, rfl, hM, hf⟩ := hrel
      have HF := hide hf
      have M := hide hM
      have e0 := hM.c0
      clear hf hM M1 d3
      by_cases hkl : k < dL
      · have hki : (k : Int) < (dL : Int) := by omega
        obtain ⟨b, off, A, C, hdA, hcell, h1, h2, hints⟩ := HW.out k hkl
        subst hdA
        have hcell := M.out.kept.cell hcell (by simp)
        have HI := hide hints
        clear hints
        by_cases hLk : L k = dL
        · rw [hLk] at hcell
          have hne : ((dL : Int) != (dL : Int)) = false := by simp
          go_wp2_with fail
          go_loopw [38] (fun i wq => ∃ j : Nat, j ≤ dL ∧ i = .int .i64 j ∧ Mid w wq w.heap.size g c dL (k * dL + j) Z (some ⟨b, off, none⟩) dC ∧ ∀ b, b < j → fitP k b (Z k b)) (fun i _ => dL - (intOf i).toNat)
          case atStart => exact ⟨0, by omega, rfl, M.out, fun b hb => absurd hb (Nat.not_lt_zero _)⟩
          case round =>
            obtain ⟨j, hj, rfl, hM, hf⟩ := hrel
            have HFj := hide hf
            have Mj := hide hM
            clear hf hM hcell e0 M
            by_cases hjl : j < dL
            · have hji : (j : Int) < (dL : Int) := by omega
              obtain ⟨b2, off2, hA, hcj, -⟩ := IsInts.kept HI.out Mj.out.kept j (by omega)
              subst hA
              obtain ⟨y, hy⟩ : ∃ y, y = Z k j := ⟨_, rfl⟩
              rw [← hy] at hcj
              have hfit := fits_any k j y
              by_cases hfy : fitP k j y
              · rw [decide_eq_true hfy] at hfit
                have hput := put_at k j rfl rfl y Mj.out.grid hkl hjl
                have HY := hide hy
                have HFY := hide hfy
                clear hy hfy
                go_wp2_with (first
                  | (go_at_call 40; refine (hfit _).mono ?_; rintro e w' ⟨rfl, hw⟩; subst w')
                  | (go_at_call 41; refine hput.mono ?_; rintro e w5 ⟨rfl, hG5, hK5⟩; rw [HY.out] at hG5; have M5 := hide (Mj.out.put hjl hG5 hK5); clear hG5 hK5 hput))
                go_roundw
                case rel =>
                  refine ⟨j + 1, by omega, by go_num, M5.out, fun b hb => ?_⟩
                  by_cases e : b = j
                  · rw [e, ← HY.out]; exact HFY.out
                  · exact HFj.out b (by omega)
                case measure => simp [intOf]; omega
              · rw [decide_eq_false hfy] at hfit
                have R := hide (show res = false from by rw [HR.out]; exact decide_eq_false (fun h => hfy (by rw [hy]; exact (h.2.2 k hkl j hjl).1)))
                clear hy hfy
                go_wp2_with (go_at_call 40; refine (hfit _).mono ?_; rintro e w' ⟨rfl, hw⟩; subst w')
                go_ret
                exact ⟨ret_bool R.out.symm, Mj.out.kept⟩
            · have e : j = dL := by omega
              subst e
              have M9 := hide (show Mid w wr w.heap.size g c j ((k + 1) * j) Z (some ⟨b, off, none⟩) dC from by rw [Nat.add_mul, Nat.one_mul]; exact Mj.out)
              go_wp2
              refine ⟨⟨k + 1, by omega, by go_num, M9.out, fun r hr => ?_⟩, by simp [intOf]; omega⟩
              by_cases e : r = k
              · rw [e]; exact ⟨hLk, HFj.out⟩
              · exact HF.out r (by omega)
        · have hne : ((L k : Int) != (dL : Int)) = true := by
            have : ¬ ((L k : Int) = dL) := by omega
            simpa using this
          have R := hide (show res = false from by rw [HR.out]; exact decide_eq_false (fun h => hLk (h.2.1 k hkl)))
          go_wp2
          go_ret
          exact ⟨ret_bool R.out.symm, M.out.kept⟩
      · have e : k = dL := by omega
        subst e
        go_wp2_with (go_at_call 43; refine (turned_ok M.out.grid).mono ?_; rintro e w5 ⟨g', c', rfl, hG5, -, -, hK5⟩; have G1 := hide (M.out.grid.kept hK5 (by simp) (by simp)); have G2 := hide hG5; have K5 := hide (M.out.kept.next hK5); clear hG5 hK5)
        refine (same_ok G1.out G2.out).mono ?_
        rintro e w6 ⟨bb, rfl, hsame, hK6⟩
        have K6 := hide (K5.out.next hK6)
        have R := hide (show res = bb from by
          rw [HR.out]
          have hdist : distP k k L Z ↔ bb = true := by
            have hs2 : bb = true ↔ ∀ i, i < k * k → fill k Z (k * k) i = turn k k (fill k Z (k * k)) i := by
              unfold SameIs at hsame
              rw [hsame]; exact ⟨fun h => h.2.2, fun h => ⟨rfl, rfl, h⟩⟩
            rw [hs2, sym_iff hpos]
            exact ⟨fun h a ha b hb => (h.2.2 a ha b hb).2, fun h => ⟨rfl, fun r hr => (HF.out r hr).1, fun a ha b hb => ⟨(HF.out a ha).2 b hb, h a ha b hb⟩⟩⟩
          by_cases hbb : bb = true
          · rw [decide_eq_true (hdist.2 hbb), hbb]
          · rw [decide_eq_false (fun h => hbb (hdist.1 h))]; simpa using hbb)
        clear hsame hK6
        go_wp2
        go_ret
        exact ⟨ret_bool R.out.symm, K6.out⟩
  · rw [decide_eq_false (fun h : distP n dL L Z => hdn h.1)]
    have hdn' : ¬ ((dL : Int) = n) := by omega
    have hne : ((dL : Int) != n) = true := by simpa using hdn'
    go_enter Try.func30, Try.ntmps30
    go_wp2_with fail
    go_ret
    exact ⟨rfl, (Kept.refl _ _).alloc _⟩

/-- What Check tells. -/
def tchk (n fr : Int) (cL : Nat) (cz : Nat → Int) (dL : Nat) (L : Nat → Nat) (Z : Nat → Nat → Int) : Int :=
  if countsP n fr cL then (if cpusP n cL cz then (if distP n.toNat dL L Z then 0 else 4) else 10) else 3
set_option maxHeartbeats 1000000 in
theorem check_any (n fr : Int) {cA : Option Addr} {cL : Nat} (cC : Nat) {cz : Nat → Int} {dA : Option Addr} {dL : Nat} (dC : Nat) {L : Nat → Nat} {Z : Nat → Nat → Int} {w : World} (h : At w cA cL cz dA dL L Z) :
    Calls Try.prog 16 #[tval n fr cA cL cC dA dL dC] w fun e w' => e = .returned (.int .i64 (tchk n fr cL cz dL L Z)) ∧ Kept [] w w' := by
  have h1 := counts_any n fr cA cL cC dA dL dC (w.alloc (.cells #[.int .i64 n, .int .i64 fr, .slice cA cL cC, .slice dA dL dC] 37))
  have K0 := (Kept.refl [] w).alloc (.cells #[.int .i64 n, .int .i64 fr, .slice cA cL cC, .slice dA dL dC] 37)
  have hA := h.kept K0
  unfold tchk
  by_cases hcn : countsP n fr cL
  · rw [if_pos hcn]
    rw [decide_eq_true hcn] at h1
    obtain ⟨⟨n1, n8⟩, -⟩ := hcn
    obtain ⟨m, rfl⟩ := Int.eq_ofNat_of_zero_le (show 0 ≤ n by omega)
    rw [Int.toNat_natCast]
    have h2 : ∀ w', Kept [] (w.alloc (.cells #[.int .i64 m, .int .i64 fr, .slice cA cL cC, .slice dA dL dC] 37)) w' → Calls Try.prog 29 #[tval m fr cA cL cC dA dL dC] w' fun e w'' => e = .returned (.bool (decide (cpusP m cL cz))) ∧ Kept [] w' w'' :=
      fun w' hK => cpus_any m fr cA cL cC cz dA dL dC w' h.cl (IsInts.kept hA.cpus hK)
    have h3 : ∀ w', Kept [] (w.alloc (.cells #[.int .i64 m, .int .i64 fr, .slice cA cL cC, .slice dA dL dC] 37)) w' → Calls Try.prog 30 #[tval m fr cA cL cC dA dL dC] w' fun e w'' => e = .returned (.bool (decide (distP m dL L Z))) ∧ Kept [] w' w'' :=
      fun w' hK => dist_any m fr cA cL cC dA dL dC L Z w' (by omega) (by omega) h.dl (IsRows.kept hA.rows hK)
    clear hA h
    unfold tval at h1 h2 h3 ⊢
    by_cases hcp : cpusP m cL cz
    · rw [if_pos hcp]
      rw [decide_eq_true hcp] at h2
      by_cases hd : distP m dL L Z
      · rw [if_pos hd]
        rw [decide_eq_true hd] at h3
        have HK := hide K0
        clear K0
        go_enter Try.func16, Try.ntmps16
        go_wp2_with fail
        refine h1.mono ?_
        rintro e w1 ⟨rfl, hK⟩
        have c0 := hK.cell (p := ⟨w.heap.size, 0, none⟩) (v := .int .i64 m) (by simp) (by simp)
        have c1 := hK.cell (p := ⟨w.heap.size, 1, none⟩) (v := .int .i64 fr) (by simp) (by simp)
        have c2 := hK.cell (p := ⟨w.heap.size, 2, none⟩) (v := .slice cA cL cC) (by simp) (by simp)
        have c3 := hK.cell (p := ⟨w.heap.size, 3, none⟩) (v := .slice dA dL dC) (by simp) (by simp)
        have h2 := h2 w1 hK
        have h3 := fun w' hk => h3 w' (hK.next hk)
        have HK1 := hide (HK.out.next hK)
        clear hK h1
        generalize w.heap.size = B at *
        go_wp2_with fail
        refine h2.mono ?_
        rintro e w2 ⟨rfl, hK⟩
        have c0 := hK.cell c0 (by simp)
        have c1 := hK.cell c1 (by simp)
        have c2 := hK.cell c2 (by simp)
        have c3 := hK.cell c3 (by simp)
        have h3 := h3 w2 hK
        have HK2 := hide (HK1.out.next hK)
        clear hK h2
        go_wp2_with fail
        refine h3.mono ?_
        rintro e w3 ⟨rfl, hK⟩
        have HK3 := hide (HK2.out.next hK)
        clear hK h3
        go_wp2
        go_ret
        exact ⟨rfl, HK3.out⟩
      · rw [if_neg hd]
        rw [decide_eq_false hd] at h3
        have HK := hide K0
        clear K0
        go_enter Try.func16, Try.ntmps16
        go_wp2_with fail
        refine h1.mono ?_
        rintro e w1 ⟨rfl, hK⟩
        have c0 := hK.cell (p := ⟨w.heap.size, 0, none⟩) (v := .int .i64 m) (by simp) (by simp)
        have c1 := hK.cell (p := ⟨w.heap.size, 1, none⟩) (v := .int .i64 fr) (by simp) (by simp)
        have c2 := hK.cell (p := ⟨w.heap.size, 2, none⟩) (v := .slice cA cL cC) (by simp) (by simp)
        have c3 := hK.cell (p := ⟨w.heap.size, 3, none⟩) (v := .slice dA dL dC) (by simp) (by simp)
        have h2 := h2 w1 hK
        have h3 := fun w' hk => h3 w' (hK.next hk)
        have HK1 := hide (HK.out.next hK)
        clear hK h1
        generalize w.heap.size = B at *
        go_wp2_with fail
        refine h2.mono ?_
        rintro e w2 ⟨rfl, hK⟩
        have c0 := hK.cell c0 (by simp)
        have c1 := hK.cell c1 (by simp)
        have c2 := hK.cell c2 (by simp)
        have c3 := hK.cell c3 (by simp)
        have h3 := h3 w2 hK
        have HK2 := hide (HK1.out.next hK)
        clear hK h2
        go_wp2_with fail
        refine h3.mono ?_
        rintro e w3 ⟨rfl, hK⟩
        have HK3 := hide (HK2.out.next hK)
        clear hK h3
        go_wp2
        go_ret
        exact ⟨rfl, HK3.out⟩
    · rw [if_neg hcp]
      rw [decide_eq_false hcp] at h2
      have HK := hide K0
      clear K0
      go_enter Try.func16, Try.ntmps16
      go_wp2_with fail
      refine h1.mono ?_
      rintro e w1 ⟨rfl, hK⟩
      have c0 := hK.cell (p := ⟨w.heap.size, 0, none⟩) (v := .int .i64 m) (by simp) (by simp)
      have c1 := hK.cell (p := ⟨w.heap.size, 1, none⟩) (v := .int .i64 fr) (by simp) (by simp)
      have c2 := hK.cell (p := ⟨w.heap.size, 2, none⟩) (v := .slice cA cL cC) (by simp) (by simp)
      have c3 := hK.cell (p := ⟨w.heap.size, 3, none⟩) (v := .slice dA dL dC) (by simp) (by simp)
      have h2 := h2 w1 hK
      have HK1 := hide (HK.out.next hK)
      clear hK h1
      generalize w.heap.size = B at *
      go_wp2_with fail
      refine h2.mono ?_
      rintro e w2 ⟨rfl, hK⟩
      have HK2 := hide (HK1.out.next hK)
      clear hK h2 h3
      go_wp2
      go_ret
      exact ⟨rfl, HK2.out⟩
  · rw [if_neg hcn]
    rw [decide_eq_false hcn] at h1
    clear hA h
    unfold tval at h1 ⊢
    have HK := hide K0
    clear K0
    go_enter Try.func16, Try.ntmps16
    go_wp2_with fail
    refine h1.mono ?_
    rintro e w1 ⟨rfl, hK⟩
    have HK1 := hide (HK.out.next hK)
    clear hK h1
    go_wp2
    go_ret
    exact ⟨rfl, HK1.out⟩
end Go.Proofs.Ytnokpecdkibddac.TP
