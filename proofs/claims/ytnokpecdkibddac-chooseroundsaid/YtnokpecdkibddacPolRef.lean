
/-
  No statement of the program: the document's answers of layer 10 (messuageref10: Check, Permitted, Start), over this seat's translation: they are those of the program's contracts.
-/
import Derived.Test.YtnokpecdkibddacPol
import Derived.Test.YtnokpecdkibddacNodeRef
import Derived.Deep.RegionHeld3
namespace Go.Proofs.Ytnokpecdkibddac.PR
open Go.RowKit ND PO

theorem last_max : ∀ s, s < 256 → s ≠ 0 → (nodes s).length ≠ 0 ∧ ∀ x, x ∈ nodes s → x ≤ (nodes s).getD ((nodes s).length - 1) 0 := by decide +kernel
theorem below_last {s : Nat} {n : Int} (hs : s < 256) (h0 : s ≠ 0) : belowB (nodes s) n = decide ((nodes s).getD ((nodes s).length - 1) 0 < n) := by
  obtain ⟨h1, h2⟩ := last_max s hs h0
  have hm : (nodes s).getD ((nodes s).length - 1) 0 ∈ nodes s := by
    rw [List.getD_eq_getElem?_getD, List.getElem?_eq_getElem (by omega)]; exact List.getElem_mem _
  by_cases h : (nodes s).getD ((nodes s).length - 1) 0 < n
  · rw [decide_eq_true h]
    unfold belowB
    rw [List.all_eq_true]
    intro x hx
    have := h2 x hx
    exact decide_eq_true (by omega)
  · rw [decide_eq_false h]
    unfold belowB
    rw [List.all_eq_false]
    exact ⟨_, hm, by simpa using h⟩

set_option maxHeartbeats 1000000 in
theorem check_any (m : Int) (s : Nat) (nd n : Int) (hs : s < 256) (w : World) : Calls Try.prog 21 #[pol m s nd, .int .i64 n] w fun e w' => e = .returned (.int .i64 (chk m s nd n)) ∧ Kept [] w w' := by
  unfold pol
  by_cases h1 : 1 ≤ n ∧ n ≤ 8
  · obtain ⟨ha, hb⟩ := h1
    have hc : chk m s nd n = if m = 0 then 0 else if m = 1 ∨ m = 2 then setE s n else if m = 3 then nodeE nd n else 1 := if_neg (by omega)
    have hlist := NR.list_any s hs
    by_cases h0 : m = 0
    · subst h0
      rw [hc, if_pos rfl]
      go_enter Try.func21, Try.ntmps21
      go_wp2_with fail
      refine (hlist _).mono ?_
      rintro e w1 ⟨v, rfl, hI, hK⟩
      have hc0 := hK.cell (p := ⟨w.heap.size, 0, none⟩) (v := .int .i64 0) (by simp) (by simp)
      have hc2 := hK.cell (p := ⟨w.heap.size, 2, none⟩) (v := .int .i64 nd) (by simp) (by simp)
      obtain ⟨ao, cap, rfl, hI2⟩ := hI.isInts (pre_wf s 8 (by omega))
      have KK := hide hK
      clear hK hI hlist
      clear hI2 hc
      go_wp2
      go_ret
      exact ⟨rfl, ((Kept.refl _ _).alloc _).next KK.out⟩
    rw [if_neg h0] at hc
    by_cases hm1 : m = 1
    · subst hm1
      rw [hc, if_pos (by omega)]
      clear hc
      by_cases hs0 : s = 0
      · subst hs0
        rw [show setE 0 n = 1 from if_pos rfl]
        clear hlist
        go_enter Try.func21, Try.ntmps21
        go_wp2
        go_ret
        exact ⟨rfl, (Kept.refl _ _).alloc _⟩
      have hB : setE s n = if belowB (nodes s) n = true then 0 else 10 := if_neg hs0
      rw [below_last hs hs0] at hB
      obtain ⟨hl0, -⟩ := last_max s hs hs0
      have hle := pre_le s 8
      have hs0' : ¬ ((s : Int) = 0) := by omega
      by_cases hlt : (nodes s).getD ((nodes s).length - 1) 0 < n
      · rw [hB, decide_eq_true hlt]
        show Calls _ _ _ _ fun e w' => e = .returned (.int .i64 0) ∧ Kept [] w w'
        clear hB
        go_enter Try.func21, Try.ntmps21
        go_wp2_with fail
        refine (hlist _).mono ?_
        rintro e w1 ⟨v, rfl, hI, hK⟩
        have hc0 := hK.cell (p := ⟨w.heap.size, 0, none⟩) (v := .int .i64 1) (by simp) (by simp)
        have hc2 := hK.cell (p := ⟨w.heap.size, 2, none⟩) (v := .int .i64 nd) (by simp) (by simp)
        obtain ⟨ao, cap, rfl, hI2⟩ := hI.isInts (pre_wf s 8 (by omega))
        have KK := hide hK
        clear hK hI hlist
        obtain ⟨b, off, hao, hcl, -⟩ := hI2 ((nodes s).length - 1) (by omega)
        subst hao
        clear hI2
        obtain ⟨len, hlen⟩ : ∃ len, len = (nodes s).length - 1 := ⟨_, rfl⟩
        have hL : (nodes s).length = len + 1 := by omega
        have hlen8 : len < 8 := by have : (nodes s).length ≤ 8 := hle; omega
        obtain ⟨y, hy⟩ : ∃ y, y = (nodes s).getD ((nodes s).length - 1) 0 := ⟨_, rfl⟩
        rw [← hy] at hlt
        have hcl2 : w1.cell? ⟨b, off + len, none⟩ = some (.int .i64 y) := by rw [hlen, hy]; exact hcl
        rw [hL]
        clear hcl hy hlen hL hl0 hle
        go_wp2
        go_ret
        exact ⟨rfl, ((Kept.refl _ _).alloc _).next KK.out⟩
      · rw [hB, decide_eq_false hlt]
        show Calls _ _ _ _ fun e w' => e = .returned (.int .i64 10) ∧ Kept [] w w'
        clear hB
        go_enter Try.func21, Try.ntmps21
        go_wp2_with fail
        refine (hlist _).mono ?_
        rintro e w1 ⟨v, rfl, hI, hK⟩
        have hc0 := hK.cell (p := ⟨w.heap.size, 0, none⟩) (v := .int .i64 1) (by simp) (by simp)
        have hc2 := hK.cell (p := ⟨w.heap.size, 2, none⟩) (v := .int .i64 nd) (by simp) (by simp)
        obtain ⟨ao, cap, rfl, hI2⟩ := hI.isInts (pre_wf s 8 (by omega))
        have KK := hide hK
        clear hK hI hlist
        obtain ⟨b, off, hao, hcl, -⟩ := hI2 ((nodes s).length - 1) (by omega)
        subst hao
        clear hI2
        obtain ⟨len, hlen⟩ : ∃ len, len = (nodes s).length - 1 := ⟨_, rfl⟩
        have hL : (nodes s).length = len + 1 := by omega
        have hlen8 : len < 8 := by have : (nodes s).length ≤ 8 := hle; omega
        obtain ⟨y, hy⟩ : ∃ y, y = (nodes s).getD ((nodes s).length - 1) 0 := ⟨_, rfl⟩
        rw [← hy] at hlt
        have hcl2 : w1.cell? ⟨b, off + len, none⟩ = some (.int .i64 y) := by rw [hlen, hy]; exact hcl
        rw [hL]
        clear hcl hy hlen hL hl0 hle
        go_wp2
        go_ret
        exact ⟨rfl, ((Kept.refl _ _).alloc _).next KK.out⟩
    by_cases hm2 : m = 2
    · subst hm2
      rw [hc, if_pos (by omega)]
      clear hc
      by_cases hs0 : s = 0
      · subst hs0
        rw [show setE 0 n = 1 from if_pos rfl]
        clear hlist
        go_enter Try.func21, Try.ntmps21
        go_wp2
        go_ret
        exact ⟨rfl, (Kept.refl _ _).alloc _⟩
      have hB : setE s n = if belowB (nodes s) n = true then 0 else 10 := if_neg hs0
      rw [below_last hs hs0] at hB
      obtain ⟨hl0, -⟩ := last_max s hs hs0
      have hle := pre_le s 8
      have hs0' : ¬ ((s : Int) = 0) := by omega
      by_cases hlt : (nodes s).getD ((nodes s).length - 1) 0 < n
      · rw [hB, decide_eq_true hlt]
        show Calls _ _ _ _ fun e w' => e = .returned (.int .i64 0) ∧ Kept [] w w'
        clear hB
        go_enter Try.func21, Try.ntmps21
        go_wp2_with fail
        refine (hlist _).mono ?_
        rintro e w1 ⟨v, rfl, hI, hK⟩
        have hc0 := hK.cell (p := ⟨w.heap.size, 0, none⟩) (v := .int .i64 2) (by simp) (by simp)
        have hc2 := hK.cell (p := ⟨w.heap.size, 2, none⟩) (v := .int .i64 nd) (by simp) (by simp)
        obtain ⟨ao, cap, rfl, hI2⟩ := hI.isInts (pre_wf s 8 (by omega))
        have KK := hide hK
        clear hK hI hlist
        obtain ⟨b, off, hao, hcl, -⟩ := hI2 ((nodes s).length - 1) (by omega)
        subst hao
        clear hI2
        obtain ⟨len, hlen⟩ : ∃ len, len = (nodes s).length - 1 := ⟨_, rfl⟩
        have hL : (nodes s).length = len + 1 := by omega
        have hlen8 : len < 8 := by have : (nodes s).length ≤ 8 := hle; omega
        obtain ⟨y, hy⟩ : ∃ y, y = (nodes s).getD ((nodes s).length - 1) 0 := ⟨_, rfl⟩
        rw [← hy] at hlt
        have hcl2 : w1.cell? ⟨b, off + len, none⟩ = some (.int .i64 y) := by rw [hlen, hy]; exact hcl
        rw [hL]
        clear hcl hy hlen hL hl0 hle
        go_wp2
        go_ret
        exact ⟨rfl, ((Kept.refl _ _).alloc _).next KK.out⟩
      · rw [hB, decide_eq_false hlt]
        show Calls _ _ _ _ fun e w' => e = .returned (.int .i64 10) ∧ Kept [] w w'
        clear hB
        go_enter Try.func21, Try.ntmps21
        go_wp2_with fail
        refine (hlist _).mono ?_
        rintro e w1 ⟨v, rfl, hI, hK⟩
        have hc0 := hK.cell (p := ⟨w.heap.size, 0, none⟩) (v := .int .i64 2) (by simp) (by simp)
        have hc2 := hK.cell (p := ⟨w.heap.size, 2, none⟩) (v := .int .i64 nd) (by simp) (by simp)
        obtain ⟨ao, cap, rfl, hI2⟩ := hI.isInts (pre_wf s 8 (by omega))
        have KK := hide hK
        clear hK hI hlist
        obtain ⟨b, off, hao, hcl, -⟩ := hI2 ((nodes s).length - 1) (by omega)
        subst hao
        clear hI2
        obtain ⟨len, hlen⟩ : ∃ len, len = (nodes s).length - 1 := ⟨_, rfl⟩
        have hL : (nodes s).length = len + 1 := by omega
        have hlen8 : len < 8 := by have : (nodes s).length ≤ 8 := hle; omega
        obtain ⟨y, hy⟩ : ∃ y, y = (nodes s).getD ((nodes s).length - 1) 0 := ⟨_, rfl⟩
        rw [← hy] at hlt
        have hcl2 : w1.cell? ⟨b, off + len, none⟩ = some (.int .i64 y) := by rw [hlen, hy]; exact hcl
        rw [hL]
        clear hcl hy hlen hL hl0 hle
        go_wp2
        go_ret
        exact ⟨rfl, ((Kept.refl _ _).alloc _).next KK.out⟩
    rw [if_neg (by omega)] at hc
    by_cases hm3 : m = 3
    · subst hm3
      rw [hc, if_pos rfl]
      clear hc
      rcases (show nd < 0 ∨ (0 ≤ nd ∧ n ≤ nd) ∨ (0 ≤ nd ∧ nd < n) from by omega) with h | ⟨hx, hy⟩ | ⟨hx, hy⟩
      · rw [show nodeE nd n = 10 from if_neg (by omega)]
        go_enter Try.func21, Try.ntmps21
        go_wp2_with fail
        refine (hlist _).mono ?_
        rintro e w1 ⟨v, rfl, hI, hK⟩
        have hc0 := hK.cell (p := ⟨w.heap.size, 0, none⟩) (v := .int .i64 3) (by simp) (by simp)
        have hc2 := hK.cell (p := ⟨w.heap.size, 2, none⟩) (v := .int .i64 nd) (by simp) (by simp)
        obtain ⟨ao, cap, rfl, hI2⟩ := hI.isInts (pre_wf s 8 (by omega))
        have KK := hide hK
        clear hK hI hlist
        clear hI2
        go_wp2
        go_ret
        exact ⟨rfl, ((Kept.refl _ _).alloc _).next KK.out⟩
      · rw [show nodeE nd n = 10 from if_neg (by omega)]
        go_enter Try.func21, Try.ntmps21
        go_wp2_with fail
        refine (hlist _).mono ?_
        rintro e w1 ⟨v, rfl, hI, hK⟩
        have hc0 := hK.cell (p := ⟨w.heap.size, 0, none⟩) (v := .int .i64 3) (by simp) (by simp)
        have hc2 := hK.cell (p := ⟨w.heap.size, 2, none⟩) (v := .int .i64 nd) (by simp) (by simp)
        obtain ⟨ao, cap, rfl, hI2⟩ := hI.isInts (pre_wf s 8 (by omega))
        have KK := hide hK
        clear hK hI hlist
        clear hI2
        go_wp2
        go_ret
        exact ⟨rfl, ((Kept.refl _ _).alloc _).next KK.out⟩
      · rw [show nodeE nd n = 0 from if_pos (by omega)]
        go_enter Try.func21, Try.ntmps21
        go_wp2_with fail
        refine (hlist _).mono ?_
        rintro e w1 ⟨v, rfl, hI, hK⟩
        have hc0 := hK.cell (p := ⟨w.heap.size, 0, none⟩) (v := .int .i64 3) (by simp) (by simp)
        have hc2 := hK.cell (p := ⟨w.heap.size, 2, none⟩) (v := .int .i64 nd) (by simp) (by simp)
        obtain ⟨ao, cap, rfl, hI2⟩ := hI.isInts (pre_wf s 8 (by omega))
        have KK := hide hK
        clear hK hI hlist
        clear hI2
        go_wp2
        go_ret
        exact ⟨rfl, ((Kept.refl _ _).alloc _).next KK.out⟩
    rw [if_neg hm3] at hc
    rw [hc]
    clear hc hlist
    rcases (show m < 0 ∨ (0 ≤ m ∧ 3 < m) from by omega) with h | ⟨hx, hy⟩
    all_goals
      go_enter Try.func21, Try.ntmps21
      go_wp2
      go_ret
      exact ⟨rfl, (Kept.refl _ _).alloc _⟩
  · rw [show chk m s nd n = 3 from if_pos h1]
    rcases (show n < 1 ∨ (1 ≤ n ∧ 8 < n) from by omega) with h | ⟨ha, hb⟩
    all_goals
      clear h1
      go_enter Try.func21, Try.ntmps21
      go_wp2
      go_ret
      exact ⟨rfl, (Kept.refl _ _).alloc _⟩

set_option maxHeartbeats 400000 in
/-- The document's Permitted, of one that is. -/
theorem permitted_ok (m : Int) (s : Nat) (nd n : Int) (ha : 0 ≤ n) (hb : n ≤ 8) (w : World) :
    Calls Try.prog 23 #[pol m s nd, .int .i64 n] w fun e w' => e = .returned (.int .u8 (if m = 1 then s else run 0 n.toNat : Nat)) ∧ Kept [] w w' := by
  unfold pol
  by_cases hm1 : m = 1
  · subst hm1
    rw [if_pos rfl]
    go_enter Try.func23, Try.ntmps23
    go_wp2
    go_ret
    exact ⟨rfl, (Kept.refl _ _).alloc _⟩
  · rw [if_neg hm1]
    obtain ⟨k, rfl⟩ := Int.eq_ofNat_of_zero_le ha
    rw [Int.toNat_natCast]
    go_enter Try.func23, Try.ntmps23
    go_wp2
    go_loop [5, 6] (fun t i => ∃ j : Nat, j ≤ k ∧ i = .int .i64 (j : Int) ∧ t = .int .u8 (run 0 j)) (fun _ i => 8 - (intOf i).toNat)
    case atStart => exact ⟨0, by omega, rfl, rfl⟩
    case round =>
      obtain ⟨j, hj, rfl, rfl⟩ := hrel
      by_cases hjk : j < k
      · have hof := or_form (run 0 j) j (run_lt 0 j (by omega)) (by omega)
        have HO := hide hof
        have hj8 : j < 8 := by omega
        clear hof
        go_wp2
        go_round
        case rel => exact ⟨j + 1, by omega, by go_num, by rw [HO.out]; simp [run]⟩
        case measure => simp [intOf]; omega
      · have e : j = k := by omega
        subst e
        go_wp2
        go_ret
        exact ⟨rfl, (Kept.refl _ _).alloc _⟩

/-- What the document's Start tells. -/
def rstart (m : Int) (s : Nat) (nd own cur : Int) : Int × Int :=
  if m = 2 then ((nextOf (nodes s) cur).1, (nextOf (nodes s) cur).1) else if m = 3 then (nd, cur) else (own, cur)
set_option maxHeartbeats 400000 in
theorem start_any (m : Int) (s : Nat) (nd own cur : Int) (hs : s < 256) (w : World) :
    Calls Try.prog 22 #[pol m s nd, .int .i64 own, .int .i64 cur] w fun e w' => e = .returned (.tuple #[.int .i64 (rstart m s nd own cur).1, .int .i64 (rstart m s nd own cur).2]) ∧ Kept [] w w' := by
  unfold rstart pol
  by_cases hm2 : m = 2
  · subst hm2
    rw [if_pos rfl]
    have hnext := NR.next_any s cur hs
    generalize nextOf (nodes s) cur = x at hnext
    go_enter Try.func22, Try.ntmps22
    go_wp2_with (go_at_call 36; refine (hnext _).mono ?_; rintro e w2 ⟨rfl, hK2⟩; have KK2 := hide hK2; clear hK2 hnext)
    go_ret2
    exact ⟨rfl, ((Kept.refl _ _).alloc _).next KK2.out⟩
  rw [if_neg hm2]
  by_cases hm3 : m = 3
  · subst hm3
    rw [if_pos rfl]
    go_enter Try.func22, Try.ntmps22
    go_wp2
    go_ret2
    exact ⟨rfl, (Kept.refl _ _).alloc _⟩
  rw [if_neg hm3]
  go_enter Try.func22, Try.ntmps22
  go_wp2
  go_ret2
  exact ⟨rfl, (Kept.refl _ _).alloc _⟩
theorem startOf_ok {m : Int} {s : Nat} {nd n own cur : Int} (h : chk m s nd n = 0) (ho : nodeE own n = 0) : startOf m s nd n own cur = ((rstart m s nd own cur).1, (rstart m s nd own cur).2, 0) := by
  unfold startOf rstart
  rw [if_pos h, if_pos ho]
  by_cases h2 : m = 2
  · rw [if_pos h2, if_pos h2]
  · rw [if_neg h2, if_neg h2]
    by_cases h3 : m = 3
    · rw [if_pos h3, if_pos h3]
    · rw [if_neg h3, if_neg h3]
theorem start5 : startOf 2 5 0 3 1 0 = (2, 2, 0) := by decide
end Go.Proofs.Ytnokpecdkibddac.PR
