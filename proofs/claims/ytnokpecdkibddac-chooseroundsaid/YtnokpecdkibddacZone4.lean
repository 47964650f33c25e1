
/-
  No statement of the program: the contract of package zone's Within, over this seat's translation.
-/
import Derived.Test.YtnokpecdkibddacZone3
import Derived.Test.YtnokpecdkibddacNode2
namespace Go.Proofs.Ytnokpecdkibddac.ZN
open Go.RowKit TP

/-- Those of the first k that are in the set. -/
def wl (f : Nat → Nat) (s k : Nat) : List Nat := ((List.range k).map f).filter (fun x => ND.hasB s x)
theorem wl_hit {f : Nat → Nat} {s k : Nat} (h : ND.hasB s (f k) = true) : wl f s (k + 1) = wl f s k ++ [f k] := by
  unfold wl; rw [List.range_succ, List.map_append, List.filter_append]; simp [h]
theorem wl_miss {f : Nat → Nat} {s k : Nat} (h : ND.hasB s (f k) = false) : wl f s (k + 1) = wl f s k := by
  unfold wl; rw [List.range_succ, List.map_append, List.filter_append]; simp [h]
theorem wl_le (f : Nat → Nat) (s k : Nat) : (wl f s k).length ≤ k := by
  unfold wl; exact Nat.le_trans (List.length_filter_le _ _) (by simp)
/-- As numbers. -/
def zs (l : List Nat) : List Int := l.map Int.ofNat
set_option maxHeartbeats 2000000 in
set_option maxRecDepth 100000 in
theorem within_ok {n : Nat} {fr : Int} {cA : Option Addr} {cL cC : Nat} {cz : Nat → Int} {dA : Option Addr} {dL dC : Nat} {L : Nat → Nat} {Z : Nat → Nat → Int} {w : World} (h : At w cA cL cz dA dL L Z)
    (hok : tchk n fr cL cz dL L Z = 0) (a : Nat) (ha : a < n) (s : Nat) (hs : s < 256) :
    Calls Try.prog 34 #[tval n fr cA cL cC dA dL dC, .int .i64 a, .int .u8 s] w fun e w' => ∃ f v, e = .returned (.tuple #[v, .int .i64 0]) ∧ PermF n f ∧ SortedF (Z a) n f ∧ Ints w' w.heap.size 3 v (zs (wl f s n)) ∧ Kept [] w w' := by
  obtain ⟨i0, hi, hz0, hz1, hz2⟩ := info_parts ND.info3
  have hK0 := (Kept.refl [] w).alloc (.cells #[.int .i64 n, .int .i64 fr, .slice cA cL cC, .slice dA dL dC] 37)
  have hord := order_ok (cC := cC) (dC := dC) (h.kept hK0) hok a ha
  obtain ⟨⟨⟨n1, n8⟩, -⟩, -⟩ := tchk_ok hok
  have n8' : n ≤ 8 := by omega
  have HK0 := hide hK0
  clear hok h hK0
  unfold tval at hord ⊢
  go_enter Try.func34, Try.ntmps34
  go_wp2_with fail
  refine hord.mono ?_
  rintro e w1 ⟨nb, f, rfl, hP, hS, hR, hnb, hK⟩
  have PS := hide (And.intro hP hS)
  have hwf : ∀ k, k < n → f k < n := hP.lt
  have K1 := hide (HK0.out.next hK)
  have HR := hide hR
  have hsz1 : w.heap.size ≤ w1.heap.size := K1.out.size
  clear hP hS hR hK HK0 hord hnb
  go_wp2
  go_loopw [10, 24] (fun v i wr => ∃ k : Nat, k ≤ n ∧ i = .int .i64 k ∧ Ints wr w1.heap.size 3 v (zs (wl f s k)) ∧ Kept [] w1 wr) (fun _ i _ => n - (intOf i).toNat)
  case atStart => exact ⟨0, by omega, rfl, World.ownsRow_nil _ _ _ _, Kept.refl _ _⟩
  case round =>
    obtain ⟨k, hk, rfl, hown, hKk⟩ := hrel
    have hle := wl_le f s k
    by_cases hkl : k < n
    · have hki : (k : Int) < (n : Int) := by omega
      have ck := (hKk.row HR.out (by simp)).cell hkl
      unfold nums at ck
      by_cases hb : ND.hasB s (f k) = true
      · have hhas := ND.has_any s (f k) hs
        rw [hb] at hhas
        have hx := hwf k hkl
        have hlz : (zs (wl f s k)).length = (wl f s k).length := by unfold zs; simp
        have hsz := hKk.size
        generalize hxe : f k = x at ck hhas hx
        go_wp2_with (first
          | (go_at_call 47; refine (hhas _).mono ?_; rintro e w' ⟨rfl, hw⟩; subst w')
          | (at_builtin; refine wpList_append_own _ rfl _ _ 22 rfl w1.heap.size 3 i0 (.int .i64 0) 1 8 Try.underlying22 hi hz0 hz1 hz2 rfl (by decide) _ _ _ rfl (World.ownsRow.alloc hown _) ⟨wr.heap.size, 0, none⟩ 1 1 [.int .i64 x] rfl rfl news_one (by intro u hu; simp at hu; subst hu; rfl) (by unfold maxLen; omega) (by omega) (by simp; omega) ?_))
        intro v' w2 hown' hgrow _
        have hO : Ints w2 w1.heap.size 3 v' (zs (wl f s (k + 1))) := by
          unfold Ints; rw [wl_hit hb]; unfold zs; rw [List.map_append, List.map_append]; simpa [zs, hxe] using hown'
        have hK2 : Kept [] w1 w2 := own_grown (World.ownsRow.alloc hown _) hgrow w1 (hKk.alloc _) (Nat.le_refl _)
        have R := hide (And.intro hO hK2)
        clear hown' hgrow hown hKk hO hK2 hsz ck hhas
        go_wp2
        go_roundw
        case rel => exact ⟨k + 1, by omega, by go_num, R.out⟩
        case measure => simp [intOf]; omega
      · have hb : ND.hasB s (f k) = false := by simpa using hb
        have hhas := ND.has_any s (f k) hs
        rw [hb] at hhas
        have R := hide (And.intro hown hKk)
        clear hown hKk
        generalize hxe : f k = x at ck hhas
        go_wp2_with (go_at_call 47; refine (hhas _).mono ?_; rintro e w' ⟨rfl, hw⟩; subst w')
        go_roundw
        case rel => exact ⟨k + 1, by omega, by go_num, by rw [wl_miss hb]; exact R.out⟩
        case measure => simp [intOf]; omega
    · have e : k = n := by omega
      subst e
      have R := hide (And.intro hown hKk)
      clear hown hKk
      go_wp2
      go_ret2
      exact ⟨f, _, rfl, PS.out.1, PS.out.2, own_base R.out.1 hsz1, K1.out.next R.out.2⟩
end Go.Proofs.Ytnokpecdkibddac.ZN
