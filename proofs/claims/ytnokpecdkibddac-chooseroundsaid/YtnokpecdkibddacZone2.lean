
/-
  No statement of the program: the library's sort of at most twelve numbers by package zone's comparison, over this seat's translation.
-/
import Derived.Test.YtnokpecdkibddacZone
import Derived.BigRegion
namespace Go.Proofs.Ytnokpecdkibddac.ZN
open Go.RowKit TP

def nearer (D : Nat → Int) (x y : Nat) : Prop := D x < D y ∨ (D x = D y ∧ x < y)
instance (D : Nat → Int) (x y : Nat) : Decidable (nearer D x y) := by unfold nearer; infer_instance
theorem kf_neg (D : Nat → Int) (a b : Nat) : kf D a b < 0 ↔ nearer D a b := by
  unfold kf nearer Lib.compareInt
  by_cases h1 : D a < D b
  · simp [h1]
  · by_cases h2 : D a > D b
    · have h3 : ¬ D a = D b := by omega
      simp [h1, h2, h3]
    · have h3 : D a = D b := by omega
      by_cases h4 : a < b
      · simp [h3, h4]
      · by_cases h5 : b < a
        · simp [h3, h4, h5]
        · simp [h3, h4, h5]
theorem nearer_trans {D : Nat → Int} {x y z : Nat} (h1 : nearer D x y) (h2 : nearer D y z) : nearer D x z := by unfold nearer at *; omega
theorem nearer_total {D : Nat → Int} {x y : Nat} (h : x ≠ y) : nearer D x y ∨ nearer D y x := by unfold nearer; omega
theorem nearer_irr {D : Nat → Int} {x y : Nat} (h : nearer D x y) : ¬ nearer D y x := by unfold nearer at *; omega

/-- The numbers below n, in some order. -/
structure PermF (n : Nat) (f : Nat → Nat) : Prop where
  lt : ∀ i, i < n → f i < n
  inj : ∀ i j, i < n → j < n → f i = f j → i = j
  sur : ∀ x, x < n → ∃ i, i < n ∧ f i = x
def sw (f : Nat → Nat) (j i : Nat) : Nat := if i = j + 1 then f j else if i = j then f (j + 1) else f i
theorem PermF.swap {n j : Nat} {f : Nat → Nat} (h : PermF n f) (hj : j + 1 < n) : PermF n (sw f j) := by
  refine ⟨fun i hi => ?_, fun i k hi hk e => ?_, fun x hx => ?_⟩
  · unfold sw
    split
    · exact h.lt _ (by omega)
    · split
      · exact h.lt _ (by omega)
      · exact h.lt _ hi
  · unfold sw at e
    by_cases a1 : i = j + 1
    · rw [if_pos a1] at e
      by_cases b1 : k = j + 1
      · omega
      · rw [if_neg b1] at e
        by_cases b2 : k = j
        · rw [if_pos b2] at e
          have := h.inj _ _ (by omega) (by omega) e; omega
        · rw [if_neg b2] at e
          have := h.inj _ _ (by omega) (by omega) e; omega
    · rw [if_neg a1] at e
      by_cases a2 : i = j
      · rw [if_pos a2] at e
        by_cases b1 : k = j + 1
        · rw [if_pos b1] at e
          have := h.inj _ _ (by omega) (by omega) e; omega
        · rw [if_neg b1] at e
          by_cases b2 : k = j
          · omega
          · rw [if_neg b2] at e
            have := h.inj _ _ (by omega) (by omega) e; omega
      · rw [if_neg a2] at e
        by_cases b1 : k = j + 1
        · rw [if_pos b1] at e
          have := h.inj _ _ (by omega) (by omega) e; omega
        · rw [if_neg b1] at e
          by_cases b2 : k = j
          · rw [if_pos b2] at e
            have := h.inj _ _ (by omega) (by omega) e; omega
          · rw [if_neg b2] at e
            exact h.inj _ _ (by omega) (by omega) e
  · obtain ⟨i, hi, e⟩ := h.sur x hx
    by_cases a1 : i = j + 1
    · exact ⟨j, by omega, by unfold sw; rw [if_neg (by omega), if_pos rfl, ← a1]; exact e⟩
    · by_cases a2 : i = j
      · exact ⟨j + 1, by omega, by unfold sw; rw [if_pos rfl, ← a2]; exact e⟩
      · exact ⟨i, hi, by unfold sw; rw [if_neg a1, if_neg a2]; exact e⟩
/-- The first i are in order. -/
def SortedF (D : Nat → Int) (i : Nat) (f : Nat → Nat) : Prop := ∀ p q, p < q → q < i → nearer D (f p) (f q)
/-- .. all but the one at j, which is ahead of those behind it. -/
def MidF (D : Nat → Int) (i j : Nat) (f : Nat → Nat) : Prop := ∀ p q, p < q → q ≤ i → q ≠ j → nearer D (f p) (f q)
theorem MidF.start {D : Nat → Int} {i : Nat} {f : Nat → Nat} (h : SortedF D i f) : MidF D i i f := fun p q hp hq hn => h p q hp (by omega)
theorem MidF.done0 {D : Nat → Int} {i : Nat} {f : Nat → Nat} (h : MidF D i 0 f) : SortedF D (i + 1) f := fun p q hp hq => h p q hp (by omega) (by omega)
theorem MidF.done {D : Nat → Int} {n i j : Nat} {f : Nat → Nat} (hP : PermF n f) (hi : i < n) (hj : j + 1 ≤ i) (h : MidF D i (j + 1) f) (hs : ¬ nearer D (f (j + 1)) (f j)) : SortedF D (i + 1) f := by
  have h1 : nearer D (f j) (f (j + 1)) := by
    rcases nearer_total (D := D) (x := f j) (y := f (j + 1)) (fun e => by have := hP.inj _ _ (by omega) (by omega) e; omega) with h2 | h2
    · exact h2
    · exact absurd h2 hs
  intro p q hp hq
  by_cases e : q = j + 1
  · subst e
    by_cases e2 : p = j
    · rw [e2]; exact h1
    · exact nearer_trans (h p j (by omega) (by omega) (by omega)) h1
  · exact h p q hp (by omega) e
theorem MidF.step {D : Nat → Int} {i j : Nat} {f : Nat → Nat} (_hj : j + 1 ≤ i) (h : MidF D i (j + 1) f) (hs : nearer D (f (j + 1)) (f j)) : MidF D i j (sw f j) := by
  intro p q hp hq hn
  unfold sw
  by_cases q1 : q = j + 1
  · rw [if_pos q1]
    have hpj : p ≠ j + 1 := by omega
    rw [if_neg hpj]
    by_cases p2 : p = j
    · rw [if_pos p2]; exact hs
    · rw [if_neg p2]; exact h p j (by omega) (by omega) (by omega)
  · rw [if_neg q1, if_neg hn]
    by_cases p1 : p = j + 1
    · rw [if_pos p1]; exact h j q (by omega) hq q1
    · rw [if_neg p1]
      by_cases p2 : p = j
      · rw [if_pos p2]; exact h (j + 1) q (by omega) hq q1
      · rw [if_neg p2]; exact h p q hp hq q1

theorem IsInts.keptL {k : IntKind} {w w' : World} {ao : Option Addr} {len : Nat} {z : Nat → Int} {L : List Nat} (h : IsInts k w ao len z) (hk : Kept L w w') (hL : ∀ b off, ao = some ⟨b, off, none⟩ → b ∉ L) : IsInts k w' ao len z := by
  intro i hi
  obtain ⟨b, off, rfl, hc, hw⟩ := h i hi
  exact ⟨b, off, rfl, hk.cell hc (hL b off rfl), hw⟩
def nums (f : Nat → Nat) (i : Nat) : Value := .int .i64 (f i)
theorem row_swap {w : World} {nb n j : Nat} {f : Nat → Nat} (h : w.rowIs nb 3 n (nums f)) :
    ((w.setCell ⟨nb, j + 1, none⟩ (.int .i64 (f j))).setCell ⟨nb, j, none⟩ (.int .i64 (f (j + 1)))).rowIs nb 3 n (nums (sw f j)) := by
  refine ((h.set (j + 1) (.int .i64 (f j))).set j (.int .i64 (f (j + 1)))).congr (fun i _ => ?_)
  unfold nums sw
  by_cases e1 : i = j
  · have : i ≠ j + 1 := by omega
    rw [if_pos e1, if_neg this, if_pos e1]
  · rw [if_neg e1]
    by_cases e2 : i = j + 1
    · rw [if_pos e2, if_pos e2]
    · rw [if_neg e2, if_neg e2, if_neg e1]

set_option maxHeartbeats 4000000 in
set_option maxRecDepth 100000 in
theorem ins_any {nb q n : Nat} {A : Option Addr} {C : Nat} {D : Nat → Int} {f0 : Nat → Nat} {w : World} (hn : n ≤ 8) (hR : w.rowIs nb 3 n (nums f0)) (hP : PermF n f0)
    (hq : w.cell? ⟨q, 0, none⟩ = some (.slice A n C)) (hI : IsInts .i64 w A n D) (hqn : q ≠ nb) (hA : ∀ b off, A = some ⟨b, off, none⟩ → b ≠ nb) :
    Calls Try.prog 72 #[.slice (some ⟨nb, 0, none⟩) n n, .int .i64 0, .int .i64 n, .func (.func 56) #[] #[.pointer (some ⟨q, 0, none⟩)]] w fun e w' =>
      e = .returned (.tuple #[]) ∧ ∃ f, PermF n f ∧ SortedF D n f ∧ w'.rowIs nb 3 n (nums f) ∧ Kept [nb] w w' := by
  have hcmp : ∀ w', Kept [nb] w w' → ∀ a b : Nat, a < n → b < n → Calls Try.prog 56 #[.int .i64 a, .int .i64 b, .pointer (some ⟨q, 0, none⟩)] w' fun e w'' => e = .returned (.int .i64 (kf D a b)) ∧ Kept [] w' w'' :=
    fun w' hk a b ha hb => cmp_any (hk.cell hq (by simpa using hqn)) (IsInts.keptL hI hk (fun b0 off e => by simpa using hA b0 off e)) hn a b ha hb
  have HC := hide hcmp
  have HP := hide hP
  have HR := hide hR
  clear hcmp hP hR hq hI hA
  go_enter Try.func72, Try.ntmps72
  go_wp2
  go_loopw [8] (fun vi wr => ∃ (i : Nat) (f : Nat → Nat), 1 ≤ i ∧ i ≤ n + 1 ∧ vi = .int .i64 i ∧ PermF n f ∧ SortedF D i f ∧ wr.rowIs nb 3 n (nums f) ∧ Kept [nb] w wr) (fun i _ => n + 1 - (intOf i).toNat)
  case atStart => exact ⟨1, f0, by omega, by omega, rfl, HP.out, fun p q hp hq => by omega, HR.out, Kept.refl _ _⟩
  case round =>
    obtain ⟨i, f, hi1, hin, rfl, hPf, hSf, hRf, hKf⟩ := hrel
    have S := hide (And.intro hPf (And.intro hSf (And.intro hRf hKf)))
    clear hPf hSf hRf hKf
    by_cases hlt : i < n
    · have hltz : (i : Int) < (n : Int) := by omega
      go_wp2
      go_loopw [9] (fun vj wr2 => ∃ (j : Nat) (f : Nat → Nat), j ≤ i ∧ vj = .int .i64 j ∧ PermF n f ∧ MidF D i j f ∧ wr2.rowIs nb 3 n (nums f) ∧ Kept [nb] w wr2) (fun j _ => (intOf j).toNat)
      case atStart => exact ⟨i, f, Nat.le_refl _, rfl, S.out.1, MidF.start S.out.2.1, S.out.2.2.1, S.out.2.2.2⟩
      case round =>
        clear S
        obtain ⟨j, f, hji, rfl, hPf, hMf, hRf, hKf⟩ := hrel
        cases j with
        | zero =>
          have S := hide (And.intro hPf (And.intro hMf (And.intro hRf hKf)))
          clear hPf hMf hRf hKf
          have hz : ¬ ((0 : Int) < ((0 : Nat) : Int)) := by omega
          go_wp2_with fail
          go_big_region
          all_goals go_wp2
          refine ⟨⟨i + 1, f, by omega, by omega, by go_num, S.out.1, S.out.2.1.done0, S.out.2.2.1.drew, S.out.2.2.2.drew⟩, by simp [intOf]; omega⟩
        | succ jp =>
          have cj := hRf.cell (i := jp + 1) (by omega)
          have cp := hRf.cell (i := jp) (by omega)
          have fj := hRf.frozen (jp + 1)
          have fp := hRf.frozen jp
          have hx := hPf.lt (jp + 1) (by omega)
          have hy := hPf.lt jp (by omega)
          unfold nums at cj cp
          have hwp : IntKind.i64.wrap (jp : Int) = (jp : Int) := by rw [IntKind.wrap_i64]; omega
          have jz : (jp : Int) + 1 < (n : Int) := by omega
          have jz1 : (jp : Int) < (n : Int) := by omega
          have jz2 : (0 : Int) < (jp : Int) + 1 := by omega
          have p0 : (0 : Int) ≤ (jp : Int) + 1 := by omega
          have e0 : ((jp : Int) + 1).toNat = jp + 1 := by omega
          have hk := hKf.drew
          have S := hide (And.intro hPf (And.intro hMf hRf))
          clear hPf hMf hRf hKf
          obtain ⟨x, hxe⟩ : ∃ x, x = f (jp + 1) := ⟨_, rfl⟩
          obtain ⟨y, hye⟩ : ∃ y, y = f jp := ⟨_, rfl⟩
          rw [← hxe] at cj hx
          rw [← hye] at cp hy
          have hlv := kf_neg D x y
          have HX := hide hxe
          have HY := hide hye
          clear hxe hye
          by_cases hnr : nearer D x y
          · have hlt0 := hlv.2 hnr
            have HN := hide hnr
            clear hlv hnr
            go_wp2_with fail
            go_region_held3 (fun w' => w'.cell? ⟨nb, jp + 1, none⟩ = some (.int .i64 x) ∧ w'.cell? ⟨nb, jp, none⟩ = some (.int .i64 y)) (go_keep) (first
              | (go_at_call 56; refine (HC.out _ hk x y hx hy).mono ?_; rintro e w5 ⟨rfl, hK5⟩; have dj := hK5.cell cj (by simp); have dp := hK5.cell cp (by simp); have R5 := hide (hK5.row S.out.2.2.drew (by simp)); have K5 := hide (hk.next hK5); clear hK5))
            have fj5 := R5.out.frozen (jp + 1)
            have fp5 := R5.out.frozen jp
            clear cj cp fj fp hk
            go_wp2_with fail
            go_big_region
            all_goals go_wp2
            refine ⟨⟨jp, sw f jp, by omega, rfl, S.out.1.swap (by omega), S.out.2.1.step hji (by rw [← HX.out, ← HY.out]; exact HN.out), by rw [HX.out, HY.out]; exact (row_swap R5.out).drew, ((K5.out.setCell (fun _ => by simp) _).setCell (fun _ => by simp) _).drew⟩, by simp [intOf]⟩
          · have hlt0 : ¬ kf D x y < 0 := fun h => hnr (hlv.1 h)
            have HN := hide hnr
            clear hlv hnr
            go_wp2_with fail
            go_region_held3 (fun w' => w'.cell? ⟨nb, jp + 1, none⟩ = some (.int .i64 x) ∧ w'.cell? ⟨nb, jp, none⟩ = some (.int .i64 y)) (go_keep) (first
              | (go_at_call 56; refine (HC.out _ hk x y hx hy).mono ?_; rintro e w5 ⟨rfl, hK5⟩; have dj := hK5.cell cj (by simp); have dp := hK5.cell cp (by simp); have R5 := hide (hK5.row S.out.2.2.drew (by simp)); have K5 := hide (hk.next hK5); clear hK5))
            go_wp2
            refine ⟨⟨i + 1, f, by omega, by omega, by go_num, S.out.1, S.out.2.1.done S.out.1 hlt hji (by rw [← HX.out, ← HY.out]; exact HN.out), R5.out, K5.out⟩, by simp [intOf]; omega⟩
    · have hltz : ¬ (i : Int) < (n : Int) := by omega
      go_wp2
      go_end0
      refine ⟨rfl, f, S.out.1, fun p q hp hq => S.out.2.1 p q hp (by omega), S.out.2.2.1, S.out.2.2.2⟩

set_option maxHeartbeats 2000000 in
set_option maxRecDepth 100000 in
theorem sort_any {nb q n : Nat} {A : Option Addr} {C : Nat} {D : Nat → Int} {f0 : Nat → Nat} {w : World} (hn : n ≤ 8) (hR : w.rowIs nb 3 n (nums f0)) (hP : PermF n f0)
    (hq : w.cell? ⟨q, 0, none⟩ = some (.slice A n C)) (hI : IsInts .i64 w A n D) (hqn : q ≠ nb) (hA : ∀ b off, A = some ⟨b, off, none⟩ → b ≠ nb) :
    Calls Try.prog 55 #[.slice (some ⟨nb, 0, none⟩) n n, .func (.func 56) #[] #[.pointer (some ⟨q, 0, none⟩)]] w fun e w' =>
      e = .returned (.tuple #[]) ∧ ∃ f, PermF n f ∧ SortedF D n f ∧ w'.rowIs nb 3 n (nums f) ∧ Kept [nb] w w' := by
  have hi := ins_any hn hR hP hq hI hqn hA
  clear hR hP hq hI hqn hA
  have hpdq : ∀ lim : Int, Calls Try.prog 66 #[.slice (some ⟨nb, 0, none⟩) n n, .int .i64 0, .int .i64 n, .int .i64 lim, .func (.func 56) #[] #[.pointer (some ⟨q, 0, none⟩)]] w fun e w' =>
      e = .returned (.tuple #[]) ∧ ∃ f, PermF n f ∧ SortedF D n f ∧ w'.rowIs nb 3 n (nums f) ∧ Kept [nb] w w' := by
    intro lim
    go_enter Try.func66, Try.ntmps66
    go_wp2
    refine wp_loop_rounds 1 ?_
    rw [rounds_succ]
    go_wp2_with (go_at_call 72; refine hi.mono ?_; rintro e w' ⟨rfl, H⟩)
    (try simp only [Exit.inBlock, Exit.then])
    refine bodyPost_ret (results_none rfl _ _ _) rfl ?_
    exact ⟨rfl, H⟩
  have hlen := fun w' => Try.bits_Len n w' (by omega) (by omega)
  clear hi
  go_enter Try.func55, Try.ntmps55
  go_wp2_with (first | (go_at_call 67; refine (hlen _).mono ?_; rintro e w' ⟨rfl, hw⟩; subst w') | (go_at_call 66; refine (hpdq _).mono ?_; rintro e w' ⟨rfl, H⟩))
  go_end0
  exact ⟨rfl, H⟩
end Go.Proofs.Ytnokpecdkibddac.ZN
