
/-
  No statement of the program: the contract of package zone's Nearest, over this seat's translation.
-/
import Derived.Test.YtnokpecdkibddacZone4
namespace Go.Proofs.Ytnokpecdkibddac.ZN
open Go.RowKit TP

/-- A list of yes and no. -/
def IsBools (w : World) (ao : Option Addr) (len : Nat) (z : Nat → Bool) : Prop := ∀ i, i < len → ∃ b off, ao = some ⟨b, off, none⟩ ∧ w.cell? ⟨b, off + i, none⟩ = some (.bool (z i))
theorem IsBools.kept {w w' : World} {ao : Option Addr} {len : Nat} {z : Nat → Bool} (h : IsBools w ao len z) (hk : Kept [] w w') : IsBools w' ao len z := by
  intro i hi
  obtain ⟨b, off, rfl, hc⟩ := h i hi
  exact ⟨b, off, rfl, hk.cell hc (by simp)⟩

/-- r is the nearest one of those below n for which p is true. -/
structure NearIs (D : Nat → Int) (n : Nat) (p : Nat → Bool) (r : Option Nat) : Prop where
  some : ∀ x, r = Option.some x → x < n ∧ p x = true ∧ ∀ y, y < n → p y = true → y = x ∨ nearer D x y
  none : r = Option.none → ∀ y, y < n → p y = false
theorem NearIs.unique {D : Nat → Int} {n : Nat} {p : Nat → Bool} {r r' : Option Nat} (h : NearIs D n p r) (h' : NearIs D n p r') : r = r' := by
  cases r with
  | none =>
    cases r' with
    | none => rfl
    | some y =>
      obtain ⟨h1, h2, -⟩ := h'.some y rfl
      rw [h.none rfl y h1] at h2; cases h2
  | some x =>
    obtain ⟨h1, h2, h3⟩ := h.some x rfl
    cases r' with
    | none => rw [h'.none rfl x h1] at h2; cases h2
    | some y =>
      obtain ⟨g1, g2, g3⟩ := h'.some y rfl
      rcases h3 y g1 g2 with e | e
      · rw [e]
      · rcases g3 x h1 h2 with e' | e'
        · rw [e']
        · exact absurd e' (nearer_irr e)

/-- May it be? -/
def mayB (mL : Nat) (mz : Nat → Bool) (x : Nat) : Bool := decide (x < mL) && mz x
theorem wl_pair {D : Nat → Int} {n s : Nat} {f : Nat → Nat} (h : SortedF D n f) : (wl f s n).Pairwise (nearer D) := by
  unfold wl
  refine List.Pairwise.filter _ ?_
  rw [List.pairwise_map]
  have h1 : (List.range n).Pairwise (fun a b => a < b ∧ b < n) := by
    rw [List.pairwise_iff_getElem]
    intro i j hi hj hij
    simp at hi hj ⊢
    omega
  exact h1.imp (fun hab => h _ _ hab.1 hab.2)
theorem wl_mem {n s : Nat} {f : Nat → Nat} (h : PermF n f) (x : Nat) : x ∈ wl f s n ↔ x < n ∧ ND.hasB s x = true := by
  unfold wl
  rw [List.mem_filter, List.mem_map]
  constructor
  · rintro ⟨⟨i, hi, rfl⟩, h2⟩
    exact ⟨h.lt i (by simpa using hi), h2⟩
  · rintro ⟨h1, h2⟩
    obtain ⟨i, hi, e⟩ := h.sur x h1
    exact ⟨⟨i, by simpa using hi, e⟩, h2⟩
theorem near_some {D : Nat → Int} {n s mL j : Nat} {mz : Nat → Bool} {f : Nat → Nat} (hP : PermF n f) (hS : SortedF D n f) (hj : j < (wl f s n).length) (hf : ∀ i, i < j → mayB mL mz ((wl f s n).getD i 0) = false)
    (hm : mayB mL mz ((wl f s n).getD j 0) = true) : NearIs D n (fun x => ND.hasB s x && mayB mL mz x) (some ((wl f s n).getD j 0)) := by
  have hg : ∀ i, i < (wl f s n).length → (wl f s n).getD i 0 ∈ wl f s n := fun i hi => by rw [List.getD_eq_getElem?_getD, List.getElem?_eq_getElem hi]; exact List.getElem_mem hi
  refine ⟨fun x hx => ?_, fun h => by cases h⟩
  simp only [Option.some.injEq] at hx
  subst hx
  have hmem := (wl_mem hP _).1 (hg j hj)
  refine ⟨hmem.1, by show (ND.hasB s _ && mayB mL mz _) = true; rw [hmem.2, hm]; rfl, fun y hy hp => ?_⟩
  simp only [Bool.and_eq_true] at hp
  have hym := (wl_mem hP y).2 ⟨hy, hp.1⟩
  obtain ⟨i, hi, e⟩ := List.getElem_of_mem hym
  have e2 : (wl f s n).getD i 0 = y := by rw [List.getD_eq_getElem?_getD, List.getElem?_eq_getElem hi]; exact e
  rcases Nat.lt_trichotomy i j with hij | hij | hij
  · have := hf i hij
    rw [e2, hp.2] at this; cases this
  · left; rw [← e2, hij]
  · right
    have := List.pairwise_iff_getElem.1 (wl_pair (s := s) hS) j i hj hi hij
    rw [e] at this
    rw [List.getD_eq_getElem?_getD, List.getElem?_eq_getElem hj]
    exact this
theorem near_none {D : Nat → Int} {n s mL : Nat} {mz : Nat → Bool} {f : Nat → Nat} (hP : PermF n f) (hf : ∀ i, i < (wl f s n).length → mayB mL mz ((wl f s n).getD i 0) = false) :
    NearIs D n (fun x => ND.hasB s x && mayB mL mz x) none := by
  refine NearIs.mk (fun x hx => by cases hx) (fun _ y hy => ?_)
  by_cases hb : ND.hasB s y = true
  · have hym := (wl_mem hP y).2 ⟨hy, hb⟩
    obtain ⟨i, hi, e⟩ := List.getElem_of_mem hym
    have e2 : (wl f s n).getD i 0 = y := by rw [List.getD_eq_getElem?_getD, List.getElem?_eq_getElem hi]; exact e
    have := hf i hi
    rw [e2] at this
    show (ND.hasB s y && mayB mL mz y) = false
    rw [this, Bool.and_false]
  · show (ND.hasB s y && mayB mL mz y) = false
    rw [show ND.hasB s y = false from by simpa using hb]; rfl

set_option maxHeartbeats 2000000 in
set_option maxRecDepth 100000 in
theorem nearest_ok {n : Nat} {fr : Int} {cA : Option Addr} {cL cC : Nat} {cz : Nat → Int} {dA : Option Addr} {dL dC : Nat} {L : Nat → Nat} {Z : Nat → Nat → Int} {w : World} (h : At w cA cL cz dA dL L Z)
    (hok : tchk n fr cL cz dL L Z = 0) (a : Nat) (ha : a < n) (s : Nat) (hs : s < 256) {mA : Option Addr} {mL mC : Nat} {mz : Nat → Bool} (hm : IsBools w mA mL mz) (_hml : mL ≤ maxLen) :
    Calls Try.prog 20 #[tval n fr cA cL cC dA dL dC, .int .i64 a, .int .u8 s, .slice mA mL mC] w fun e w' => ∃ r : Option Nat, e = .returned (.tuple #[.int .i64 (r.getD 0 : Nat), .bool r.isSome]) ∧
      NearIs (Z a) n (fun x => ND.hasB s x && mayB mL mz x) r ∧ Kept [] w w' := by
  have hK0 := (Kept.refl [] w).alloc (.cells #[.int .i64 n, .int .i64 fr, .slice cA cL cC, .slice dA dL dC] 37)
  have hwi := within_ok (cC := cC) (dC := dC) (h.kept hK0) hok a ha s hs
  obtain ⟨⟨⟨n1, n8⟩, -⟩, -⟩ := tchk_ok hok
  have n8' : n ≤ 8 := by omega

  have HK0 := hide hK0
  have HM := hide hm
  clear hok h hK0 hm
  unfold tval at hwi ⊢
  go_enter Try.func20, Try.ntmps20
  go_wp2_with fail
  refine hwi.mono ?_
  rintro e w1 ⟨f, v, rfl, hP, hS, hI, hK⟩
  have PS := hide (And.intro hP hS)
  have hlt : ∀ i, i < (wl f s n).length → (wl f s n).getD i 0 < n := fun i hi => ((wl_mem hP _).1 (by rw [List.getD_eq_getElem?_getD, List.getElem?_eq_getElem hi]; exact List.getElem_mem hi)).1
  have hle := wl_le f s n
  have K1 := hide (HK0.out.next hK)
  obtain ⟨ao, cap, rfl, hI2⟩ := hI.isInts (fun x hx => by
    unfold zs at hx
    obtain ⟨y, hy, rfl⟩ := List.mem_map.1 hx
    have := ((wl_mem hP _).1 hy).1
    exact WalkArith.wf_i64 (by simp; omega))
  have hlz : (zs (wl f s n)).length = (wl f s n).length := by unfold zs; simp
  rw [hlz] at hI2
  rw [hlz]
  have hI3 : ∀ i, i < (wl f s n).length → ∃ b off, ao = some ⟨b, off, none⟩ ∧ w1.cell? ⟨b, off + i, none⟩ = some (.int .i64 ((wl f s n).getD i 0 : Nat)) := by
    intro i hi
    obtain ⟨b, off, e, hc, -⟩ := hI2 i hi
    refine ⟨b, off, e, ?_⟩
    rw [hc]
    congr 2
    show (zs (wl f s n)).getD i 0 = _
    unfold zs
    rw [List.getD_eq_getElem?_getD, List.getD_eq_getElem?_getD, List.getElem?_map, List.getElem?_eq_getElem hi]
    rfl
  have HI := hide hI3
  clear hI hI2 hI3 hP hS hK HK0 hwi hlz
  generalize hl : wl f s n = l at HI hlt hle ⊢
  go_wp2
  go_loopw [23] (fun i wr => ∃ k : Nat, k ≤ l.length ∧ i = .int .i64 k ∧ wr = w1 ∧ ∀ i, i < k → mayB mL mz (l.getD i 0) = false) (fun i _ => l.length - (intOf i).toNat)
  case atStart => exact ⟨0, by omega, rfl, rfl, fun i hi => absurd hi (Nat.not_lt_zero _)⟩
  case round =>
    obtain ⟨k, hk, rfl, hwr, hf⟩ := hrel
    subst wr
    have HF := hide hf
    clear hf
    by_cases hkl : k < l.length
    · have hki : (k : Int) < (l.length : Int) := by omega
      obtain ⟨b, off, hao, hc⟩ := HI.out k hkl
      subst hao
      have hx8 := hlt k hkl
      obtain ⟨x, hx⟩ : ∃ x, x = l.getD k 0 := ⟨_, rfl⟩
      rw [← hx] at hc hx8
      have HX := hide hx
      clear hx
      by_cases hxm : x < mL
      · have hxi : (x : Int) < (mL : Int) := by omega
        obtain ⟨b2, off2, hmA, hcm⟩ := HM.out.kept K1.out x hxm
        subst hmA
        by_cases hmz : mz x = true
        · rw [hmz] at hcm
          have R := hide (near_some (D := Z a) (mL := mL) (mz := mz) (s := s) (j := k) PS.out.1 PS.out.2 (by rw [hl]; exact hkl) (by rw [hl]; exact HF.out) (by rw [hl, ← HX.out]; unfold mayB; rw [hmz, decide_eq_true hxm]; rfl))
          rw [hl, ← HX.out] at R
          go_wp2
          go_ret2
          exact ⟨some x, rfl, R.out, K1.out⟩
        · have hmz : mz x = false := by simpa using hmz
          rw [hmz] at hcm
          go_wp2
          go_roundw
          case rel =>
            refine ⟨k + 1, by omega, by go_num, trivial, fun i hi => ?_⟩
            by_cases e : i = k
            · rw [e, ← HX.out]; unfold mayB; rw [hmz]; simp
            · exact HF.out i (by omega)
          case measure => simp [intOf]; omega
      · have hxi : ¬ (x : Int) < (mL : Int) := by omega
        go_wp2
        go_roundw
        case rel =>
          refine ⟨k + 1, by omega, by go_num, trivial, fun i hi => ?_⟩
          by_cases e : i = k
          · rw [e, ← HX.out]; unfold mayB; rw [decide_eq_false hxm]; rfl
          · exact HF.out i (by omega)
        case measure => simp [intOf]; omega
    · have e : k = l.length := by omega
      have R := hide (near_none (D := Z a) (mL := mL) (mz := mz) (s := s) PS.out.1 (by rw [hl]; intro i hi; exact HF.out i (by omega)))
      subst e
      go_wp2
      go_ret2
      exact ⟨none, rfl, R.out, K1.out⟩
end Go.Proofs.Ytnokpecdkibddac.ZN
