
/-
  No statement of the program: the document's Within of layer 4 (messuageref04), over this seat's translation, and that both packages tell the same lists.
-/
import Derived.Test.YtnokpecdkibddabZnLaw
import Derived.Test.YtnokpecdkibddabZoneRef
import Derived.Test.YtnokpecdkibddabNodeRef
namespace Go.Proofs.Ytnokpecdkibddab.ZN
open Go.RowKit TP

/-- Those of the first k of a list that are in the set. -/
def fl (l : List Nat) (s k : Nat) : List Nat := (l.take k).filter (fun x : Nat => ND.hasB s x)
theorem fl_hit {l : List Nat} {s k : Nat} (hk : k < l.length) (h : ND.hasB s (l.getD k 0) = true) : fl l s (k + 1) = fl l s k ++ [l.getD k 0] := by
  unfold fl
  rw [List.getD_eq_getElem?_getD, List.getElem?_eq_getElem hk] at *
  rw [List.take_add_one, List.getElem?_eq_getElem hk, List.filter_append]
  simp at h
  simp [h]
theorem fl_miss {l : List Nat} {s k : Nat} (hk : k < l.length) (h : ND.hasB s (l.getD k 0) = false) : fl l s (k + 1) = fl l s k := by
  unfold fl
  rw [List.getD_eq_getElem?_getD, List.getElem?_eq_getElem hk] at *
  rw [List.take_add_one, List.getElem?_eq_getElem hk, List.filter_append]
  simp at h
  simp [h]
theorem fl_le (l : List Nat) (s k : Nat) : (fl l s k).length ≤ l.length := by
  unfold fl
  exact Nat.le_trans (List.length_filter_le _ _) (by simp; omega)
theorem fl_all (l : List Nat) (s : Nat) : fl l s l.length = l.filter (fun x : Nat => ND.hasB s x) := by unfold fl; rw [List.take_length]
theorem rings_in {n : Nat} {dL : Nat} {L : Nat → Nat} {Z : Nat → Nat → Int} (h : distP n dL L Z) {a : Nat} (ha : a < n) (x : Nat) : x ∈ rings (Z a) n 246 ↔ x < n := by
  rw [rings_mem]
  constructor
  · exact fun hh => hh.1
  · intro hx
    have h1 := (h.2.2 a ha x hx).1
    unfold fitP at h1
    by_cases e : a = x
    · have := h1.1 e; omega
    · have := h1.2 e; omega
theorem wl_rings {n : Nat} {dL : Nat} {L : Nat → Nat} {Z : Nat → Nat → Int} (h : distP n dL L Z) {a : Nat} (ha : a < n) {f : Nat → Nat} (hf : PermF n f) (sf : SortedF (Z a) n f) (s : Nat) : wl f s n = (rings (Z a) n 246).filter (fun x : Nat => ND.hasB s x) := by
  refine pw_unique (R := nearer (Z a)) (fun _ _ h => nearer_irr h) _ _ (wl_pair sf) (List.Pairwise.filter _ (rings_pair _ _ _)) (fun x => ?_)
  rw [wl_mem hf, List.mem_filter, rings_in h ha]
theorem map_rings {n : Nat} {dL : Nat} {L : Nat → Nat} {Z : Nat → Nat → Int} (hn : n ≤ 8) (h : distP n dL L Z) {a : Nat} (ha : a < n) {f : Nat → Nat} (hf : PermF n f) (sf : SortedF (Z a) n f) : (List.range n).map f = rings (Z a) n 246 := by
  rw [← wl_all hn hf, wl_rings h ha hf sf, List.filter_eq_self]
  intro x hx
  exact hasB_all (by have := (rings_in h ha x).1 hx; omega)
theorem head_self {n : Nat} {dL : Nat} {L : Nat → Nat} {Z : Nat → Nat → Int} (h : distP n dL L Z) {a : Nat} (ha : a < n) {f : Nat → Nat} (hf : PermF n f) (sf : SortedF (Z a) n f) : f 0 = a := by
  obtain ⟨i, hi, e2⟩ := hf.sur a ha
  by_cases e3 : i = 0
  · rw [← e3]; exact e2
  · by_cases e4 : f 0 = a
    · exact e4
    · have h1 := sf 0 i (by omega) hi
      rw [e2] at h1
      have h2 := (h.2.2 a ha a ha).1
      have h3 := (h.2.2 a ha (f 0) (hf.lt 0 (by omega))).1
      unfold fitP at h2 h3
      have h4 := h2.1 rfl
      have h5 := h3.2 (fun e => e4 e.symm)
      unfold nearer at h1
      omega
theorem list_some {D : Nat → Int} {n j : Nat} {p : Nat → Bool} {l : List Nat} (hpw : l.Pairwise (nearer D)) (hmem : ∀ x, p x = true → (x ∈ l ↔ x < n)) (hlt : ∀ x, x ∈ l → x < n) (hj : j < l.length) (hf : ∀ i, i < j → p (l.getD i 0) = false) (hm : p (l.getD j 0) = true) : NearIs D n p (some (l.getD j 0)) := by
  have hg : ∀ i, i < l.length → l.getD i 0 ∈ l := fun i hi => by rw [List.getD_eq_getElem?_getD, List.getElem?_eq_getElem hi]; exact List.getElem_mem hi
  refine NearIs.mk (fun x hx => ?_) (fun h => by cases h)
  simp only [Option.some.injEq] at hx
  subst hx
  refine ⟨hlt _ (hg j hj), hm, fun y hy hp => ?_⟩
  obtain ⟨i, hi, e⟩ := List.getElem_of_mem ((hmem y hp).2 hy)
  have e2 : l.getD i 0 = y := by rw [List.getD_eq_getElem?_getD, List.getElem?_eq_getElem hi]; exact e
  rcases Nat.lt_trichotomy i j with hij | hij | hij
  · have := hf i hij
    rw [e2, hp] at this; cases this
  · left; rw [← e2, hij]
  · right
    have := List.pairwise_iff_getElem.1 hpw j i hj hi hij
    rw [e] at this
    rw [List.getD_eq_getElem?_getD, List.getElem?_eq_getElem hj]
    exact this
theorem list_none {D : Nat → Int} {n : Nat} {p : Nat → Bool} {l : List Nat} (hmem : ∀ x, p x = true → (x ∈ l ↔ x < n)) (hf : ∀ i, i < l.length → p (l.getD i 0) = false) : NearIs D n p none := by
  refine NearIs.mk (fun x hx => by cases hx) (fun _ y hy => ?_)
  cases hp : p y with
  | false => rfl
  | true =>
    obtain ⟨i, hi, e⟩ := List.getElem_of_mem ((hmem y hp).2 hy)
    have e2 : l.getD i 0 = y := by rw [List.getD_eq_getElem?_getD, List.getElem?_eq_getElem hi]; exact e
    rw [← hp, ← e2]; exact hf i hi

set_option maxHeartbeats 2000000 in
set_option maxRecDepth 100000 in
theorem rwithin_ok {n : Nat} {fr : Int} {cA : Option Addr} {cL cC : Nat} {cz : Nat → Int} {dA : Option Addr} {dL dC : Nat} {L : Nat → Nat} {Z : Nat → Nat → Int} {w : World} (h : At w cA cL cz dA dL L Z)
    (hok : tchk n fr cL cz dL L Z = 0) (a : Nat) (ha : a < n) (s : Nat) (hs : s < 256) :
    Calls Try.prog 13 #[tval n fr cA cL cC dA dL dC, .int .i64 a, .int .u8 s] w fun e w' => ∃ v, e = .returned v ∧ Ints w' w.heap.size 3 v (zs ((rings (Z a) n 246).filter (fun x : Nat => ND.hasB s x))) ∧ Kept [] w w' := by
  obtain ⟨i0, hi, hz0, hz1, hz2⟩ := info_parts ND.info3
  have hK0 := (Kept.refl [] w).alloc (.cells #[.int .i64 n, .int .i64 fr, .slice cA cL cC, .slice dA dL dC] 25)
  have hord := rorder_ok (cC := cC) (dC := dC) (h.kept hK0) hok a ha
  obtain ⟨⟨⟨n1, n8⟩, -⟩, -, hdp⟩ := tchk_ok hok
  rw [Int.toNat_natCast] at hdp
  have hmem := rings_in hdp ha
  have hlen := rings_len (Z a) n 246
  have n8' : n ≤ 8 := by omega
  generalize rings (Z a) n 246 = l at hord hmem hlen ⊢
  have hll : l.length ≤ 4096 := by omega
  have hwf : ∀ k, k < l.length → l.getD k 0 < n := fun k hk => (hmem _).1 (by rw [List.getD_eq_getElem?_getD, List.getElem?_eq_getElem hk]; exact List.getElem_mem hk)
  have HK0 := hide hK0
  clear hok h hK0 hdp hmem hlen
  unfold tval at hord ⊢
  go_enter Try.func13, Try.ntmps13
  go_wp2_with fail
  refine hord.mono ?_
  rintro e w1 ⟨v, rfl, hI, hK⟩
  have K1 := hide (HK0.out.next hK)
  have hsz1 : w.heap.size ≤ w1.heap.size := K1.out.size
  obtain ⟨ao, cap, rfl, hJ⟩ := hI.isInts (fun x hx => by
    unfold zs at hx
    obtain ⟨y, hy, rfl⟩ := List.mem_map.1 hx
    obtain ⟨i, hi, e⟩ := List.getElem_of_mem hy
    have h3 := hwf i hi
    rw [List.getD_eq_getElem?_getD, List.getElem?_eq_getElem hi] at h3
    simp only [Option.getD_some] at h3
    rw [e] at h3
    exact WalkArith.wf_i64 (by simp; omega))
  have hlz : (zs l).length = l.length := by unfold zs; simp
  rw [hlz] at hJ
  rw [hlz]
  have hI3 : ∀ i, i < l.length → ∃ b off, ao = some ⟨b, off, none⟩ ∧ w1.cell? ⟨b, off + i, none⟩ = some (.int .i64 (l.getD i 0 : Nat)) := by
    intro i hi
    obtain ⟨b, off, e, hc, -⟩ := hJ i hi
    refine ⟨b, off, e, ?_⟩
    rw [hc]
    congr 2
    show (zs l).getD i 0 = _
    unfold zs
    rw [List.getD_eq_getElem?_getD, List.getD_eq_getElem?_getD, List.getElem?_map, List.getElem?_eq_getElem hi]
    rfl
  have HI := hide hI3
  clear hI hJ hI3 hK HK0 hord hlz
  go_wp2
  go_loopw [7, 9] (fun v i wr => ∃ k : Nat, k ≤ l.length ∧ i = .int .i64 k ∧ Ints wr w1.heap.size 3 v (zs (fl l s k)) ∧ Kept [] w1 wr) (fun _ i _ => l.length - (intOf i).toNat)
  case atStart => exact ⟨0, by omega, rfl, World.ownsRow_nil _ _ _ _, Kept.refl _ _⟩
  case round =>
    obtain ⟨k, hk, rfl, hown, hKk⟩ := hrel
    have hle := fl_le l s k
    by_cases hkl : k < l.length
    · have hki : (k : Int) < (l.length : Int) := by omega
      obtain ⟨b, off, hao, hc⟩ := HI.out k hkl
      subst hao
      have ck := hKk.cell hc (by simp)
      have hx := hwf k hkl
      by_cases hb : ND.hasB s (l.getD k 0) = true
      · have hhas := NR.has_any s (l.getD k 0) hs
        rw [hb] at hhas
        have hlz : (zs (fl l s k)).length = (fl l s k).length := by unfold zs; simp
        have hsz := hKk.size
        have HXE : Hid (fl l s (k + 1) = fl l s k ++ [l.getD k 0]) := fl_hit hkl hb
        clear hc hb
        generalize l.getD k 0 = x at ck hhas hx HXE
        go_wp2_with (first
          | (go_at_call 22; refine (hhas _).mono ?_; rintro e w' ⟨rfl, hw⟩; subst w')
          | (at_builtin; refine wpList_append_own _ rfl _ _ 22 rfl w1.heap.size 3 i0 (.int .i64 0) 1 8 Try.underlying22 hi hz0 hz1 hz2 rfl (by decide) _ _ _ rfl (World.ownsRow.alloc hown _) ⟨wr.heap.size, 0, none⟩ 1 1 [.int .i64 x] rfl rfl news_one (by intro u hu; simp at hu; subst hu; rfl) (by unfold maxLen; omega) (by omega) (by simp; omega) ?_))
        intro v' w2 hown' hgrow _
        have hO : Ints w2 w1.heap.size 3 v' (zs (fl l s (k + 1))) := by
          unfold Ints; rw [HXE.out]; unfold zs; rw [List.map_append, List.map_append]; simpa [zs] using hown'
        have hK2 : Kept [] w1 w2 := own_grown (World.ownsRow.alloc hown _) hgrow w1 (hKk.alloc _) (Nat.le_refl _)
        have R := hide (And.intro hO hK2)
        clear hown' hgrow hown hKk hO hK2 hsz ck hhas
        go_wp2
        go_roundw
        case rel => exact ⟨k + 1, by omega, by go_num, R.out⟩
        case measure => simp [intOf]; omega
      · have hb : ND.hasB s (l.getD k 0) = false := by simpa using hb
        have hhas := NR.has_any s (l.getD k 0) hs
        rw [hb] at hhas
        have R := hide (And.intro hown hKk)
        have HXE : Hid (fl l s (k + 1) = fl l s k) := fl_miss hkl hb
        clear hown hKk hb hc
        generalize l.getD k 0 = x at ck hhas
        go_wp2_with (go_at_call 22; refine (hhas _).mono ?_; rintro e w' ⟨rfl, hw⟩; subst w')
        go_roundw
        case rel => exact ⟨k + 1, by omega, by go_num, by rw [HXE.out]; exact R.out⟩
        case measure => simp [intOf]; omega
    · have e : k = l.length := by omega
      have R := hide (And.intro hown hKk)
      have HE := hide e
      have hki : ¬ (k : Int) < (l.length : Int) := by omega
      clear hown hKk e
      go_wp2
      go_ret
      refine ⟨_, rfl, ?_, K1.out.next R.out.2⟩
      rw [← fl_all, ← HE.out]
      exact own_base R.out.1 hsz1
end Go.Proofs.Ytnokpecdkibddab.ZN
