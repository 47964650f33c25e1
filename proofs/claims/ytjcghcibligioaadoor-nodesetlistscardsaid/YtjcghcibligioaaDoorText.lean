/-
  No statement of the program: the contracts of package nodeset's Text and what it calls, over this seat's translation.
-/
import Derived.Test.YtjcghcibligioaaDoorNode2
namespace Go.Proofs.YtjcghcibligioaaDoor.ND
open Go.RowKit

/-- The texts of a list that a call has made. -/
def Strs (w : World) (base : Nat) (e : TypeId) (v : Value) (l : List (List UInt8)) : Prop := w.ownsRow base e 1 v l.length (l.map (fun b => Value.string ⟨b.toArray⟩))

/-- The last of the nodes side by side from i on. -/
def lastF (s : Nat) : Nat → Nat → Nat
  | 0, i => i
  | f + 1, i => if hasB s ((i + 1 : Nat) : Int) then lastF s f (i + 1) else i
theorem last_bounds (s f i : Nat) (hi : i ≤ 7) : i ≤ lastF s f i ∧ lastF s f i ≤ 7 := by
  induction f generalizing i with
  | zero => exact ⟨Nat.le_refl _, hi⟩
  | succ f ih =>
    unfold lastF
    by_cases h : hasB s ((i + 1 : Nat) : Int) = true
    · rw [if_pos h]
      have h7 : i + 1 ≤ 7 := by
        by_cases h8 : i + 1 ≤ 7
        · exact h8
        · rw [hasB_out s (by omega)] at h; cases h
      have := ih (i + 1) h7
      omega
    · rw [if_neg h]; omega
set_option maxHeartbeats 400000 in
theorem last_any (s i : Nat) (hs : s < 256) (hi : i ≤ 7) (w : World) : Calls Tryd.prog 27 #[.int .u8 s, .int .i64 i] w fun e w' => e = .returned (.int .i64 (lastF s 8 i)) ∧ w' = w := by
  go_enter Tryd.func27, Tryd.ntmps27
  go_wp2
  go_loop [5] (fun t => ∃ j f : Nat, j ≤ 7 ∧ 8 ≤ f + j ∧ t = .int .i64 j ∧ lastF s f j = lastF s 8 i) (fun t => 8 - (intOf t).toNat)
  case atStart => exact ⟨i, 8, hi, by omega, rfl, rfl⟩
  case round =>
    obtain ⟨j, f, hj, hf, rfl, he⟩ := hrel
    obtain ⟨f, rfl⟩ : ∃ f', f = f' + 1 := ⟨f - 1, by omega⟩
    have HE := hide he
    clear he
    have hcast : ((j : Int) + 1) = ((j + 1 : Nat) : Int) := by omega
    by_cases hb : hasB s ((j + 1 : Nat) : Int) = true
    · have h7 : j + 1 ≤ 7 := by
        by_cases h8 : j + 1 ≤ 7
        · exact h8
        · rw [hasB_out s (by omega)] at hb; cases hb
      have HB := hide hb
      have HC := hide hcast
      clear hb hcast
      go_wp2_with fail
      rw [HC.out]
      refine (has_any s _ hs _).mono ?_
      rintro e w' ⟨rfl, hw⟩
      subst w'
      rw [HB.out]
      go_wp2
      go_round
      case rel => exact ⟨j + 1, f, h7, by omega, by go_num, by rw [← HE.out]; show _ = (if hasB s ((j + 1 : Nat) : Int) then lastF s f (j + 1) else j); rw [if_pos HB.out]⟩
      case measure => simp [intOf]; omega
    · have hb : hasB s ((j + 1 : Nat) : Int) = false := by simpa using hb
      have HB := hide hb
      have HC := hide hcast
      clear hb hcast
      go_wp2_with fail
      rw [HC.out]
      refine (has_any s _ hs _).mono ?_
      rintro e w' ⟨rfl, hw⟩
      subst w'
      rw [HB.out]
      have hv : lastF s (f + 1) j = j := by show (if hasB s ((j + 1 : Nat) : Int) then lastF s f (j + 1) else j) = j; rw [if_neg (by rw [HB.out]; simp)]
      have HV := hide hv
      clear hv
      go_wp2
      go_ret
      exact ⟨ret_int (by rw [← HE.out, HV.out]), rfl⟩

def dig (i : Nat) : List UInt8 := [UInt8.ofNat (48 + i)]
theorem itoa_any (i : Nat) (hi : i < 8) (w : World) : Calls Tryd.prog 36 #[.int .i64 i] w fun e w' => e = .returned (.string ⟨(dig i).toArray⟩) ∧ w' = w := by
  refine (Tryd.strconv_Itoa_small i (by omega) w).mono ?_
  rintro e w' ⟨rfl, rfl⟩
  rw [Lib.decDigits_one (by omega)]
  exact ⟨rfl, rfl⟩
/-- The text of nodes side by side, in parts. -/
def runP (a b : Nat) : List (List UInt8) := if a + 2 ≤ b then [dig a ++ [45] ++ dig b] else if a + 1 = b then [dig a, dig b] else [dig a]

theorem info9 : (Tryd.prog.info? 9).map (fun i => (i.zero, i.size, i.bytes)) = some (some (.string ByteArray.empty), 1, 16) := by kernel_rfl

theorem own_lit (w : World) (xs : List Value) (e : TypeId) (h : xs.length ≤ maxLen) : (w.alloc (.cells xs.toArray e)).ownsRow w.heap.size e 1 (.slice (some ⟨w.heap.size, 0, none⟩) xs.length xs.length) xs.length xs :=
  ⟨by simp, .inr ⟨w.heap.size, _, xs.toArray, rfl, Nat.le_refl _, heap_alloc_new _ _, Nat.le_refl _, h, by simp, by simp⟩⟩
def digs (a k : Nat) : List (List UInt8) := (List.range k).map (fun j => dig (a + j))
theorem digs_succ (a k : Nat) : digs a (k + 1) = digs a k ++ [dig (a + k)] := by simp [digs, List.range_succ]
theorem digs_len (a k : Nat) : (digs a k).length = k := by simp [digs]
theorem runP_digs (a b : Nat) (hab : a ≤ b) (h : b < a + 2) : runP a b = digs a (b + 1 - a) := by
  unfold runP
  rw [if_neg (by omega)]
  by_cases e : a + 1 = b
  · subst e
    rw [if_pos rfl, show a + 1 + 1 - a = 2 from by omega]; rfl
  · rw [if_neg e, show b + 1 - a = 1 from by omega]; rfl
theorem runP_len (a b : Nat) : 1 ≤ (runP a b).length ∧ (runP a b).length ≤ 2 := by
  unfold runP; split
  · simp
  · split <;> simp

set_option maxHeartbeats 1000000 in
theorem parts_any (a b : Nat) (hab : a ≤ b) (hb : b ≤ 7) (w : World) : Calls Tryd.prog 28 #[.int .i64 a, .int .i64 b] w fun e w' => ∃ v, e = .returned v ∧ Strs w' w.heap.size 9 v (runP a b) ∧ Kept [] w w' := by
  obtain ⟨i0, hi, hz0, hz1, hz2⟩ := info_parts info9
  rcases (show a + 2 ≤ b ∨ b < a + 2 from by omega) with h | h
  · have ad1 := fun w => run_string_add_lists (P := Tryd.prog) w (dig a) [45] (by simp [dig]) (by simp)
    have ad2 := fun w => run_string_add_lists (P := Tryd.prog) w (dig a ++ [45]) (dig b) (by simp [dig]) (by simp [dig])
    go_enter Tryd.func28, Tryd.ntmps28
    go_wp2_with fail
    refine (itoa_any a (by omega) _).mono ?_
    rintro e w' ⟨rfl, hw⟩
    subst w'
    go_wp2_with fail
    refine (itoa_any b (by omega) _).mono ?_
    rintro e w' ⟨rfl, hw⟩
    subst w'
    go_wp2_with fail
    go_ret
    refine ⟨_, rfl, ?_, (Kept.refl _ _).alloc _⟩
    have e : runP a b = [dig a ++ 45 :: dig b] := by unfold runP; rw [if_pos h]; simp
    rw [e]
    exact own_lit w [.string ⟨(dig a ++ 45 :: dig b).toArray⟩] 9 (by unfold maxLen; simp)
  · have e := runP_digs a b hab h
    rw [e]
    have hlb : b + 1 - a ≤ 2 := by omega
    obtain ⟨m, hm⟩ : ∃ m, m = b + 1 - a := ⟨_, rfl⟩
    rw [← hm]
    have hm2 : m ≤ 2 := by omega
    have hmb : a + m = b + 1 := by omega
    have HM := hide hmb
    clear hm e hmb
    have hm3 : a + m ≤ b + 1 := by have := HM.out; omega
    have hm4 : b + 1 ≤ a + m := by have := HM.out; omega
    go_enter Tryd.func28, Tryd.ntmps28
    go_wp2_with fail
    go_loopw [5, 6] (fun v i wr => ∃ j : Nat, j ≤ m ∧ i = .int .i64 ((a + j : Nat) : Int) ∧ Strs wr w.heap.size 9 v (digs a j) ∧ Kept [] w wr) (fun _ i _ => b + 1 - (intOf i).toNat)
    case atStart => exact ⟨0, by omega, rfl, World.ownsRow_nil _ _ _ _, Kept.refl _ _⟩
    case round =>
      obtain ⟨j, hj, rfl, hown, hK⟩ := hrel
      obtain ⟨p, hp⟩ : ∃ p, p = a + j := ⟨_, rfl⟩
      have hp1 : p ≤ a + j := by omega
      have hp2 : a + j ≤ p := by omega
      have HP := hide hp
      rw [← hp]
      clear hp
      have hdl := digs_len a j
      by_cases hjm : j < m
      · have hsz := hK.size
        have hpb : p ≤ b := by omega
        go_wp2_with (first
          | (go_at_call 36; refine (itoa_any p (by omega) _).mono ?_; rintro e w' ⟨rfl, hw⟩; subst w')
          | (at_builtin; refine wpList_append_own _ rfl _ _ 54 rfl w.heap.size 9 i0 (.string ByteArray.empty) 1 16 Tryd.underlying54 hi hz0 hz1 hz2 rfl (by decide) _ _ _ rfl (World.ownsRow.alloc hown _) ⟨wr.heap.size, 0, none⟩ 1 1 [.string ⟨(dig p).toArray⟩] rfl rfl news_one (by intro u hu; simp at hu; subst hu; rfl) (by unfold maxLen; omega) (by omega) (by simp; omega) ?_))
        intro v' w1 hown' hgrow _
        have hO : Strs w1 w.heap.size 9 v' (digs a (j + 1)) := by
          unfold Strs; rw [digs_succ, ← HP.out]; simpa [digs_len] using hown'
        have hK2 : Kept [] w w1 := own_grown (World.ownsRow.alloc hown _) hgrow w (hK.alloc _) (Nat.le_refl _)
        have R := hide (And.intro hO hK2)
        clear hown' hgrow hown hK hO hK2 hsz
        go_wp2
        go_roundw
        case rel => exact ⟨j + 1, by omega, by rw [HP.out]; go_num, R.out⟩
        case measure => simp [intOf]; omega
      · have e : j = m := by omega
        subst e
        have hpb : b < p := by omega
        have R := hide (And.intro hown hK)
        clear hown hK
        go_wp2
        go_ret
        exact ⟨_, rfl, R.out⟩

/-- The parts of a set's text, from node k on. -/
def partsF (s : Nat) : Nat → Nat → List (List UInt8)
  | 0, _ => []
  | f + 1, k => if k < 8 then (if s.testBit k then runP k (lastF s 8 k) ++ partsF s f (lastF s 8 k + 1) else partsF s f (k + 1)) else []
/-- The text of a set. -/
def textOf (s : Nat) : List UInt8 := if s = 0 then [110, 111, 110, 101] else Lib.join (partsF s 8 0) [44]

theorem partsF_end (s f k : Nat) (h : 8 ≤ k) : partsF s f k = [] := by
  cases f with
  | zero => rfl
  | succ f => show (if k < 8 then _ else []) = []; rw [if_neg (by omega)]
theorem dig_len (i : Nat) : (dig i).length = 1 := rfl
theorem runP_each (a b : Nat) : ∀ x, x ∈ runP a b → x.length ≤ 3 := by
  intro x hx
  unfold runP at hx
  split at hx
  · simp at hx; subst hx; simp [dig]
  · split at hx
    · simp at hx; rcases hx with rfl | rfl <;> simp [dig]
    · simp at hx; subst hx; simp [dig]
theorem join_le (l : List (List UInt8)) (h : ∀ x, x ∈ l → x.length ≤ 3) : (Lib.join l [44]).length ≤ 4 * l.length := by
  cases l with
  | nil => simp [Lib.join_nil]
  | cons x r =>
    rw [Lib.join_cons]
    have h1 := h x (by simp)
    have h2 : (Lib.joinTail [44] r).length ≤ 4 * r.length := by
      have hr : ∀ y, y ∈ r → y.length ≤ 3 := fun y hy => h y (by simp [hy])
      clear h h1
      induction r with
      | nil => simp [Lib.joinTail]
      | cons y r ih =>
        have a := ih (fun z hz => hr z (by simp [hz]))
        have b := hr y (by simp)
        simp only [Lib.joinTail, List.map_cons, List.flatten_cons, List.length_append, List.length_cons, List.length_nil] at a ⊢
        omega
    simp only [List.length_append, List.length_cons]
    omega

theorem map_back (l : List (List UInt8)) : (l.map (fun b => (⟨b.toArray⟩ : ByteArray))).map (·.data.toList) = l := by
  induction l with
  | nil => rfl
  | cons x r ih => rw [List.map_cons, List.map_cons, ih]
theorem map_str {l : List (List UInt8)} {j : Nat} {x : ByteArray} (h : (l.map (fun b => (⟨b.toArray⟩ : ByteArray)))[j]? = some x) : (l.map (fun b => Value.string ⟨b.toArray⟩))[j]? = some (.string x) := by
  rw [show l.map (fun b => Value.string ⟨b.toArray⟩) = (l.map (fun b => (⟨b.toArray⟩ : ByteArray))).map Value.string from by rw [List.map_map]; rfl, List.getElem?_map, h]; rfl
theorem own_cap {w : World} {base : Nat} {e : TypeId} {size : Nat} {v : Value} {n : Nat} {xs : List Value} (h : w.ownsRow base e size v n xs) : ∀ ao m cap, v = .slice ao m cap → n ≤ cap := by
  intro ao m cap hv
  rcases h.2 with ⟨rfl, rfl⟩ | ⟨g, cap', cur, rfl, _, _, hn, _⟩
  · exact Nat.zero_le _
  · simp at hv; omega

set_option maxHeartbeats 1000000 in
theorem text_any (s : Nat) (hs : s < 256) (w : World) : Calls Tryd.prog 14 #[.int .u8 s] w fun e w' => e = .returned (.string ⟨(textOf s).toArray⟩) ∧ Kept [] w w' := by
  obtain ⟨i0, hi, hz0, hz1, hz2⟩ := info_parts info9
  by_cases h0 : s = 0
  · subst h0
    go_enter Tryd.func14, Tryd.ntmps14
    go_wp2
    go_ret
    exact ⟨rfl, Kept.refl _ _⟩
  · have hne : ((s : Int) == 0) = false := by rw [beq_eq_false_iff_ne]; omega
    have ht : textOf s = Lib.join (partsF s 8 0) [44] := by unfold textOf; rw [if_neg h0]
    have HT := hide ht
    clear ht h0
    go_enter Tryd.func14, Tryd.ntmps14
    go_wp2_with fail
    go_loopw [3, 4] (fun v i wr => ∃ (k f : Nat) (acc : List (List UInt8)), k ≤ 8 ∧ 8 ≤ f + k ∧ acc.length ≤ 2 * k ∧ (∀ x, x ∈ acc → x.length ≤ 3) ∧ i = .int .i64 k ∧ acc ++ partsF s f k = partsF s 8 0 ∧ Strs wr w.heap.size 9 v acc ∧ Kept [] w wr) (fun _ i _ => 8 - (intOf i).toNat)
    case atStart => exact ⟨0, 8, [], by omega, by omega, by simp, by simp, rfl, rfl, World.ownsRow_nil _ _ _ _, Kept.refl _ _⟩
    case round =>
      obtain ⟨k, f, acc, hk, hf, hal, hall, rfl, hacc, hown, hK⟩ := hrel
      have HA := hide hacc
      have HL := hide hall
      clear hacc hall
      by_cases hk8 : k < 8
      · obtain ⟨f, rfl⟩ : ∃ f', f = f' + 1 := ⟨f - 1, by omega⟩
        have hB := hasB_in s k hk8
        by_cases hb : s.testBit k = true
        · rw [hb] at hB
          have hlb := last_bounds s 8 k (by omega)
          obtain ⟨l, hl⟩ : ∃ l, l = lastF s 8 k := ⟨_, rfl⟩
          rw [← hl] at hlb
          have hstep : partsF s (f + 1) k = runP k l ++ partsF s f (l + 1) := by
            show (if k < 8 then (if s.testBit k then runP k (lastF s 8 k) ++ partsF s f (lastF s 8 k + 1) else partsF s f (k + 1)) else []) = _
            rw [if_pos hk8, if_pos hb, hl]
          have HS := hide hstep
          have HLL := hide hl
          clear hstep hl
          have hrl := runP_len k l
          have hsz := hK.size
          go_wp2_with fail
          refine (has_any s k hs _).mono ?_
          rintro e w' ⟨rfl, hw⟩
          subst w'
          rw [hB]
          go_wp2_with fail
          refine (last_any s k hs (by omega) _).mono ?_
          rintro e w' ⟨rfl, hw⟩
          subst w'
          rw [← HLL.out]
          go_wp2_with fail
          refine (parts_any k l hlb.1 hlb.2 _).mono ?_
          rintro e w2 ⟨v2, rfl, hS2, hK2⟩
          have hown2 := own_kept hown hK2 (by simp)
          obtain ⟨ao, cap, hv2, hnn, hcells⟩ := own_form hS2
          rw [hv2]
          have hg : ∃ g, ao = some ⟨g, 0, none⟩ := by
            obtain ⟨u, hu⟩ : ∃ u, ((runP k l).map (fun b => Value.string ⟨b.toArray⟩))[0]? = some u := by
              rw [List.getElem?_eq_getElem (by simp; omega)]; exact ⟨_, rfl⟩
            obtain ⟨g, hg, -⟩ := hcells 0 u hu
            exact ⟨g, hg⟩
          obtain ⟨g, rfl⟩ := hg
          have hc2 : ∀ j u, ((runP k l).map (fun b => Value.string ⟨b.toArray⟩))[j]? = some u → w2.cell? ((⟨g, 0, none⟩ : Addr).add j) = some u := by
            intro j u hu
            obtain ⟨g', hg', -, hc⟩ := hcells j u hu
            simp at hg'
            subst hg'
            rw [add_plain, Nat.zero_add]; exact hc
          have hsz2 : w.heap.size ≤ w2.heap.size := Nat.le_trans hsz hK2.size
          have HC := hide hc2
          have HK := hide (hK.next hK2)
          have HO := hide hown2
          clear hown hS2 hK2 hown2 hcells hc2 hK hv2
          go_wp2_with (at_builtin; refine wpList_append_own _ rfl _ _ 54 rfl w.heap.size 9 i0 (.string ByteArray.empty) 1 16 Tryd.underlying54 hi hz0 hz1 hz2 rfl (by decide) _ _ _ rfl HO.out ⟨g, 0, none⟩ (runP k l).length cap ((runP k l).map (fun b => Value.string ⟨b.toArray⟩)) rfl (by simp) HC.out (by intro u hu; simp at hu; obtain ⟨x, _, rfl⟩ := hu; rfl) (by unfold maxLen; omega) (by omega) hsz2 ?_)
          intro v' w3 hown' hgrow _
          have hO3 : Strs w3 w.heap.size 9 v' (acc ++ runP k l) := by unfold Strs; simpa using hown'
          have hK3 : Kept [] w w3 := own_grown HO.out hgrow w HK.out (Nat.le_refl _)
          have R := hide (And.intro hO3 hK3)
          clear hown' hgrow hO3 hK3 HC HK HO
          go_wp2
          go_roundw
          case rel =>
            refine ⟨l + 1, f, acc ++ runP k l, by omega, by omega, by simp; omega, ?_, by go_num, ?_, R.out⟩
            · intro x hx
              rcases List.mem_append.1 hx with hx | hx
              · exact HL.out x hx
              · exact runP_each k l x hx
            · rw [List.append_assoc, ← HS.out]; exact HA.out
          case measure => simp [intOf]; omega
        · have hb : s.testBit k = false := by simpa using hb
          rw [hb] at hB
          have hstep : partsF s (f + 1) k = partsF s f (k + 1) := by
            show (if k < 8 then (if s.testBit k then runP k (lastF s 8 k) ++ partsF s f (lastF s 8 k + 1) else partsF s f (k + 1)) else []) = _
            rw [if_pos hk8, if_neg (by rw [hb]; simp)]
          have HS := hide hstep
          have R := hide (And.intro hown hK)
          clear hown hK hstep
          go_wp2_with (go_at_call 19; refine (has_any s k hs _).mono ?_; rintro e w' ⟨rfl, hw⟩; subst w'; rw [hB])
          go_roundw
          case rel => exact ⟨k + 1, f, acc, by omega, by omega, by omega, HL.out, by go_num, by rw [← HS.out]; exact HA.out, R.out⟩
          case measure => simp [intOf]; omega
      · have hend : acc = partsF s 8 0 := by rw [← HA.out, partsF_end s f k (by omega), List.append_nil]
        have hjl := join_le acc HL.out
        have hcp := own_cap hown
        obtain ⟨ao, cap, hv2, hnn, hcells⟩ := own_form hown
        subst hv2
        have hcap : acc.length ≤ cap := hcp _ _ _ rfl
        clear hcp
        have HE := hide hend
        have HK := hide hK
        have HCL := hide hcells
        clear hown hK hcells hend
        cases acc with
        | nil =>
          go_wp2_with fail
          refine (Tryd.strings_Join_none ao cap ⟨#[44]⟩ _).mono ?_
          rintro e w' ⟨rfl, hw⟩
          subst w'
          go_wp2
          go_ret
          refine ⟨?_, HK.out⟩
          rw [HT.out, ← HE.out]; rfl
        | cons y r =>
          obtain ⟨g, rfl, hgb, hg0⟩ := HCL.out 0 (.string ⟨y.toArray⟩) (by simp)
          obtain ⟨xs, hxs⟩ : ∃ xs : List ByteArray, xs = (y :: r).map (fun b => ⟨b.toArray⟩) := ⟨_, rfl⟩
          have hlen : xs.length = (y :: r).length := by rw [hxs]; simp
          have hback : xs.map (·.data.toList) = y :: r := by rw [hxs]; exact map_back _
          have hc : ∀ (j : Nat) x, xs[j]? = some x → wr.cell? ⟨g, 0 + j, none⟩ = some (.string x) := by
            intro j x hj
            obtain ⟨g', hg', -, hc⟩ := HCL.out j (.string x) (by rw [hxs] at hj; exact map_str hj)
            simp at hg'
            subst hg'
            rw [Nat.zero_add]; exact hc
          have hglt : g < wr.heap.size := World.block_lt_of_cell? _ _ hg0
          rw [← hlen] at hcap hal hjl ⊢
          have HH := hide (And.intro hback hc)
          clear hxs hback hc hg0 hlen
          have hj2 : (Lib.join (xs.map (·.data.toList)) (⟨#[44]⟩ : ByteArray).data.toList).length ≤ 140737488355328 := by rw [HH.out.1]; show (Lib.join (y :: r) [44]).length ≤ _; omega
          have HJ := hide hj2
          clear hj2
          go_wp2_with fail
          refine (Tryd.strings_Join g 0 cap xs ⟨#[44]⟩ _ HH.out.2 hglt (by omega) hcap HJ.out).mono ?_
          rintro e w5 ⟨rfl, hb⟩
          go_wp2
          go_ret
          refine ⟨?_, HK.out.next (Kept.of_below hb)⟩
          rw [HT.out, ← HE.out, HH.out.1]; rfl
end Go.Proofs.YtjcghcibligioaaDoor.ND
