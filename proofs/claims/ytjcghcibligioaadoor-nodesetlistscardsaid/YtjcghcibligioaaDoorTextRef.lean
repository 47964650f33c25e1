/-
  No statement of the program: the contract of the reference's Text, over this seat's translation.
-/
import Derived.Test.YtjcghcibligioaaDoorText
import Derived.Test.YtjcghcibligioaaDoorNodeRef
import Derived.Laws.IdiomStrings
namespace Go.Proofs.YtjcghcibligioaaDoor.NR
open Go.RowKit ND

theorem new_blk (w : World) (o : Obj) : (w.alloc o).heap[w.heap.size]? = some o := by
  show (w.heap.push o)[w.heap.size]? = some o
  simp
set_option maxHeartbeats 400000 in
theorem digit_any (i : Nat) (hi : i < 8) (w : World) : Calls Tryd.prog 31 #[.int .i64 i] w fun e w' => e = .returned (.string ⟨(dig i).toArray⟩) ∧ Kept [] w w' := by
  have hcell : (w.alloc (.cells #[.int .u8 (48 + (i : Int))] 5)).cell? ((⟨w.heap.size, 0, none⟩ : Addr).add 0) = some (.int .u8 (((dig i)[0]'Nat.zero_lt_one).toNat : Int)) := by
    have e : ((((dig i)[0]'Nat.zero_lt_one).toNat : Nat) : Int) = 48 + (i : Int) := by
      show (((UInt8.ofNat (48 + i)).toNat : Nat) : Int) = _
      simp; omega
    rw [e, add_plain]
    exact blk_cell (new_blk w _) 0 rfl
  have hrun := run_convert_bytes_back (P := Tryd.prog) (w.alloc (.cells #[.int .u8 (48 + (i : Int))] 5)) 47 9 5 ⟨w.heap.size, 0, none⟩ 1 (dig i) Tryd.underlying47 Tryd.underlying5 Tryd.underlying9
    (by intro j hj; obtain rfl : j = 0 := (by have : (dig i).length = 1 := rfl; omega); exact hcell)
  rw [show (dig i).length = 1 from rfl] at hrun
  obtain ⟨d, hd⟩ : ∃ d, d = dig i := ⟨_, rfl⟩
  rw [← hd] at hrun ⊢
  clear hcell hd
  go_enter Tryd.func31, Tryd.ntmps31
  go_wp2
  go_ret
  exact ⟨rfl, (Kept.refl [] w).alloc _⟩

/-- The reference's text, node by node. -/
def refF (s : Nat) : Nat → Nat → List UInt8 → List UInt8
  | 0, _, out => out
  | f + 1, k, out => if k < 8 then (if s.testBit k then (if k + 2 ≤ lastF s 8 k then refF s f (lastF s 8 k + 1) ((if out = [] then out else out ++ [44]) ++ dig k ++ [45] ++ dig (lastF s 8 k)) else refF s f (k + 1) ((if out = [] then out else out ++ [44]) ++ dig k)) else refF s f (k + 1) out) else out
def refText (s : Nat) : List UInt8 := if refF s 9 0 [] = [] then [110, 111, 110, 101] else refF s 9 0 []
theorem refText_eq : ∀ s, s < 256 → refText s = textOf s := by decide +kernel

set_option maxHeartbeats 1000000 in
theorem text_any (s : Nat) (hs : s < 256) (w : World) : Calls Tryd.prog 21 #[.int .u8 s] w fun e w' => e = .returned (.string ⟨(textOf s).toArray⟩) ∧ Kept [] w w' := by
  go_enter Tryd.func21, Tryd.ntmps21
  go_wp2_with fail
  go_loopw [3, 4] (fun v i wr => ∃ (k f : Nat) (out : List UInt8), k ≤ 8 ∧ 8 < f + k ∧ out.length ≤ 4 * k ∧ i = .int .i64 k ∧ v = .string ⟨out.toArray⟩ ∧ refF s f k out = refF s 9 0 [] ∧ Kept [] w wr) (fun _ i _ => 8 - (intOf i).toNat)
  case atStart => exact ⟨0, 9, [], by omega, by omega, by simp, rfl, rfl, rfl, Kept.refl _ _⟩
  case round =>
    obtain ⟨k, f, out, hk, hf, hlen, rfl, rfl, hacc, hK⟩ := hrel
    obtain ⟨f, rfl⟩ : ∃ f', f = f' + 1 := ⟨f - 1, by omega⟩
    have HA := hide hacc
    have KK := hide hK
    clear hacc hK
    by_cases hk8 : k < 8
    · have hB := hasB_in s k hk8
      by_cases hb : s.testBit k = true
      · rw [hb] at hB
        go_wp2_with fail
        refine (has_any s k hs _).mono ?_
        rintro e w' ⟨rfl, hw⟩
        subst w'
        rw [hB]
        go_wp2_with fail
        go_loop [5] (fun t => ∃ j f : Nat, j ≤ 7 ∧ 8 ≤ f + j ∧ t = .int .i64 j ∧ lastF s f j = lastF s 8 k) (fun t => 8 - (intOf t).toNat)
        case atStart => exact ⟨k, 8, by omega, by omega, rfl, rfl⟩
        case round =>
          obtain ⟨j, f', hj, hf', rfl, he⟩ := hrel
          obtain ⟨f', rfl⟩ : ∃ f2, f' = f2 + 1 := ⟨f' - 1, by omega⟩
          have HE := hide he
          clear he
          have hcast : ((j : Int) + 1) = ((j + 1 : Nat) : Int) := by omega
          by_cases hb2 : hasB s ((j + 1 : Nat) : Int) = true
          · have h7 : j + 1 ≤ 7 := by
              by_cases h8 : j + 1 ≤ 7
              · exact h8
              · rw [hasB_out s (by omega)] at hb2; cases hb2
            have HB := hide hb2
            have HC := hide hcast
            clear hb2 hcast
            go_wp2_with fail
            rw [HC.out]
            refine (has_any s _ hs _).mono ?_
            rintro e w' ⟨rfl, hw⟩
            subst w'
            rw [HB.out]
            go_wp2
            go_round
            case rel => exact ⟨j + 1, f', h7, by omega, by go_num, by rw [← HE.out]; show _ = (if hasB s ((j + 1 : Nat) : Int) then lastF s f' (j + 1) else j); rw [if_pos HB.out]⟩
            case measure => simp [intOf]; omega
          · have hb2 : hasB s ((j + 1 : Nat) : Int) = false := by simpa using hb2
            have HB := hide hb2
            have HC := hide hcast
            clear hb2 hcast
            have hv : lastF s (f' + 1) j = j := by show (if hasB s ((j + 1 : Nat) : Int) then lastF s f' (j + 1) else j) = j; rw [if_neg (by rw [HB.out]; simp)]
            rw [HE.out] at hv
            have hlb := (last_bounds s 8 k (by omega)).1
            rw [hv] at hlb
            have hstep : refF s (f + 1) k out = if k + 2 ≤ j then refF s f (j + 1) ((if out = [] then out else out ++ [44]) ++ dig k ++ [45] ++ dig j) else refF s f (k + 1) ((if out = [] then out else out ++ [44]) ++ dig k) := by
              show (if k < 8 then (if s.testBit k then (if k + 2 ≤ lastF s 8 k then refF s f (lastF s 8 k + 1) ((if out = [] then out else out ++ [44]) ++ dig k ++ [45] ++ dig (lastF s 8 k)) else refF s f (k + 1) ((if out = [] then out else out ++ [44]) ++ dig k)) else refF s f (k + 1) out) else out) = _
              rw [if_pos hk8, if_pos hb, hv]
            rw [HA.out] at hstep
            have HST := hide hstep
            clear hstep hv HE hb
            go_wp2_with fail
            rw [HC.out]
            refine (has_any s _ hs _).mono ?_
            rintro e w' ⟨rfl, hw⟩
            subst w'
            rw [HB.out]
            clear HB HC
            by_cases ho : out = []
            · subst ho
              by_cases hj2 : k + 2 ≤ j
              · have hst := HST.out
                rw [if_pos hj2] at hst
                rw [if_pos rfl] at hst
                have hdk : (dig k).length = 1 := rfl
                obtain ⟨dk, ek⟩ : ∃ d, d = dig k := ⟨_, rfl⟩
                rw [← ek] at hst hdk
                have EK := hide ek
                have hdj : (dig j).length = 1 := rfl
                obtain ⟨dj, ej⟩ : ∃ d, d = dig j := ⟨_, rfl⟩
                rw [← ej] at hst hdj
                have EJ := hide ej
                have hjk : 2 ≤ (j : Int) - (k : Int) := by omega
                have HS := hide hst
                clear hst ek hj2 HST HA hb2 hB ej
                go_wp2_with fail
                refine (digit_any k hk8 _).mono ?_
                rintro e w1 ⟨rfl, k1⟩
                have K1 := hide (KK.out.next k1)
                clear k1
                rw [← EK.out]
                go_wp2_with fail
                refine (digit_any j (by omega) _).mono ?_
                rintro e w2 ⟨rfl, k2⟩
                have K2 := hide (K1.out.next k2)
                clear k2
                rw [← EJ.out]
                go_wp2
                go_roundw
                case rel => exact ⟨j + 1, f, ([] ++ dk ++ [45] ++ dj), by omega, by omega, by simp at *; omega, by go_num, congrArg Value.string (ByteArray.ext (by simp)), HS.out.symm, K2.out⟩
                case measure => simp [intOf]; omega
              · have hst := HST.out
                rw [if_neg hj2] at hst
                rw [if_pos rfl] at hst
                have hdk : (dig k).length = 1 := rfl
                obtain ⟨dk, ek⟩ : ∃ d, d = dig k := ⟨_, rfl⟩
                rw [← ek] at hst hdk
                have EK := hide ek
                have hjk : (j : Int) - (k : Int) < 2 := by omega
                have HS := hide hst
                clear hst ek hj2 HST HA hb2 hB
                go_wp2_with fail
                refine (digit_any k hk8 _).mono ?_
                rintro e w1 ⟨rfl, k1⟩
                have K1 := hide (KK.out.next k1)
                clear k1
                rw [← EK.out]
                go_wp2
                go_roundw
                case rel => exact ⟨k + 1, f, ([] ++ dk), by omega, by omega, by simp at *; omega, by go_num, congrArg Value.string (ByteArray.ext (by simp)), HS.out.symm, K1.out⟩
                case measure => simp [intOf]; omega
            · by_cases hj2 : k + 2 ≤ j
              · have hst := HST.out
                rw [if_pos hj2] at hst
                rw [if_neg ho] at hst
                have hdk : (dig k).length = 1 := rfl
                obtain ⟨dk, ek⟩ : ∃ d, d = dig k := ⟨_, rfl⟩
                rw [← ek] at hst hdk
                have EK := hide ek
                have hdj : (dig j).length = 1 := rfl
                obtain ⟨dj, ej⟩ : ∃ d, d = dig j := ⟨_, rfl⟩
                rw [← ej] at hst hdj
                have EJ := hide ej
                have hjk : 2 ≤ (j : Int) - (k : Int) := by omega
                have HS := hide hst
                have hob : (out == []) = false := by rw [beq_eq_false_iff_ne]; exact ho
                clear hst ek hj2 HST HA hb2 hB ej ho
                go_wp2_with fail
                refine (digit_any k hk8 _).mono ?_
                rintro e w1 ⟨rfl, k1⟩
                have K1 := hide (KK.out.next k1)
                clear k1
                rw [← EK.out]
                go_wp2_with fail
                refine (digit_any j (by omega) _).mono ?_
                rintro e w2 ⟨rfl, k2⟩
                have K2 := hide (K1.out.next k2)
                clear k2
                rw [← EJ.out]
                go_wp2
                go_roundw
                case rel => exact ⟨j + 1, f, (out ++ [44] ++ dk ++ [45] ++ dj), by omega, by omega, by simp at *; omega, by go_num, congrArg Value.string (ByteArray.ext (by simp)), HS.out.symm, K2.out⟩
                case measure => simp [intOf]; omega
              · have hst := HST.out
                rw [if_neg hj2] at hst
                rw [if_neg ho] at hst
                have hdk : (dig k).length = 1 := rfl
                obtain ⟨dk, ek⟩ : ∃ d, d = dig k := ⟨_, rfl⟩
                rw [← ek] at hst hdk
                have EK := hide ek
                have hjk : (j : Int) - (k : Int) < 2 := by omega
                have HS := hide hst
                have hob : (out == []) = false := by rw [beq_eq_false_iff_ne]; exact ho
                clear hst ek hj2 HST HA hb2 hB ho
                go_wp2_with fail
                refine (digit_any k hk8 _).mono ?_
                rintro e w1 ⟨rfl, k1⟩
                have K1 := hide (KK.out.next k1)
                clear k1
                rw [← EK.out]
                go_wp2
                go_roundw
                case rel => exact ⟨k + 1, f, (out ++ [44] ++ dk), by omega, by omega, by simp at *; omega, by go_num, congrArg Value.string (ByteArray.ext (by simp)), HS.out.symm, K1.out⟩
                case measure => simp [intOf]; omega
      · have hb : s.testBit k = false := by simpa using hb
        rw [hb] at hB
        have hstep : refF s (f + 1) k out = refF s f (k + 1) out := by
          show (if k < 8 then (if s.testBit k then (if k + 2 ≤ lastF s 8 k then refF s f (lastF s 8 k + 1) ((if out = [] then out else out ++ [44]) ++ dig k ++ [45] ++ dig (lastF s 8 k)) else refF s f (k + 1) ((if out = [] then out else out ++ [44]) ++ dig k)) else refF s f (k + 1) out) else out) = _
          rw [if_pos hk8, if_neg (by rw [hb]; simp)]
        rw [HA.out] at hstep
        have HST := hide hstep
        clear hstep hb
        go_wp2_with fail
        refine (has_any s k hs _).mono ?_
        rintro e w' ⟨rfl, hw⟩
        subst w'
        rw [hB]
        go_wp2
        go_roundw
        case rel => exact ⟨k + 1, f, out, by omega, by omega, by omega, by go_num, rfl, HST.out.symm, KK.out⟩
        case measure => simp [intOf]; omega
    · have e : k = 8 := by omega
      subst e
      have hfin : out = refF s 9 0 [] := by rw [← HA.out]; unfold refF; rw [if_neg (by omega)]
      have HF := hide hfin
      by_cases ho : out = []
      · have hob : (out == []) = true := by rw [ho]; rfl
        have HT : Hid (textOf s = [110, 111, 110, 101]) := by rw [← refText_eq s hs]; unfold refText; rw [← hfin, if_pos ho]; exact rfl
        clear hfin ho
        go_wp2
        go_ret
        exact ⟨by rw [HT.out]; rfl, KK.out⟩
      · have hob : (out == []) = false := by rw [beq_eq_false_iff_ne]; exact ho
        have HT : Hid (textOf s = out) := by rw [← refText_eq s hs]; unfold refText; rw [← hfin, if_neg ho]; exact rfl
        clear hfin ho
        go_wp2
        go_ret
        exact ⟨by rw [HT.out]; rfl, KK.out⟩
end Go.Proofs.YtjcghcibligioaaDoor.NR
