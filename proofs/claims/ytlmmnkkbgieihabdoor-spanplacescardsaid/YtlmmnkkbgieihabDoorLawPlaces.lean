/-
  SpanPlaces answers true at every number: of a span's bytes those at which objects begin are told, and no others. The table of package class that the row lists is as its own text lays it (the card ties it to it); the card speaks of the pruned copy of the project that the seat holds.
-/
import Derived.Test.YtlmmnkkbgieihabDoorSpn4
import Derived.Test.YtlmmnkkbgieihabDoorTabs
import Derived.Test.YtlmmnkkbgieihabDoorCards
import Derived.Test.YtlmmnkkbgieihabDoorTie
import Derived.Deep.DeepHandedRow
import Derived.Lay
namespace Go.Proofs.YtlmmnkkbgieihabDoor.places
open Go.ChangeShapes Go.WideShapes Go.ChangeAt Go.RowKit Cl Sp
def Cn (s n at_ m : Int) : Prop := (at_ ≤ 0 → m = 0) ∧ (0 < at_ → at_ ≤ s * n → s * (m - 1) < at_ ∧ at_ ≤ s * m) ∧ (s * n < at_ → m = n) ∧ 0 ≤ m ∧ m ≤ n
theorem cz0' : CZ 0 8 8 := ⟨by decide, by decide, by decide, by decide, by decide⟩
set_option maxRecDepth 40000 in
set_option maxHeartbeats 4000000 in
theorem walk0 (x : Int) (hx : wrap64 ((IntKind.u64.wrap x).tmod 4) = 0) {w : World} (hT : Tab w) : Calls Tryd.prog 5 #[.int .i64 x] w fun e w' => e = .returned (.bool true) ∧ Kept [] w w' := by
  have T := hide hT
  clear hT
  go_enter Tryd.func5, Tryd.ntmps5
  go_wp2_with fail
  refine (new_ok 0 cz0' T.out).mono ?_
  rintro e w1 ⟨p, tb, rfl, hs, hp, ht, hk⟩
  have S := hide hs
  have K := hide hk
  have T1 := hide (T.out.kept0 hk)
  clear hs hk hp ht T
  go_wp2_with fail
  refine (rrow_at 0 (by decide) w1).mono ?_
  clear hx
  rintro e w2 ⟨rfl, hk⟩
  have e0 : tells 0 0 = 8 := by decide
  have e2 : tells 0 2 = 8 := by decide
  rw [e0, e2]
  have S2 := hide (S.out.kept0 hk)
  have K2 := hide (K.out.next hk)
  have T2 := hide (T1.out.kept0 hk)
  generalize tells 0 1 = z1
  clear hk S K T1 e0 e2
  go_wp2_with fail
  obtain ⟨r0, r1, r2⟩ := row3 w2 42 (.int .i64 8) (.int .i64 z1) (.int .i64 8)
  have hka := (Kept.refl [] w2).alloc (.cells #[.int .i64 8, .int .i64 z1, .int .i64 8] 42)
  have S3 := hide (S2.out.kept0 hka)
  have K3 := hide (K2.out.next hka)
  have T3 := hide (T2.out.kept0 hka)
  clear hka S2 K2 T2
  generalize w2.alloc (.cells #[.int .i64 8, .int .i64 z1, .int .i64 8] 42) = w3 at *
  generalize w2.heap.size = b at *
  refine (spans_true T3.out).mono ?_
  rintro e w4 ⟨rfl, hk⟩
  have S4 := hide (S3.out.kept0 hk)
  have K4 := hide (K3.out.next hk)
  have R0 := hide (hk.cell r0 (by simp))
  have R2 := hide (hk.cell r2 (by simp))
  clear hk S3 K3 T3 r0 r1 r2
  go_wp2_with fail
  go_loopw [7, 8] (fun v y wr => ∃ (m a : Nat), a ≤ 303 ∧ y = .int .i64 ((a : Int) - 3) ∧ v = .int .i64 (m : Nat) ∧ Cn 8 8 ((a : Int) - 3) m ∧ SA wr p tb 0 8 8 (fun _ => false) ∧ wr.cell? ⟨b, 0, none⟩ = some (.int .i64 8) ∧ wr.cell? ⟨b, 2, none⟩ = some (.int .i64 8) ∧ Kept [] w wr) (fun _ y _ => 300 - intOf y |>.toNat)
  case atStart => exact ⟨0, 0, by omega, rfl, rfl, ⟨by omega, by omega, by omega, by omega, by omega⟩, S4.out, R0.out, R2.out, K4.out⟩
  case round =>
    obtain ⟨m, a, ha, rfl, rfl, hcn, hS, c0, c2, hK⟩ := hrel
    have S5 := hide hS
    have K5 := hide hK
    have CN := hide hcn
    clear hS hK hcn S4 K4 R0 R2
    by_cases h3 : a < 303
    · by_cases hneg : a < 3
      · have hlt : (a : Int) - 3 < 0 := by omega
        have hl3 : (a : Int) - 3 < 300 := by omega
        go_wp2_with fail
        refine (idx_neg S5.out (by decide) _ hlt).mono ?_
        rintro e w6 ⟨rfl, hk⟩
        have S6 := hide (S5.out.kept0 hk)
        have K6 := hide (K5.out.next hk)
        have C0 := hide (hk.cell c0 (by simp))
        have C2 := hide (hk.cell c2 (by simp))
        clear hk S5 K5 c0 c2
        go_wp2
        go_roundw
        case rel => exact ⟨m, a + 1, by omega, by go_num, rfl, by have := CN.out; unfold Cn at this ⊢; omega, S6.out, C0.out, C2.out, K6.out⟩
        case measure => simp [intOf]; omega
      · obtain ⟨k, rfl⟩ : ∃ k : Nat, a = k + 3 := ⟨a - 3, by omega⟩
        have e3 : ((k + 3 : Nat) : Int) - 3 = k := by omega
        rw [e3] at CN
        have kk : k < 300 := by omega
        have hl3 : (k : Int) < 300 := by omega
        have hm8 := CN.out
        have em : (k : Int).tmod 8 = ((k % 8 : Nat) : Int) := rfl
        have EM := hide em
        clear em hm8
        go_wp2_with fail
        refine (idx_nat S5.out (by decide) 8 k rfl (by decide) (by omega)).mono ?_
        rintro e w6 ⟨hi, hk⟩
        have S6 := hide (S5.out.kept0 hk)
        have K6 := hide (K5.out.next hk)
        have c0 := hk.cell c0 (by simp)
        have c2 := hk.cell c2 (by simp)
        clear hk S5 K5
        rcases hi with ⟨h1, h2, rfl⟩ | ⟨h1, rfl⟩
        · have hmq : k / 8 = m := by have := CN.out; unfold Cn at this; omega
          rw [hmq]
          have em : (k : Int) % 8 = 0 := by omega
          have em' : (k : Int).tmod 8 = 0 := by rw [EM.out, h1]; rfl
          have hlt : (k : Int) < 64 := by omega
          have HM := hide hmq
          have H1 := hide h1
          have H2 := hide h2
          have hm9 : m < 8 := by omega
          clear hmq h1 h2
          go_wp2
          go_roundw
          case rel => exact ⟨m + 1, k + 4, by omega, by go_num, by go_num, by have := CN.out; have := H1.out; have := HM.out; unfold Cn at *; omega, S6.out, by assumption, by assumption, K6.out⟩
          case measure => simp [intOf]; omega
        · have H1 := hide h1
          by_cases hr : k % 8 = 0
          · have em : (k : Int) % 8 = 0 := by omega
            have em' : (k : Int).tmod 8 = 0 := by rw [EM.out, hr]; rfl
            have hlt : ¬ (k : Int) < 64 := by omega
            clear h1 hr
            go_wp2
            go_roundw
            case rel => exact ⟨m, k + 4, by omega, by go_num, rfl, by have := CN.out; have := H1.out; unfold Cn at *; omega, S6.out, by assumption, by assumption, K6.out⟩
            case measure => simp [intOf]; omega
          · have em : ¬ (k : Int) % 8 = 0 := by omega
            have em' : ¬ (k : Int).tmod 8 = 0 := by rw [EM.out]; omega
            clear h1
            go_wp2
            go_roundw
            case rel => exact ⟨m, k + 4, by omega, by go_num, rfl, by have := CN.out; have := H1.out; unfold Cn at *; omega, S6.out, by assumption, by assumption, K6.out⟩
            case measure => simp [intOf]; omega
    · obtain rfl : a = 303 := by omega
      have hmn : m = 8 := by have := CN.out; unfold Cn at this; omega
      subst hmn
      go_wp2
      go_ret
      exact ⟨rfl, K5.out⟩
theorem cz1' : CZ 1 4 16 := ⟨by decide, by decide, by decide, by decide, by decide⟩
set_option maxRecDepth 40000 in
set_option maxHeartbeats 4000000 in
theorem walk1 (x : Int) (hx : wrap64 ((IntKind.u64.wrap x).tmod 4) = 1) {w : World} (hT : Tab w) : Calls Tryd.prog 5 #[.int .i64 x] w fun e w' => e = .returned (.bool true) ∧ Kept [] w w' := by
  have T := hide hT
  clear hT
  go_enter Tryd.func5, Tryd.ntmps5
  go_wp2_with fail
  refine (new_ok 1 cz1' T.out).mono ?_
  rintro e w1 ⟨p, tb, rfl, hs, hp, ht, hk⟩
  have S := hide hs
  have K := hide hk
  have T1 := hide (T.out.kept0 hk)
  clear hs hk hp ht T
  go_wp2_with fail
  refine (rrow_at 1 (by decide) w1).mono ?_
  clear hx
  rintro e w2 ⟨rfl, hk⟩
  have e0 : tells 1 0 = 16 := by decide
  have e2 : tells 1 2 = 4 := by decide
  rw [e0, e2]
  have S2 := hide (S.out.kept0 hk)
  have K2 := hide (K.out.next hk)
  have T2 := hide (T1.out.kept0 hk)
  generalize tells 1 1 = z1
  clear hk S K T1 e0 e2
  go_wp2_with fail
  obtain ⟨r0, r1, r2⟩ := row3 w2 42 (.int .i64 16) (.int .i64 z1) (.int .i64 4)
  have hka := (Kept.refl [] w2).alloc (.cells #[.int .i64 16, .int .i64 z1, .int .i64 4] 42)
  have S3 := hide (S2.out.kept0 hka)
  have K3 := hide (K2.out.next hka)
  have T3 := hide (T2.out.kept0 hka)
  clear hka S2 K2 T2
  generalize w2.alloc (.cells #[.int .i64 16, .int .i64 z1, .int .i64 4] 42) = w3 at *
  generalize w2.heap.size = b at *
  refine (spans_true T3.out).mono ?_
  rintro e w4 ⟨rfl, hk⟩
  have S4 := hide (S3.out.kept0 hk)
  have K4 := hide (K3.out.next hk)
  have R0 := hide (hk.cell r0 (by simp))
  have R2 := hide (hk.cell r2 (by simp))
  clear hk S3 K3 T3 r0 r1 r2
  go_wp2_with fail
  go_loopw [7, 8] (fun v y wr => ∃ (m a : Nat), a ≤ 303 ∧ y = .int .i64 ((a : Int) - 3) ∧ v = .int .i64 (m : Nat) ∧ Cn 16 4 ((a : Int) - 3) m ∧ SA wr p tb 1 16 4 (fun _ => false) ∧ wr.cell? ⟨b, 0, none⟩ = some (.int .i64 16) ∧ wr.cell? ⟨b, 2, none⟩ = some (.int .i64 4) ∧ Kept [] w wr) (fun _ y _ => 300 - intOf y |>.toNat)
  case atStart => exact ⟨0, 0, by omega, rfl, rfl, ⟨by omega, by omega, by omega, by omega, by omega⟩, S4.out, R0.out, R2.out, K4.out⟩
  case round =>
    obtain ⟨m, a, ha, rfl, rfl, hcn, hS, c0, c2, hK⟩ := hrel
    have S5 := hide hS
    have K5 := hide hK
    have CN := hide hcn
    clear hS hK hcn S4 K4 R0 R2
    by_cases h3 : a < 303
    · by_cases hneg : a < 3
      · have hlt : (a : Int) - 3 < 0 := by omega
        have hl3 : (a : Int) - 3 < 300 := by omega
        go_wp2_with fail
        refine (idx_neg S5.out (by decide) _ hlt).mono ?_
        rintro e w6 ⟨rfl, hk⟩
        have S6 := hide (S5.out.kept0 hk)
        have K6 := hide (K5.out.next hk)
        have C0 := hide (hk.cell c0 (by simp))
        have C2 := hide (hk.cell c2 (by simp))
        clear hk S5 K5 c0 c2
        go_wp2
        go_roundw
        case rel => exact ⟨m, a + 1, by omega, by go_num, rfl, by have := CN.out; unfold Cn at this ⊢; omega, S6.out, C0.out, C2.out, K6.out⟩
        case measure => simp [intOf]; omega
      · obtain ⟨k, rfl⟩ : ∃ k : Nat, a = k + 3 := ⟨a - 3, by omega⟩
        have e3 : ((k + 3 : Nat) : Int) - 3 = k := by omega
        rw [e3] at CN
        have kk : k < 300 := by omega
        have hl3 : (k : Int) < 300 := by omega
        have hm8 := CN.out
        have em : (k : Int).tmod 16 = ((k % 16 : Nat) : Int) := rfl
        have EM := hide em
        clear em hm8
        go_wp2_with fail
        refine (idx_nat S5.out (by decide) 16 k rfl (by decide) (by omega)).mono ?_
        rintro e w6 ⟨hi, hk⟩
        have S6 := hide (S5.out.kept0 hk)
        have K6 := hide (K5.out.next hk)
        have c0 := hk.cell c0 (by simp)
        have c2 := hk.cell c2 (by simp)
        clear hk S5 K5
        rcases hi with ⟨h1, h2, rfl⟩ | ⟨h1, rfl⟩
        · have hmq : k / 16 = m := by have := CN.out; unfold Cn at this; omega
          rw [hmq]
          have em : (k : Int) % 16 = 0 := by omega
          have em' : (k : Int).tmod 16 = 0 := by rw [EM.out, h1]; rfl
          have hlt : (k : Int) < 64 := by omega
          have HM := hide hmq
          have H1 := hide h1
          have H2 := hide h2
          have hm9 : m < 4 := by omega
          clear hmq h1 h2
          go_wp2
          go_roundw
          case rel => exact ⟨m + 1, k + 4, by omega, by go_num, by go_num, by have := CN.out; have := H1.out; have := HM.out; unfold Cn at *; omega, S6.out, by assumption, by assumption, K6.out⟩
          case measure => simp [intOf]; omega
        · have H1 := hide h1
          by_cases hr : k % 16 = 0
          · have em : (k : Int) % 16 = 0 := by omega
            have em' : (k : Int).tmod 16 = 0 := by rw [EM.out, hr]; rfl
            have hlt : ¬ (k : Int) < 64 := by omega
            clear h1 hr
            go_wp2
            go_roundw
            case rel => exact ⟨m, k + 4, by omega, by go_num, rfl, by have := CN.out; have := H1.out; unfold Cn at *; omega, S6.out, by assumption, by assumption, K6.out⟩
            case measure => simp [intOf]; omega
          · have em : ¬ (k : Int) % 16 = 0 := by omega
            have em' : ¬ (k : Int).tmod 16 = 0 := by rw [EM.out]; omega
            clear h1
            go_wp2
            go_roundw
            case rel => exact ⟨m, k + 4, by omega, by go_num, rfl, by have := CN.out; have := H1.out; unfold Cn at *; omega, S6.out, by assumption, by assumption, K6.out⟩
            case measure => simp [intOf]; omega
    · obtain rfl : a = 303 := by omega
      have hmn : m = 4 := by have := CN.out; unfold Cn at this; omega
      subst hmn
      go_wp2
      go_ret
      exact ⟨rfl, K5.out⟩
theorem cz2' : CZ 2 4 32 := ⟨by decide, by decide, by decide, by decide, by decide⟩
set_option maxRecDepth 40000 in
set_option maxHeartbeats 4000000 in
theorem walk2 (x : Int) (hx : wrap64 ((IntKind.u64.wrap x).tmod 4) = 2) {w : World} (hT : Tab w) : Calls Tryd.prog 5 #[.int .i64 x] w fun e w' => e = .returned (.bool true) ∧ Kept [] w w' := by
  have T := hide hT
  clear hT
  go_enter Tryd.func5, Tryd.ntmps5
  go_wp2_with fail
  refine (new_ok 2 cz2' T.out).mono ?_
  rintro e w1 ⟨p, tb, rfl, hs, hp, ht, hk⟩
  have S := hide hs
  have K := hide hk
  have T1 := hide (T.out.kept0 hk)
  clear hs hk hp ht T
  go_wp2_with fail
  refine (rrow_at 2 (by decide) w1).mono ?_
  clear hx
  rintro e w2 ⟨rfl, hk⟩
  have e0 : tells 2 0 = 32 := by decide
  have e2 : tells 2 2 = 4 := by decide
  rw [e0, e2]
  have S2 := hide (S.out.kept0 hk)
  have K2 := hide (K.out.next hk)
  have T2 := hide (T1.out.kept0 hk)
  generalize tells 2 1 = z1
  clear hk S K T1 e0 e2
  go_wp2_with fail
  obtain ⟨r0, r1, r2⟩ := row3 w2 42 (.int .i64 32) (.int .i64 z1) (.int .i64 4)
  have hka := (Kept.refl [] w2).alloc (.cells #[.int .i64 32, .int .i64 z1, .int .i64 4] 42)
  have S3 := hide (S2.out.kept0 hka)
  have K3 := hide (K2.out.next hka)
  have T3 := hide (T2.out.kept0 hka)
  clear hka S2 K2 T2
  generalize w2.alloc (.cells #[.int .i64 32, .int .i64 z1, .int .i64 4] 42) = w3 at *
  generalize w2.heap.size = b at *
  refine (spans_true T3.out).mono ?_
  rintro e w4 ⟨rfl, hk⟩
  have S4 := hide (S3.out.kept0 hk)
  have K4 := hide (K3.out.next hk)
  have R0 := hide (hk.cell r0 (by simp))
  have R2 := hide (hk.cell r2 (by simp))
  clear hk S3 K3 T3 r0 r1 r2
  go_wp2_with fail
  go_loopw [7, 8] (fun v y wr => ∃ (m a : Nat), a ≤ 303 ∧ y = .int .i64 ((a : Int) - 3) ∧ v = .int .i64 (m : Nat) ∧ Cn 32 4 ((a : Int) - 3) m ∧ SA wr p tb 2 32 4 (fun _ => false) ∧ wr.cell? ⟨b, 0, none⟩ = some (.int .i64 32) ∧ wr.cell? ⟨b, 2, none⟩ = some (.int .i64 4) ∧ Kept [] w wr) (fun _ y _ => 300 - intOf y |>.toNat)
  case atStart => exact ⟨0, 0, by omega, rfl, rfl, ⟨by omega, by omega, by omega, by omega, by omega⟩, S4.out, R0.out, R2.out, K4.out⟩
  case round =>
    obtain ⟨m, a, ha, rfl, rfl, hcn, hS, c0, c2, hK⟩ := hrel
    have S5 := hide hS
    have K5 := hide hK
    have CN := hide hcn
    clear hS hK hcn S4 K4 R0 R2
    by_cases h3 : a < 303
    · by_cases hneg : a < 3
      · have hlt : (a : Int) - 3 < 0 := by omega
        have hl3 : (a : Int) - 3 < 300 := by omega
        go_wp2_with fail
        refine (idx_neg S5.out (by decide) _ hlt).mono ?_
        rintro e w6 ⟨rfl, hk⟩
        have S6 := hide (S5.out.kept0 hk)
        have K6 := hide (K5.out.next hk)
        have C0 := hide (hk.cell c0 (by simp))
        have C2 := hide (hk.cell c2 (by simp))
        clear hk S5 K5 c0 c2
        go_wp2
        go_roundw
        case rel => exact ⟨m, a + 1, by omega, by go_num, rfl, by have := CN.out; unfold Cn at this ⊢; omega, S6.out, C0.out, C2.out, K6.out⟩
        case measure => simp [intOf]; omega
      · obtain ⟨k, rfl⟩ : ∃ k : Nat, a = k + 3 := ⟨a - 3, by omega⟩
        have e3 : ((k + 3 : Nat) : Int) - 3 = k := by omega
        rw [e3] at CN
        have kk : k < 300 := by omega
        have hl3 : (k : Int) < 300 := by omega
        have hm8 := CN.out
        have em : (k : Int).tmod 32 = ((k % 32 : Nat) : Int) := rfl
        have EM := hide em
        clear em hm8
        go_wp2_with fail
        refine (idx_nat S5.out (by decide) 32 k rfl (by decide) (by omega)).mono ?_
        rintro e w6 ⟨hi, hk⟩
        have S6 := hide (S5.out.kept0 hk)
        have K6 := hide (K5.out.next hk)
        have c0 := hk.cell c0 (by simp)
        have c2 := hk.cell c2 (by simp)
        clear hk S5 K5
        rcases hi with ⟨h1, h2, rfl⟩ | ⟨h1, rfl⟩
        · have hmq : k / 32 = m := by have := CN.out; unfold Cn at this; omega
          rw [hmq]
          have em : (k : Int) % 32 = 0 := by omega
          have em' : (k : Int).tmod 32 = 0 := by rw [EM.out, h1]; rfl
          have hlt : (k : Int) < 128 := by omega
          have HM := hide hmq
          have H1 := hide h1
          have H2 := hide h2
          have hm9 : m < 4 := by omega
          clear hmq h1 h2
          go_wp2
          go_roundw
          case rel => exact ⟨m + 1, k + 4, by omega, by go_num, by go_num, by have := CN.out; have := H1.out; have := HM.out; unfold Cn at *; omega, S6.out, by assumption, by assumption, K6.out⟩
          case measure => simp [intOf]; omega
        · have H1 := hide h1
          by_cases hr : k % 32 = 0
          · have em : (k : Int) % 32 = 0 := by omega
            have em' : (k : Int).tmod 32 = 0 := by rw [EM.out, hr]; rfl
            have hlt : ¬ (k : Int) < 128 := by omega
            clear h1 hr
            go_wp2
            go_roundw
            case rel => exact ⟨m, k + 4, by omega, by go_num, rfl, by have := CN.out; have := H1.out; unfold Cn at *; omega, S6.out, by assumption, by assumption, K6.out⟩
            case measure => simp [intOf]; omega
          · have em : ¬ (k : Int) % 32 = 0 := by omega
            have em' : ¬ (k : Int).tmod 32 = 0 := by rw [EM.out]; omega
            clear h1
            go_wp2
            go_roundw
            case rel => exact ⟨m, k + 4, by omega, by go_num, rfl, by have := CN.out; have := H1.out; unfold Cn at *; omega, S6.out, by assumption, by assumption, K6.out⟩
            case measure => simp [intOf]; omega
    · obtain rfl : a = 303 := by omega
      have hmn : m = 4 := by have := CN.out; unfold Cn at this; omega
      subst hmn
      go_wp2
      go_ret
      exact ⟨rfl, K5.out⟩
theorem cz3' : CZ 3 4 64 := ⟨by decide, by decide, by decide, by decide, by decide⟩
set_option maxRecDepth 40000 in
set_option maxHeartbeats 4000000 in
theorem walk3 (x : Int) (hx : wrap64 ((IntKind.u64.wrap x).tmod 4) = 3) {w : World} (hT : Tab w) : Calls Tryd.prog 5 #[.int .i64 x] w fun e w' => e = .returned (.bool true) ∧ Kept [] w w' := by
  have T := hide hT
  clear hT
  go_enter Tryd.func5, Tryd.ntmps5
  go_wp2_with fail
  refine (new_ok 3 cz3' T.out).mono ?_
  rintro e w1 ⟨p, tb, rfl, hs, hp, ht, hk⟩
  have S := hide hs
  have K := hide hk
  have T1 := hide (T.out.kept0 hk)
  clear hs hk hp ht T
  go_wp2_with fail
  refine (rrow_at 3 (by decide) w1).mono ?_
  clear hx
  rintro e w2 ⟨rfl, hk⟩
  have e0 : tells 3 0 = 64 := by decide
  have e2 : tells 3 2 = 4 := by decide
  rw [e0, e2]
  have S2 := hide (S.out.kept0 hk)
  have K2 := hide (K.out.next hk)
  have T2 := hide (T1.out.kept0 hk)
  generalize tells 3 1 = z1
  clear hk S K T1 e0 e2
  go_wp2_with fail
  obtain ⟨r0, r1, r2⟩ := row3 w2 42 (.int .i64 64) (.int .i64 z1) (.int .i64 4)
  have hka := (Kept.refl [] w2).alloc (.cells #[.int .i64 64, .int .i64 z1, .int .i64 4] 42)
  have S3 := hide (S2.out.kept0 hka)
  have K3 := hide (K2.out.next hka)
  have T3 := hide (T2.out.kept0 hka)
  clear hka S2 K2 T2
  generalize w2.alloc (.cells #[.int .i64 64, .int .i64 z1, .int .i64 4] 42) = w3 at *
  generalize w2.heap.size = b at *
  refine (spans_true T3.out).mono ?_
  rintro e w4 ⟨rfl, hk⟩
  have S4 := hide (S3.out.kept0 hk)
  have K4 := hide (K3.out.next hk)
  have R0 := hide (hk.cell r0 (by simp))
  have R2 := hide (hk.cell r2 (by simp))
  clear hk S3 K3 T3 r0 r1 r2
  go_wp2_with fail
  go_loopw [7, 8] (fun v y wr => ∃ (m a : Nat), a ≤ 303 ∧ y = .int .i64 ((a : Int) - 3) ∧ v = .int .i64 (m : Nat) ∧ Cn 64 4 ((a : Int) - 3) m ∧ SA wr p tb 3 64 4 (fun _ => false) ∧ wr.cell? ⟨b, 0, none⟩ = some (.int .i64 64) ∧ wr.cell? ⟨b, 2, none⟩ = some (.int .i64 4) ∧ Kept [] w wr) (fun _ y _ => 300 - intOf y |>.toNat)
  case atStart => exact ⟨0, 0, by omega, rfl, rfl, ⟨by omega, by omega, by omega, by omega, by omega⟩, S4.out, R0.out, R2.out, K4.out⟩
  case round =>
    obtain ⟨m, a, ha, rfl, rfl, hcn, hS, c0, c2, hK⟩ := hrel
    have S5 := hide hS
    have K5 := hide hK
    have CN := hide hcn
    clear hS hK hcn S4 K4 R0 R2
    by_cases h3 : a < 303
    · by_cases hneg : a < 3
      · have hlt : (a : Int) - 3 < 0 := by omega
        have hl3 : (a : Int) - 3 < 300 := by omega
        go_wp2_with fail
        refine (idx_neg S5.out (by decide) _ hlt).mono ?_
        rintro e w6 ⟨rfl, hk⟩
        have S6 := hide (S5.out.kept0 hk)
        have K6 := hide (K5.out.next hk)
        have C0 := hide (hk.cell c0 (by simp))
        have C2 := hide (hk.cell c2 (by simp))
        clear hk S5 K5 c0 c2
        go_wp2
        go_roundw
        case rel => exact ⟨m, a + 1, by omega, by go_num, rfl, by have := CN.out; unfold Cn at this ⊢; omega, S6.out, C0.out, C2.out, K6.out⟩
        case measure => simp [intOf]; omega
      · obtain ⟨k, rfl⟩ : ∃ k : Nat, a = k + 3 := ⟨a - 3, by omega⟩
        have e3 : ((k + 3 : Nat) : Int) - 3 = k := by omega
        rw [e3] at CN
        have kk : k < 300 := by omega
        have hl3 : (k : Int) < 300 := by omega
        have hm8 := CN.out
        have em : (k : Int).tmod 64 = ((k % 64 : Nat) : Int) := rfl
        have EM := hide em
        clear em hm8
        go_wp2_with fail
        refine (idx_nat S5.out (by decide) 64 k rfl (by decide) (by omega)).mono ?_
        rintro e w6 ⟨hi, hk⟩
        have S6 := hide (S5.out.kept0 hk)
        have K6 := hide (K5.out.next hk)
        have c0 := hk.cell c0 (by simp)
        have c2 := hk.cell c2 (by simp)
        clear hk S5 K5
        rcases hi with ⟨h1, h2, rfl⟩ | ⟨h1, rfl⟩
        · have hmq : k / 64 = m := by have := CN.out; unfold Cn at this; omega
          rw [hmq]
          have em : (k : Int) % 64 = 0 := by omega
          have em' : (k : Int).tmod 64 = 0 := by rw [EM.out, h1]; rfl
          have hlt : (k : Int) < 256 := by omega
          have HM := hide hmq
          have H1 := hide h1
          have H2 := hide h2
          have hm9 : m < 4 := by omega
          clear hmq h1 h2
          go_wp2
          go_roundw
          case rel => exact ⟨m + 1, k + 4, by omega, by go_num, by go_num, by have := CN.out; have := H1.out; have := HM.out; unfold Cn at *; omega, S6.out, by assumption, by assumption, K6.out⟩
          case measure => simp [intOf]; omega
        · have H1 := hide h1
          by_cases hr : k % 64 = 0
          · have em : (k : Int) % 64 = 0 := by omega
            have em' : (k : Int).tmod 64 = 0 := by rw [EM.out, hr]; rfl
            have hlt : ¬ (k : Int) < 256 := by omega
            clear h1 hr
            go_wp2
            go_roundw
            case rel => exact ⟨m, k + 4, by omega, by go_num, rfl, by have := CN.out; have := H1.out; unfold Cn at *; omega, S6.out, by assumption, by assumption, K6.out⟩
            case measure => simp [intOf]; omega
          · have em : ¬ (k : Int) % 64 = 0 := by omega
            have em' : ¬ (k : Int).tmod 64 = 0 := by rw [EM.out]; omega
            clear h1
            go_wp2
            go_roundw
            case rel => exact ⟨m, k + 4, by omega, by go_num, rfl, by have := CN.out; have := H1.out; unfold Cn at *; omega, S6.out, by assumption, by assumption, K6.out⟩
            case measure => simp [intOf]; omega
    · obtain rfl : a = 303 := by omega
      have hmn : m = 4 := by have := CN.out; unfold Cn at this; omega
      subst hmn
      go_wp2
      go_ret
      exact ⟨rfl, K5.out⟩
theorem walk (x : Int) {w : World} (hT : Tab w) : Calls Tryd.prog 5 #[.int .i64 x] w fun e w' => e = .returned (.bool true) ∧ Kept [] w w' := by
  obtain ⟨r, hr, hx⟩ := mod_small x 4 (by decide) (by decide)
  have h4 : r = 0 ∨ r = 1 ∨ r = 2 ∨ r = 3 := by omega
  rcases h4 with rfl | rfl | rfl | rfl
  · exact walk0 x hx hT
  · exact walk1 x hx hT
  · exact walk2 x hx hT
  · exact walk3 x hx hT

theorem own : ownKnob Tryd.prog.godebug = none := by kernel_rfl
theorem laidOut : laidOutB Tryd.prog = true := by kernel_rfl

set_option maxRecDepth 100000 in
theorem contract (H : Type) (enc : TypeId × Value → H) (W : World) (base : Nat) (args : Array Value) (ds gs : List (DataW H)) (before : List MemPlace)
    (hval : ∀ (j : Nat) t v, Tryd.f5.params[j]? = some t → args[j]? = some v → Value.okWide Tryd.prog W .any base t v)
    (hW : DataW.Whole enc Tryd.prog Tryd.f5.params.toList Rows.spanPlacesSpec.vars false W args.toList ds gs before) (_hsh : W.ShapedOpen Tryd.prog) (hlaid : laidMetH Tryd.prog Rows.spanPlacesRow.laid W) :
    Calls Tryd.prog 5 args W fun e W' => ∃ v, e = .returned v ∧ Rows.spanPlacesSpec.post enc Tryd.prog Tryd.f5 false true false false W args v W' := by
  have hW' := hW
  obtain ⟨p, q, hA0, hV, rfl, hfz, hnd⟩ := hW
  have hA : DataW.TrodAll enc Tryd.prog W 0 (fun _ => true) true Tryd.f5.params.toList args.toList ds p := hA0
  have hK := hA
  rw [Tryd.params5] at hA hval
  obtain ⟨v0, vs0, d0, ds0, p0, q0, hargs, rfl, rfl, h0, r0⟩ := trodAll_cons hA
  obtain ⟨rfl, rfl, rfl⟩ := trodAll_nil r0
  obtain rfl : args = #[v0] := by cases args; simp_all
  obtain ⟨rfl, rfl⟩ := trodVars_none hV
  obtain ⟨x, rfl, rfl, rfl, w0⟩ := open_int Tryd.underlying3 (hval 0 3 v0 rfl rfl) h0
  have hTab : Cl.Tab W := Cl.tab_of_laid hlaid
  clear hA0
  refine (walk x hTab).mono fun e W' ⟨he, hk⟩ => ?_
  subst he
  exact ⟨_, rfl, _, _, _, [], _, [], hW', trodAll_mk1 (shut_bool Tryd.underlying4 _), trodAll_below laidOut hk.below _ _ _ _ hK (by kernel_rfl), rfl, hk.below.frame _, fun h => by cases h⟩

set_option maxRecDepth 100000 in
theorem laid_met (os : Os) : laidMet Tryd.prog Rows.spanPlacesRow.laid ((World.laidAll Tryd.prog os Rows.spanPlacesRow.laid).forCall (fun _ _ => 0) ⟨#[], #[.int .i64 0], []⟩).memory :=
  laidMet_laidAll _ (by kernel_rfl) (by kernel_rfl)
set_option maxRecDepth 100000 in
theorem reads (os : Os) {H : Type} (enc : TypeId × Value → H) : ∃ places, DataW.whole enc Tryd.prog ((World.laidAll Tryd.prog os Rows.spanPlacesRow.laid).forCall (fun _ _ => 0) ⟨#[], #[.int .i64 0], []⟩).memory Tryd.f5.params.toList Rows.spanPlacesSpec.vars false (#[.int .i64 0] : Array Value).toList 8 = some ([.lit (.int .i64 0)], [], places) :=
  ⟨[], by kernel_rfl⟩

set_option maxRecDepth 100000 in
theorem lifted (os : Os) (started : os.Started) (H : Type) (enc : TypeId × Value → H) (F : Stop.Interp) :
    ReturnsInHanded {} Tryd.checked os 5 .any ((OpenSpec.ofChange Rows.spanPlacesSpec).preRow enc Tryd.prog Tryd.f5 Rows.spanPlacesRow.domain false Rows.spanPlacesRow.laid) (((OpenSpec.ofChange Rows.spanPlacesSpec).at F).post enc Tryd.prog Tryd.f5 false true false false) := by
  obtain ⟨places, hx⟩ := reads os enc
  refine returnsInHanded_of_row (C := Tryd.checked) (s := OpenSpec.ofChange Rows.spanPlacesSpec) own started (by kernel_rfl) Tryd.func5
    (witness_row_at (enc := enc) (C := Tryd.checked) false (World.laidAll Tryd.prog os Rows.spanPlacesRow.laid) #[.int .i64 0] (World.laidAll_os _ _ _) (by kernel_rfl) (by kernel_rfl) (by kernel_rfl)
      (OpenSpec.preRow_of_cond 8 hx (by kernel_rfl) (fun k hk => by cases hk) (by kernel_rfl) (laid_met os))) ?_
  intro W base args ds gs before hval hW _ _ _ hlaid hsh _
  exact contract H enc W base args ds gs before hval hW hsh hlaid

theorem said : Rows.SpanPlacesSaid :=
  OpenClaim.holds_of_cond 5 Tryd.f5 rfl rfl rfl rfl rfl rfl rfl ⟨rfl, rfl, rfl, rfl, rfl⟩ rfl rfl rfl rfl rfl (by kernel_rfl) Tryd.func5 (by kernel_rfl)
    (of_decide_eq_true (by kernel_rfl)) (by unfold Func.isWrapper; first | (rw [if_pos (by decide +kernel)]; kernel_rfl) | (rw [if_neg (by decide +kernel)]; exact ⟨rfl, rfl⟩))
    (fun os started H enc _ F => by rw [OpenClaim.pre_eq_preRow]; exact lifted os started H enc F)

theorem plain (f : FuncId) (fn : Func) (hf : Tryd.pinned.checked.prog.funcNamed Tryd.f5.name = some f) (hfn : Tryd.pinned.checked.prog.funcs[f]? = some fn) :
    false = Tryd.pinned.checked.prog.looks [] ∧ ∀ (j : Nat) t, fn.params[j]? = some t → Tryd.pinned.checked.prog.wantsStandIn t = false := by
  obtain rfl : f = 5 := Option.some.inj ((show Tryd.prog.funcNamed Tryd.f5.name = some 5 by kernel_rfl).symm.trans hf) |>.symm
  obtain rfl : fn = Tryd.f5 := (Option.some.inj (Tryd.func5.symm.trans hfn)).symm
  refine ⟨by kernel_rfl, fun j t ht => ?_⟩
  rw [Tryd.params5] at ht
  have hm : t = 3 := by have h9 := Array.mem_of_getElem? ht; simp at h9; first | exact h9 | (rcases h9 with h | h | h <;> simp [h])
  rcases hm with rfl
  · exact (show Tryd.prog.wantsStandIn 3 = false by kernel_rfl)

theorem card : Rows.SpanPlacesCardSaid :=
  Claim7.holds_tied_plain_at .later [] _ _ _ _ said (fun _ h => by cases h) (by kernel_rfl) (fun _ h => by cases h) spanPlaces_row_tie rfl ⟨rfl, rfl⟩ (by kernel_rfl) rfl plain (by kernel_rfl)
end Go.Proofs.YtlmmnkkbgieihabDoor.places
