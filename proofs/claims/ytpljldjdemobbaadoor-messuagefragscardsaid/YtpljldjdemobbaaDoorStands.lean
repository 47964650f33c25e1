
/-
  No statement of the program: 'stands' of the statements through the layers answers true, over this seat's translation.
-/
import Derived.Test.YtpljldjdemobbaaDoorHeap
import Derived.Test.YtpljldjdemobbaaDoorRows
import Derived.Lib.Bytealg
import Derived.Laws.Externs
namespace Go.Proofs.YtpljldjdemobbaaDoor.St
open Go.RowKit

theorem ibs (s : ByteArray) (c : Int) (w : World) : (callFunc 64 #[.string s, .int .u8 c]).run Tryd.prog w = .ok (.value (.int .i64 (Lib.indexByte s.data.toList c.toNat.toUInt8))) w := by
  rw [run_callFunc_extern Tryd.func64 (by kernel_rfl) (by kernel_rfl) (by kernel_rfl) (e := Extern.BytealgIndexByte.indexByte) (by kernel_rfl), Lib.run_indexByteString]
  rfl
set_option maxHeartbeats 400000 in
theorem indexByte_any (s : ByteArray) (c : Int) (w : World) : Calls Tryd.prog 60 #[.string s, .int .u8 c] w fun e w' => e = .returned (.int .i64 (Lib.indexByte s.data.toList c.toNat.toUInt8)) ∧ w' = w := by
  have hib := ibs s c
  go_enter Tryd.func60, Tryd.ntmps60
  go_wp2
  go_ret
  exact ⟨rfl, rfl⟩
set_option maxHeartbeats 400000 in
theorem index_one (s : ByteArray) (c : UInt8) (w : World) (hne : ([c] == s.toList) = false) (k : Int) (hk : Lib.indexByte s.data.toList c = k) :
    Calls Tryd.prog 57 #[.string s, .string ⟨#[c]⟩] w fun e w' => e = .returned (.int .i64 k) ∧ w' = w := by
  have HK := hide hk
  have hx : ((⟨#[c]⟩ : ByteArray)[0]'Nat.zero_lt_one) = c := rfl
  have HC : Hid (((((⟨#[c]⟩ : ByteArray)[0]'Nat.zero_lt_one).toNat : Int)).toNat.toUInt8 = c) := hide (by rw [hx]; simp)
  clear hk hx
  go_enter Tryd.func57, Tryd.ntmps57
  go_wp2_with fail
  refine (indexByte_any s _ _).mono ?_
  rintro e w' ⟨rfl, hw⟩
  subst w'
  rw [HC.out, HK.out]
  go_wp2
  go_ret
  exact ⟨rfl, rfl⟩
theorem bl_a : (⟨#[48, 44, 50, 45, 52]⟩ : ByteArray).toList = [48, 44, 50, 45, 52] := by rw [ByteArray.toList_eq]
set_option maxHeartbeats 400000 in
theorem scut_a (w : World) :
    Calls Tryd.prog 52 #[.string ⟨#[48, 44, 50, 45, 52]⟩, .string ⟨#[44]⟩] w fun e w' => e = .returned (.tuple #[.string ⟨#[48]⟩, .string ⟨#[50, 45, 52]⟩, .bool true]) ∧ Kept [] w w' := by
  have H1 := hide (fun w => index_one ⟨#[48, 44, 50, 45, 52]⟩ 44 w (by rw [bl_a]; decide) (1) (by decide))
  go_enter Tryd.func52, Tryd.ntmps52
  go_wp2_with fail
  refine (H1.out _).mono ?_
  rintro e w' ⟨rfl, hw⟩
  subst w'
  go_wp2_with fail
  go_region
  all_goals go_wp2
  all_goals go_ret3
  all_goals exact ⟨rfl, (Kept.refl _ _).drew⟩
set_option maxHeartbeats 400000 in
theorem cut_a (w : World) :
    Calls Tryd.prog 46 #[.string ⟨#[48, 44, 50, 45, 52]⟩, .string ⟨#[44]⟩] w fun e w' => e = .returned (.tuple #[.string ⟨#[48]⟩, .string ⟨#[50, 45, 52]⟩, .bool true]) ∧ Kept [] w w' := by
  go_enter Tryd.func46, Tryd.ntmps46
  go_wp2_with fail
  refine (scut_a _).mono ?_
  rintro e w' ⟨rfl, k1⟩
  go_wp2
  go_ret3
  exact ⟨rfl, k1⟩
theorem bl_b : (⟨#[48]⟩ : ByteArray).toList = [48] := by rw [ByteArray.toList_eq]
set_option maxHeartbeats 400000 in
theorem scut_b (w : World) :
    Calls Tryd.prog 52 #[.string ⟨#[48]⟩, .string ⟨#[45]⟩] w fun e w' => e = .returned (.tuple #[.string ⟨#[48]⟩, .string ⟨#[]⟩, .bool false]) ∧ Kept [] w w' := by
  have H1 := hide (fun w => index_one ⟨#[48]⟩ 45 w (by rw [bl_b]; decide) (-1) (by decide))
  go_enter Tryd.func52, Tryd.ntmps52
  go_wp2_with fail
  refine (H1.out _).mono ?_
  rintro e w' ⟨rfl, hw⟩
  subst w'
  go_wp2_with fail
  go_ret3
  exact ⟨rfl, Kept.refl _ _⟩
set_option maxHeartbeats 400000 in
theorem cut_b (w : World) :
    Calls Tryd.prog 46 #[.string ⟨#[48]⟩, .string ⟨#[45]⟩] w fun e w' => e = .returned (.tuple #[.string ⟨#[48]⟩, .string ⟨#[]⟩, .bool false]) ∧ Kept [] w w' := by
  go_enter Tryd.func46, Tryd.ntmps46
  go_wp2_with fail
  refine (scut_b _).mono ?_
  rintro e w' ⟨rfl, k1⟩
  go_wp2
  go_ret3
  exact ⟨rfl, k1⟩
theorem bl_c : (⟨#[50, 45, 52]⟩ : ByteArray).toList = [50, 45, 52] := by rw [ByteArray.toList_eq]
set_option maxHeartbeats 400000 in
theorem scut_c (w : World) :
    Calls Tryd.prog 52 #[.string ⟨#[50, 45, 52]⟩, .string ⟨#[44]⟩] w fun e w' => e = .returned (.tuple #[.string ⟨#[50, 45, 52]⟩, .string ⟨#[]⟩, .bool false]) ∧ Kept [] w w' := by
  have H1 := hide (fun w => index_one ⟨#[50, 45, 52]⟩ 44 w (by rw [bl_c]; decide) (-1) (by decide))
  go_enter Tryd.func52, Tryd.ntmps52
  go_wp2_with fail
  refine (H1.out _).mono ?_
  rintro e w' ⟨rfl, hw⟩
  subst w'
  go_wp2_with fail
  go_ret3
  exact ⟨rfl, Kept.refl _ _⟩
set_option maxHeartbeats 400000 in
theorem cut_c (w : World) :
    Calls Tryd.prog 46 #[.string ⟨#[50, 45, 52]⟩, .string ⟨#[44]⟩] w fun e w' => e = .returned (.tuple #[.string ⟨#[50, 45, 52]⟩, .string ⟨#[]⟩, .bool false]) ∧ Kept [] w w' := by
  go_enter Tryd.func46, Tryd.ntmps46
  go_wp2_with fail
  refine (scut_c _).mono ?_
  rintro e w' ⟨rfl, k1⟩
  go_wp2
  go_ret3
  exact ⟨rfl, k1⟩
theorem bl_d : (⟨#[50, 45, 52]⟩ : ByteArray).toList = [50, 45, 52] := by rw [ByteArray.toList_eq]
set_option maxHeartbeats 400000 in
theorem scut_d (w : World) :
    Calls Tryd.prog 52 #[.string ⟨#[50, 45, 52]⟩, .string ⟨#[45]⟩] w fun e w' => e = .returned (.tuple #[.string ⟨#[50]⟩, .string ⟨#[52]⟩, .bool true]) ∧ Kept [] w w' := by
  have H1 := hide (fun w => index_one ⟨#[50, 45, 52]⟩ 45 w (by rw [bl_d]; decide) (1) (by decide))
  go_enter Tryd.func52, Tryd.ntmps52
  go_wp2_with fail
  refine (H1.out _).mono ?_
  rintro e w' ⟨rfl, hw⟩
  subst w'
  go_wp2_with fail
  go_region
  all_goals go_wp2
  all_goals go_ret3
  all_goals exact ⟨rfl, (Kept.refl _ _).drew⟩
set_option maxHeartbeats 400000 in
theorem cut_d (w : World) :
    Calls Tryd.prog 46 #[.string ⟨#[50, 45, 52]⟩, .string ⟨#[45]⟩] w fun e w' => e = .returned (.tuple #[.string ⟨#[50]⟩, .string ⟨#[52]⟩, .bool true]) ∧ Kept [] w w' := by
  go_enter Tryd.func46, Tryd.ntmps46
  go_wp2_with fail
  refine (scut_d _).mono ?_
  rintro e w' ⟨rfl, k1⟩
  go_wp2
  go_ret3
  exact ⟨rfl, k1⟩
set_option maxHeartbeats 400000 in
theorem node_0 (w : World) : Calls Tryd.prog 53 #[.string ⟨#[48]⟩] w fun e w' => e = .returned (.tuple #[.int .i64 0, .bool true]) ∧ w' = w := by
  go_enter Tryd.func53, Tryd.ntmps53
  go_wp2
  go_ret2
  exact ⟨rfl, rfl⟩
set_option maxHeartbeats 400000 in
theorem node_2 (w : World) : Calls Tryd.prog 53 #[.string ⟨#[50]⟩] w fun e w' => e = .returned (.tuple #[.int .i64 2, .bool true]) ∧ w' = w := by
  go_enter Tryd.func53, Tryd.ntmps53
  go_wp2
  go_ret2
  exact ⟨rfl, rfl⟩
set_option maxHeartbeats 400000 in
theorem node_4 (w : World) : Calls Tryd.prog 53 #[.string ⟨#[52]⟩] w fun e w' => e = .returned (.tuple #[.int .i64 4, .bool true]) ∧ w' = w := by
  go_enter Tryd.func53, Tryd.ntmps53
  go_wp2
  go_ret2
  exact ⟨rfl, rfl⟩
set_option maxHeartbeats 400000 in
theorem btw_0 (w : World) : Calls Tryd.prog 54 #[.int .i64 0, .int .i64 0] w fun e w' => e = .returned (.int .u8 1) ∧ w' = w := by
  go_enter Tryd.func54, Tryd.ntmps54
  go_wp2
  go_loop [5, 6] (fun s i => (s = .int .u8 0 ∧ i = .int .i64 0) ∨ (s = .int .u8 1 ∧ i = .int .i64 1)) (fun _ i => 5 - (intOf i).toNat)
  case atStart => exact Or.inl ⟨rfl, rfl⟩
  case round =>
    rcases hrel with ⟨rfl, rfl⟩ | ⟨rfl, rfl⟩
    · go_wp2
      exact ⟨Or.inr ⟨rfl, rfl⟩, by decide⟩
    · go_wp2
      go_ret
      exact ⟨rfl, rfl⟩
set_option maxHeartbeats 400000 in
theorem btw_2 (w : World) : Calls Tryd.prog 54 #[.int .i64 2, .int .i64 4] w fun e w' => e = .returned (.int .u8 28) ∧ w' = w := by
  go_enter Tryd.func54, Tryd.ntmps54
  go_wp2
  go_loop [5, 6] (fun s i => (s = .int .u8 0 ∧ i = .int .i64 2) ∨ (s = .int .u8 4 ∧ i = .int .i64 3) ∨ (s = .int .u8 12 ∧ i = .int .i64 4) ∨ (s = .int .u8 28 ∧ i = .int .i64 5)) (fun _ i => 9 - (intOf i).toNat)
  case atStart => exact Or.inl ⟨rfl, rfl⟩
  case round =>
    rcases hrel with ⟨rfl, rfl⟩ | ⟨rfl, rfl⟩ | ⟨rfl, rfl⟩ | ⟨rfl, rfl⟩
    · go_wp2
      exact ⟨Or.inr (Or.inl ⟨rfl, rfl⟩), by decide⟩
    · go_wp2
      exact ⟨Or.inr (Or.inr (Or.inl ⟨rfl, rfl⟩)), by decide⟩
    · go_wp2
      exact ⟨Or.inr (Or.inr (Or.inr ⟨rfl, rfl⟩)), by decide⟩
    · go_wp2
      go_ret
      exact ⟨rfl, rfl⟩
set_option maxHeartbeats 400000 in
theorem part_0 (w : World) : Calls Tryd.prog 47 #[.string ⟨#[48]⟩] w fun e w' => e = .returned (.tuple #[.int .u8 1, .bool true]) ∧ Kept [] w w' := by
  go_enter Tryd.func47, Tryd.ntmps47
  go_wp2_with fail
  refine (cut_b _).mono ?_
  rintro e w1 ⟨rfl, k1⟩
  go_wp2_with fail
  refine (node_0 _).mono ?_
  rintro e w' ⟨rfl, hw⟩
  subst w'
  go_wp2_with fail
  refine (btw_0 _).mono ?_
  rintro e w' ⟨rfl, hw⟩
  subst w'
  go_wp2
  go_ret2
  exact ⟨rfl, k1⟩
set_option maxHeartbeats 400000 in
theorem part_2 (w : World) : Calls Tryd.prog 47 #[.string ⟨#[50, 45, 52]⟩] w fun e w' => e = .returned (.tuple #[.int .u8 28, .bool true]) ∧ Kept [] w w' := by
  go_enter Tryd.func47, Tryd.ntmps47
  go_wp2_with fail
  refine (cut_d _).mono ?_
  rintro e w1 ⟨rfl, k1⟩
  go_wp2_with fail
  refine (node_2 _).mono ?_
  rintro e w' ⟨rfl, hw⟩
  subst w'
  go_wp2_with fail
  refine (node_4 _).mono ?_
  rintro e w' ⟨rfl, hw⟩
  subst w'
  go_wp2_with fail
  refine (btw_2 _).mono ?_
  rintro e w' ⟨rfl, hw⟩
  subst w'
  go_wp2
  go_ret2
  exact ⟨rfl, k1⟩
theorem bl_n : ((⟨#[48, 44, 50, 45, 52]⟩ : ByteArray).toList == [110, 111, 110, 101]) = false := by rw [bl_a]; decide
set_option maxHeartbeats 400000 in
theorem parse_a (w : World) : Calls Tryd.prog 35 #[.string ⟨#[48, 44, 50, 45, 52]⟩] w fun e w' => e = .returned (.tuple #[.int .u8 29, .int .i64 0]) ∧ Kept [] w w' := by
  go_enter Tryd.func35, Tryd.ntmps35
  go_wp2_with fail
  go_loopw [4, 5, 6] (fun s r m wr => (s = .int .u8 0 ∧ r = .string ⟨#[48, 44, 50, 45, 52]⟩ ∧ m = .bool true ∧ Kept [] w wr) ∨ (s = .int .u8 1 ∧ r = .string ⟨#[50, 45, 52]⟩ ∧ m = .bool true ∧ Kept [] w wr) ∨ (s = .int .u8 29 ∧ r = .string ⟨#[]⟩ ∧ m = .bool false ∧ Kept [] w wr)) (fun s _ _ _ => 29 - (intOf s).toNat)
  case atStart => exact Or.inl ⟨rfl, rfl, rfl, Kept.refl _ _⟩
  case round =>
    rcases hrel with ⟨rfl, rfl, rfl, kk⟩ | ⟨rfl, rfl, rfl, kk⟩ | ⟨rfl, rfl, rfl, kk⟩
    · have KK := hide kk
      clear kk
      go_wp2_with fail
      refine (cut_a _).mono ?_
      rintro e w1 ⟨rfl, k1⟩
      go_wp2_with fail
      refine (part_0 _).mono ?_
      rintro e w2 ⟨rfl, k2⟩
      have K2 := hide ((KK.out.next k1).next k2)
      clear KK k1 k2
      go_wp2
      go_roundw
      case rel => exact Or.inr (Or.inl ⟨rfl, rfl, rfl, K2.out⟩)
      case measure => decide
    · have KK := hide kk
      clear kk
      go_wp2_with fail
      refine (cut_c _).mono ?_
      rintro e w1 ⟨rfl, k1⟩
      go_wp2_with fail
      refine (part_2 _).mono ?_
      rintro e w2 ⟨rfl, k2⟩
      have K2 := hide ((KK.out.next k1).next k2)
      clear KK k1 k2
      go_wp2
      go_roundw
      case rel => exact Or.inr (Or.inr ⟨rfl, rfl, rfl, K2.out⟩)
      case measure => decide
    · go_wp2
      go_ret2
      exact ⟨rfl, kk⟩
set_option maxHeartbeats 400000 in
theorem stands_true (w : World) : Calls Tryd.prog 21 #[] w fun e w' => e = .returned (.bool true) ∧ Kept [] w w' := by
  go_enter Tryd.func21, Tryd.ntmps21
  go_wp2_with fail
  refine (parse_a _).mono ?_
  rintro e w1 ⟨rfl, k1⟩
  go_wp2
  go_ret
  exact ⟨rfl, k1⟩
end Go.Proofs.YtpljldjdemobbaaDoor.St
