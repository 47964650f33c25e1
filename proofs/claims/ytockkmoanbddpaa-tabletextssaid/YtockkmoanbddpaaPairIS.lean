/-
  No statement of the program: 'find', 'has', 'keep' and 'drop' of package table at one pair of types (numbers and texts), over this seat's translation.
-/
import Derived.Test.YtockkmoanbddpaaItself
import Derived.Test.YtockkmoanbddpaaKinds
namespace Go.Proofs.Ytockkmoanbddpaa.Tb.PIS
open Go.RowKit

theorem tm : Try.prog.underlying 80 = some (.map (SI).t (SS).t) := Try.underlying80
set_option maxHeartbeats 400000 in
theorem find_any {w : World} {b n : Nat} {m : Int → Option ByteArray} (k : Int) (hk : (SI).ok k) (h : MapAt SI SS w b n m) (y : ByteArray) (bo : Bool) (hy : (m k).getD ByteArray.empty = y) (hb : (m k).isSome = bo) :
    Calls Try.prog 67 #[.map (some b), .int .i64 k] w fun e w' => e = .returned (.tuple #[.string y, .bool bo]) ∧ Kept [] w w' := by
  have H := hide h
  have HY := hide hy
  have HB := hide hb
  clear h hy hb
  go_enter Try.func67, Try.ntmps67
  go_wp2_with (first | (go_at_call 81; refine (itselfI k _).mono ?_; rintro e w1 ⟨rfl, k1⟩) | (at_lookup; refine wpList_find SI SS rfl _ _ 80 rfl tm m b n rfl (H.out.kept k1 (by simp)) k rfl hk (.tuple #[.string y, .bool bo]) ?c0 ?_))
  case c0 => rw [← HY.out, ← HB.out]; rfl
  go_wp2
  go_ret2
  exact ⟨rfl, k1⟩
set_option maxHeartbeats 400000 in
theorem has_any {w : World} {b n : Nat} {m : Int → Option ByteArray} (k : Int) (hk : (SI).ok k) (h : MapAt SI SS w b n m) (bo : Bool) (hb : (m k).isSome = bo) :
    Calls Try.prog 61 #[.map (some b), .int .i64 k] w fun e w' => e = .returned (.bool bo) ∧ Kept [] w w' := by
  have H := hide h
  have HB := hide hb
  clear h hb
  go_enter Try.func61, Try.ntmps61
  go_wp2_with (go_at_call 67; refine (find_any k hk H.out _ bo rfl HB.out).mono ?_; rintro e w1 ⟨rfl, k1⟩)
  go_ret
  exact ⟨rfl, k1⟩
set_option maxHeartbeats 400000 in
theorem keep_any {w : World} {b n : Nat} {m : Int → Option ByteArray} (k : Int) (hk : (SI).ok k) (y : ByteArray) (hy : (SS).ok y) (h : MapAt SI SS w b n m) (hn : n ≤ 1000000) :
    Calls Try.prog 63 #[.map (some b), .int .i64 k, .string y] w fun e w' => e = .returned (.tuple #[]) ∧ MapAt SI SS w' b (n + 1) (mput m k y) ∧ Kept [b] w w' := by
  have H := hide h
  clear h
  go_enter Try.func63, Try.ntmps63
  go_wp2_with (first | (go_at_call 81; refine (itselfI k _).mono ?_; rintro e w1 ⟨rfl, k1⟩) | (at_mapUpdate; refine wpList_keep SI SS rfl _ _ _ 80 rfl tm m b n rfl (H.out.kept k1 (by simp)) (by unfold maxLen; omega) k rfl hk y rfl hy ?_))
  intro w2 h2 k2
  have R := hide (And.intro h2 ((k1.mono (M := [b]) (by simp)).trans k2 (by simp)))
  clear h2 k2 k1
  go_wp2
  go_end0
  exact ⟨rfl, R.out⟩
set_option maxHeartbeats 400000 in
theorem drop_any {w : World} {b n : Nat} {m : Int → Option ByteArray} (k : Int) (hk : (SI).ok k) (h : MapAt SI SS w b n m) :
    Calls Try.prog 66 #[.map (some b), .int .i64 k] w fun e w' => e = .returned (.tuple #[]) ∧ MapAt SI SS w' b n (mdel m k) ∧ Kept [b] w w' := by
  have H := hide h
  clear h
  go_enter Try.func66, Try.ntmps66
  go_wp2_with (first | (go_at_call 81; refine (itselfI k _).mono ?_; rintro e w1 ⟨rfl, k1⟩) | (at_delete; refine wpList_drop SI SS rfl _ _ 80 rfl tm m b n rfl (H.out.kept k1 (by simp)) k rfl hk ?_))
  intro w2 h2 k2
  have R := hide (And.intro h2 ((k1.mono (M := [b]) (by simp)).trans k2 (by simp)))
  clear h2 k2 k1
  go_wp2
  go_end0
  exact ⟨rfl, R.out⟩
end Go.Proofs.Ytockkmoanbddpaa.Tb.PIS
