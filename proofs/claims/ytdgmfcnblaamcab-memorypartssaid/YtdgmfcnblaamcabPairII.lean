
/-
  No statement of the program: 'find', 'has', 'keep' and 'drop' of package table at one pair of types (numbers and numbers), over this seat's translation.
-/
import Derived.Test.YtdgmfcnblaamcabItself
import Derived.Test.YtdgmfcnblaamcabKinds
namespace Go.Proofs.Ytdgmfcnblaamcab.Tb.PII
open Go.RowKit

theorem tm : Try.prog.underlying 55 = some (.map (SI).t (SI).t) := Try.underlying55
set_option maxHeartbeats 400000 in
theorem find_any {w : World} {b n : Nat} {m : Int → Option Int} (k : Int) (hk : (SI).ok k) (h : MapAt SI SI w b n m) (y : Int) (bo : Bool) (hy : (m k).getD 0 = y) (hb : (m k).isSome = bo) :
    Calls Try.prog 33 #[.map (some b), .int .i64 k] w fun e w' => e = .returned (.tuple #[.int .i64 y, .bool bo]) ∧ Kept [] w w' := by
  have H := hide h
  have HY := hide hy
  have HB := hide hb
  clear h hy hb
  go_enter Try.func33, Try.ntmps33
  go_wp2_with (first | (go_at_call 34; refine (itselfI k _).mono ?_; rintro e w1 ⟨rfl, k1⟩) | (at_lookup; refine wpList_find SI SI rfl _ _ 55 rfl tm m b n rfl (H.out.kept k1 (by simp)) k rfl hk (.tuple #[.int .i64 y, .bool bo]) ?c0 ?_))
  case c0 => rw [← HY.out, ← HB.out]; rfl
  go_wp2
  go_ret2
  exact ⟨rfl, k1⟩
set_option maxHeartbeats 400000 in
theorem has_any {w : World} {b n : Nat} {m : Int → Option Int} (k : Int) (hk : (SI).ok k) (h : MapAt SI SI w b n m) (bo : Bool) (hb : (m k).isSome = bo) :
    Calls Try.prog 25 #[.map (some b), .int .i64 k] w fun e w' => e = .returned (.bool bo) ∧ Kept [] w w' := by
  have H := hide h
  have HB := hide hb
  clear h hb
  go_enter Try.func25, Try.ntmps25
  go_wp2_with (go_at_call 33; refine (find_any k hk H.out _ bo rfl HB.out).mono ?_; rintro e w1 ⟨rfl, k1⟩)
  go_ret
  exact ⟨rfl, k1⟩
set_option maxHeartbeats 400000 in
theorem keep_any {w : World} {b n : Nat} {m : Int → Option Int} (k : Int) (hk : (SI).ok k) (y : Int) (hy : (SI).ok y) (h : MapAt SI SI w b n m) (hn : n ≤ 1000000) :
    Calls Try.prog 26 #[.map (some b), .int .i64 k, .int .i64 y] w fun e w' => e = .returned (.tuple #[]) ∧ MapAt SI SI w' b (n + 1) (mput m k y) ∧ Kept [b] w w' := by
  have H := hide h
  clear h
  go_enter Try.func26, Try.ntmps26
  go_wp2_with (first | (go_at_call 34; refine (itselfI k _).mono ?_; rintro e w1 ⟨rfl, k1⟩) | (at_mapUpdate; refine wpList_keep SI SI rfl _ _ _ 55 rfl tm m b n rfl (H.out.kept k1 (by simp)) (by unfold maxLen; omega) k rfl hk y rfl hy ?_))
  intro w2 h2 k2
  have R := hide (And.intro h2 ((k1.mono (M := [b]) (by simp)).trans k2 (by simp)))
  clear h2 k2 k1
  go_wp2
  go_end0
  exact ⟨rfl, R.out⟩
set_option maxHeartbeats 400000 in
theorem drop_any {w : World} {b n : Nat} {m : Int → Option Int} (k : Int) (hk : (SI).ok k) (h : MapAt SI SI w b n m) :
    Calls Try.prog 36 #[.map (some b), .int .i64 k] w fun e w' => e = .returned (.tuple #[]) ∧ MapAt SI SI w' b n (mdel m k) ∧ Kept [b] w w' := by
  have H := hide h
  clear h
  go_enter Try.func36, Try.ntmps36
  go_wp2_with (first | (go_at_call 34; refine (itselfI k _).mono ?_; rintro e w1 ⟨rfl, k1⟩) | (at_delete; refine wpList_drop SI SI rfl _ _ 55 rfl tm m b n rfl (H.out.kept k1 (by simp)) k rfl hk ?_))
  intro w2 h2 k2
  have R := hide (And.intro h2 ((k1.mono (M := [b]) (by simp)).trans k2 (by simp)))
  clear h2 k2 k1
  go_wp2
  go_end0
  exact ⟨rfl, R.out⟩
end Go.Proofs.Ytdgmfcnblaamcab.Tb.PII
