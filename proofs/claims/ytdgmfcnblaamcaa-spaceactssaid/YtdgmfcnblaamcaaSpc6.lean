
/-
  No statement of the program: slices.Insert of one run behind the last (nil too), over this seat's translation.
-/
import Derived.Test.YtdgmfcnblaamcaaSpc5
import Derived.Maps.AppendAt
namespace Go.Proofs.Ytdgmfcnblaamcaa.Sc
open Go.ChangeShapes Go.WideShapes Go.ChangeAt Go.RowKit

set_option maxHeartbeats 4000000 in
set_option maxRecDepth 100000 in
theorem insert_end {w : World} {v : Value} {ao : Option Addr} {n cap vb x y : Nat} {xs : List Value} (hvs : v = .slice ao n cap) (hO : w.ownsRow 0 51 2 v n xs)
    (hv : w.heap[vb]? = some (.cells #[iv x, iv y] 51)) (hn : n ≤ 4096) :
    Calls Try.prog 18 #[v, .int .i64 n, .slice (some ⟨vb, 0, none⟩) 1 1] w fun e w' => ∃ v', e = .returned v' ∧ w'.ownsRow 0 51 2 v' (n + 1) (xs ++ [iv x, iv y]) ∧ w.grownBy w' v.ownBlock ∧ (v'.ownBlock = v.ownBlock ∨ v'.ownBlock = some w.heap.size) := by
  have c0 := blk_cell hv 0 (v := iv x) rfl
  have c1 := blk_cell hv 1 (v := iv y) rfl
  obtain ⟨ir, hir, hz⟩ := Option.map_eq_some_iff.1 info_run
  subst hvs
  obtain ⟨ob, hob⟩ : ∃ o, o = (Value.slice ao n cap).ownBlock := ⟨_, rfl⟩
  rw [← hob]
  have HB := hide hob
  clear hob
  have hlen : (n : Int) ≤ 4096 := by omega
  have hv2 := hide hv
  clear hv
  obtain ⟨I, Z, SZ, B⟩ : Hid (Try.prog.info? 51 = some ir) ∧ Hid (ir.zero = some (.agg #[.int .i64 0, .int .i64 0])) ∧ Hid (ir.size = 2) ∧ Hid (ir.bytes = 16) := by
    simp only [Prod.mk.injEq] at hz
    exact ⟨hide hir, hide hz.1, hide hz.2.1, hide hz.2.2⟩
  have O := hide hO
  have C0 := hide c0
  have C1 := hide c1
  clear hO c0 c1 hir hz
  go_enter Try.func18, Try.ntmps18
  have L1 := hide (show ∀ u ∈ [iv x, iv y], u.oneCell' = true by intro u hu; simp at hu; rcases hu with rfl | rfl <;> rfl)
  have N1 := hide (show ∀ (j : Nat) (u : Value), [iv x, iv y][j]? = some u → w.cell? ((⟨vb, 0, none⟩ : Addr).add j) = some u by
    intro j u hj
    match j, hj with
    | 0, hj => simp at hj; subst hj; exact C0.out
    | 1, hj => simp at hj; subst hj; rw [add_plain]; exact C1.out)
  go_wp2_with (at_builtin; refine wpList_append_own_at _ rfl _ _ 48 rfl 0 51 ir (.agg #[.int .i64 0, .int .i64 0]) 2 16 Try.underlying48 I.out Z.out SZ.out B.out rfl (by decide) _ n xs rfl O.out ⟨vb, 0, none⟩ 1 1 [iv x, iv y] rfl rfl N1.out L1.out (by unfold maxLen; omega) (by omega) (Nat.zero_le _) ?_; intro v1 w1 o1 g1 e1 b1)
  all_goals
    go_ret
    exact ⟨_, rfl, o1, by rw [HB.out]; exact g1, by rw [HB.out]; exact b1⟩
end Go.Proofs.Ytdgmfcnblaamcaa.Sc
