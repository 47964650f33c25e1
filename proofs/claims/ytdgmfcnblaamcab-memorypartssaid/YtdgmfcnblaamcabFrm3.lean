
/-
  No statement of the program: the contracts of package frames at numbers that are spelt otherwise.
-/
import Derived.Test.YtdgmfcnblaamcabFrm2
namespace Go.Proofs.Ytdgmfcnblaamcab.Fr
open Go.RowKit

theorem new_at (n e : Nat) {ni ei : Int} (en : ni = n) (ee : ei = e) {w : World} (hn : 1 ≤ n) (hn8 : n ≤ 8) (he : 1 ≤ e) (he2 : e ≤ 1024) (t : Nat) (ht : n * e = t) :
    Calls Try.prog 4 #[.int .i64 ni, .int .i64 ei] w fun r w' => ∃ g c : Nat, r = .returned (.tuple #[.pointer (some ⟨g, 0, none⟩), .int .i64 0]) ∧ StoreAt w' g c n e t (fun _ => 0) ∧ w.heap.size ≤ g ∧ w.heap.size ≤ c ∧ Kept [] w w' := by
  subst en ee; exact new_ok n e hn hn8 he he2 t ht
theorem load_at {w : World} {g c n e t : Nat} {f : Nat → UInt8} (k at_ m : Nat) {ki ai mi : Int} (ek : ki = k) (ea : ai = at_) (em : mi = m) (h : StoreAt w g c n e t f) (hk : k < t) (hm : at_ + m ≤ 64) :
    Calls Try.prog 19 #[.pointer (some ⟨g, 0, none⟩), .int .i64 ki, .int .i64 ai, .int .i64 mi] w fun r w' => ∃ ao cap, r = .returned (.tuple #[.slice ao m cap, .int .i64 0]) ∧ Bs w' ao m (fun i => f (k * 64 + at_ + i)) ∧ (∀ a, ao = some a → w.heap.size ≤ a.block) ∧ Kept [] w w' := by
  subst ek ea em; exact load_ok k at_ m h hk hm
theorem save_at {w : World} {g c n e t : Nat} {f z : Nat → UInt8} (k at_ m cap : Nat) {ki ai : Int} (ek : ki = k) (ea : ai = at_) (ao : Option Addr) (h : StoreAt w g c n e t f) (hk : k < t) (hm : at_ + m ≤ 64) (hz : Bs w ao m z) :
    Calls Try.prog 18 #[.pointer (some ⟨g, 0, none⟩), .int .i64 ki, .int .i64 ai, .slice ao m cap] w fun r w' => r = .returned (.int .i64 0) ∧ StoreAt w' g c n e t (over f (k * 64 + at_) m z) ∧ Kept [c] w w' := by
  subst ek ea; exact save_ok k at_ m cap ao h hk hm hz
theorem copy_at {w : World} {g c n e t : Nat} {f : Nat → UInt8} (k q : Nat) {ki qi : Int} (ek : ki = k) (eq : qi = q) (h : StoreAt w g c n e t f) (hk : k < t) (hq : q < t) :
    Calls Try.prog 21 #[.pointer (some ⟨g, 0, none⟩), .int .i64 ki, .int .i64 qi] w fun r w' => r = .returned (.int .i64 0) ∧ StoreAt w' g c n e t (over f (q * 64) 64 (fun i => f (k * 64 + i))) ∧ Kept [c] w w' := by
  subst ek eq; exact copy_ok k q h hk hq
end Go.Proofs.Ytdgmfcnblaamcab.Fr
