/-
  No statement of the program: small lemmas for the statement on rows of calls of a store.
-/
import Derived.Test.YtockkmoanbddpaaFrmHolds
import Derived.Test.YtockkmoanbddpaaFrmRef2
import Derived.Test.YtockkmoanbddpaaStructs
namespace Go.Proofs.Ytockkmoanbddpaa.facts
open Go.RowKit Fr

set_option maxHeartbeats 400000 in
theorem none_any (w : World) : Calls Try.prog 13 #[] w fun r w' => r = .returned (.pointer none) ∧ w' = w := by
  go_enter Try.func13, Try.ntmps13
  go_wp2
  go_ret
  exact ⟨rfl, rfl⟩
theorem append_any2 {P : Program} {w : World} {ops : Array Oper} {rest : List Oper} {o : Oper} {a : Act} {Q : Exit → Act → World → Prop} (hgd : o.guard = none) (s x : Operand) (t : TypeId)
    (ho : o.op = .call { callee := .builtin .append, args := #[s, x], argTypes := #[t, t] })
    (base : Nat) (e : TypeId) (i : TypeInfo) (z : Value) (bytes : Nat) (ht : P.underlying t = some (.slice e)) (hi : P.info? e = some i) (hz : i.zero = some z)
    (hsize : i.size = 1) (hby : i.bytes = bytes) (hzs : z.cells.size = 1)
    (v : Value) (n : Nat) (xs : List Value) (hs : a.eval s = v) (hown : w.ownsRow base e 1 v n xs)
    (ao : Option Addr) (m c : Nat) (news : List Value) (hx : a.eval x = .slice ao m c) (hl : news.length = m) (hnil : ao = none → m = 0 ∧ c = 0) (hnews : ∀ j u, news[j]? = some u → ∃ ad, ao = some ad ∧ w.cell? (ad.add j) = some u) (h1 : ∀ u ∈ news, u.oneCell' = true)
    (h63 : n + m ≤ maxLen) (hbytes : (n + m) * bytes ≤ 140737488355328) (hbase : base ≤ w.heap.size)
    (h : ∀ v' w', w'.ownsRow base e 1 v' (n + m) (xs ++ news) → w.grownBy w' v.ownBlock → (v' = .slice none 0 0 → v = .slice none 0 0) → wpList P ops Q rest (a.put o.dst v') w') : wpList P ops Q (o :: rest) a w := by
  cases ao with
  | none =>
    obtain ⟨rfl, rfl⟩ := hnil rfl
    have : news = [] := List.length_eq_zero_iff.1 hl
    subst this
    refine wpList_append_own_none hgd s x t ho base e i 1 ht hi v n xs hs hown hx ?_
    exact h v w (by simpa using hown) ⟨rfl, rfl, rfl, Nat.le_refl _, fun _ _ _ => rfl⟩ id
  | some ad =>
    refine wpList_append_own w hgd s x t ho base e i z 1 bytes ht hi hz hsize hby hzs (by decide) v n xs hs hown ad m c news hx (by simpa using hl) ?_ h1 h63 hbytes hbase (fun v' w' h2 h3 h4 => h v' w' h2 h3 (fun q => (h4.1 q).1))
    intro j u hu
    obtain ⟨ad', h2, h3⟩ := hnews j u hu
    obtain rfl := Option.some.inj h2
    exact h3
/-- Acts: each lies in five cells, its bytes behind them. -/
def IsActs (w : World) (ao : Option Addr) (len : Nat) : Prop :=
  ∀ i, i < len → ∃ (b off : Nat) (wh fm at_ nn : Int) (A : Option Addr) (L C : Nat) (z : Nat → UInt8), ao = some ⟨b, off, none⟩ ∧ w.cell? ⟨b, off + i * 5, none⟩ = some (.int .i64 wh) ∧ w.cell? ⟨b, off + i * 5 + 1, none⟩ = some (.int .i64 fm) ∧
    w.cell? ⟨b, off + i * 5 + 2, none⟩ = some (.int .i64 at_) ∧ w.cell? ⟨b, off + i * 5 + 3, none⟩ = some (.int .i64 nn) ∧ w.cell? ⟨b, off + i * 5 + 4, none⟩ = some (.slice A L C) ∧ nn ≤ 9223372036854775807 ∧ L ≤ C ∧ C ≤ maxLen ∧ (A = none → C = 0) ∧ Bs w A L z

theorem chk_cases (t : Nat) (k a m : Int) : (∃ k' a' m' : Nat, k = k' ∧ a = a' ∧ m = m' ∧ k' < t ∧ a' + m' ≤ 64) ∨ chk t k a m = 1 ∨ chk t k a m = 7 := by
  by_cases hB : 0 ≤ k ∧ k < t
  · by_cases h2 : 0 ≤ a ∧ 0 ≤ m ∧ a + m ≤ 64
    · exact Or.inl ⟨k.toNat, a.toNat, m.toNat, by omega, by omega, by omega, by omega, by omega⟩
    · exact Or.inr (Or.inr (chk_bound (hasB_true hB) h2))
  · exact Or.inr (Or.inl (chk_arg (hasB_false hB)))
theorem has_cases (t : Nat) (k : Int) : (∃ k' : Nat, k = k' ∧ k' < t ∧ hasB t k = true) ∨ hasB t k = false := by
  by_cases hB : 0 ≤ k ∧ k < t
  · exact Or.inl ⟨k.toNat, by omega, by omega, hasB_true hB⟩
  · exact Or.inr (hasB_false hB)

end Go.Proofs.Ytockkmoanbddpaa.facts
