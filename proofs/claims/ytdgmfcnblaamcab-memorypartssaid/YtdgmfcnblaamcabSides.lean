
/-
  No statement of the program: maps that a call has made, as functions: what the look-up, the store and the delete do to them.
-/
import Derived.Test.YtdgmfcnblaamcabHeap2
import Derived.Maps.OwnSet
import Derived.Maps.StringElems
namespace Go.Proofs.Ytdgmfcnblaamcab
open Go.RowKit Go.Maps Go.WideMaps Go.ChangeShapes Go.WideShapes

/-- A type of things that may be keys and elements of maps. -/
structure Side (P : Program) (X : Type) where
  t : TypeId
  val : X → Value
  lit : X → Lit
  ok : X → Prop
  zero : X
  law : Keyed P t
  key : ∀ x, ok x → keyOf P t (val x) = some (lit x)
  inj : ∀ x y, lit x = lit y → x = y
  elem : ∀ x, ok x → plainElem (H := Unit) P t (val x) = some (.lit (lit x), [])
  inv : ∀ v z, plainElem (H := Unit) P t v = some z → ∃ x, v = val x ∧ z = (.lit (lit x), []) ∧ ok x
  zeroV : ∀ w, (zeroValue t).run P w = .ok (val zero) w
  zeroOk : ok zero

def okI (x : Int) : Prop := (Lit.int .i64 x).wf = true
theorem okI_of {x : Int} (h : -9223372036854775808 ≤ x) (h2 : x ≤ 9223372036854775807) : okI x := by
  unfold okI; simp [Lit.wf, IntKind.min, IntKind.max, IntKind.signed, IntKind.bits]; omega
def sideI {P : Program} {t : TypeId} (ht : P.underlying t = some (.int .i64)) (hz : ∀ w, (zeroValue t).run P w = .ok (.int .i64 0) w) : Side P Int where
  t := t
  val := fun x => .int .i64 x
  lit := fun x => .int .i64 x
  ok := okI
  zero := 0
  law := int_keyed ht
  key := fun _ h => keyOf_int_mk ht h
  inj := fun _ _ h => by cases h; rfl
  elem := fun _ h => plainElem_int ht h
  inv := fun _ _ h => plainElem_int_inv ht h
  zeroV := hz
  zeroOk := by unfold okI; decide
def okS (x : ByteArray) : Prop := x.size ≤ maxLen
def sideS {P : Program} {t : TypeId} (ht : P.underlying t = some .string) (hz : ∀ w, (zeroValue t).run P w = .ok (.string ByteArray.empty) w) : Side P ByteArray where
  t := t
  val := fun x => .string x
  lit := fun x => .string x.data.toList
  ok := okS
  zero := ByteArray.empty
  law := string_keyed ht
  key := fun _ h => keyOf_string_mk ht h
  inj := fun x y h => by
    have h2 : x.data.toList = y.data.toList := by simpa using h
    have h3 : x.data = y.data := Array.toList_inj.1 h2
    cases x; cases y; simp_all
  elem := fun _ h => plainElem_string ht h
  inv := fun _ _ h => plainElem_string_inv ht h
  zeroV := hz
  zeroOk := by unfold okS; exact Nat.zero_le _

/-- What the datum D says at x, as m does. -/
def Says {P : Program} {K V : Type} (A : Side P K) (B : Side P V) (D : DataW Unit) (x : K) (o : Option V) : Prop :=
  Maps.has D (A.lit x) = o.isSome ∧ D.atKey (A.lit x) (.lit (B.lit B.zero)) = .lit (B.lit (o.getD B.zero)) ∧ B.ok (o.getD B.zero)
/-- Block b is a map of at most n entries that holds what m says. -/
def MapAt {P : Program} {K V : Type} (A : Side P K) (B : Side P V) (w : World) (b n : Nat) (m : K → Option V) : Prop :=
  ∃ D : DataW Unit, w.ownsMap P A.t (plainElem P B.t) b n D ∧ ∀ x, A.ok x → Says A B D x (m x)

def mput {K V : Type} [DecidableEq K] (m : K → Option V) (k : K) (v : V) (x : K) : Option V := if x = k then some v else m x
def mdel {K V : Type} [DecidableEq K] (m : K → Option V) (k : K) (x : K) : Option V := if x = k then none else m x
theorem mput_same {K V : Type} [DecidableEq K] (m : K → Option V) (k : K) (v : V) : mput m k v k = some v := by simp [mput]
theorem mput_other {K V : Type} [DecidableEq K] (m : K → Option V) (k x : K) (v : V) (h : x ≠ k) : mput m k v x = m x := by simp [mput, h]
theorem mdel_same {K V : Type} [DecidableEq K] (m : K → Option V) (k : K) : mdel m k k = none := by simp [mdel]
theorem mdel_other {K V : Type} [DecidableEq K] (m : K → Option V) (k x : K) (h : x ≠ k) : mdel m k x = m x := by simp [mdel, h]

namespace MapAt
variable {P : Program} {K V : Type} {A : Side P K} {B : Side P V} {w w' : World} {b n : Nat} {m : K → Option V}
theorem lt (h : MapAt A B w b n m) : b < w.heap.size := by obtain ⟨D, h1, _⟩ := h; exact h1.lt
theorem of_block (h : MapAt A B w b n m) (e : w'.heap[b]? = w.heap[b]?) : MapAt A B w' b n m := by
  obtain ⟨D, ⟨es, cl, h1, h2⟩, h3⟩ := h
  exact ⟨D, ⟨es, cl, e.trans h1, h2⟩, h3⟩
theorem kept {L : List Nat} (h : MapAt A B w b n m) (k : Kept L w w') (hb : b ∉ L) : MapAt A B w' b n m := h.of_block (k.block b h.lt hb)
theorem mono (h : MapAt A B w b n m) {n' : Nat} (hn : n ≤ n') : MapAt A B w b n' m := by
  obtain ⟨D, h1, h2⟩ := h; exact ⟨D, h1.mono hn, h2⟩
theorem congr (h : MapAt A B w b n m) {m' : K → Option V} (e : ∀ x, A.ok x → m x = m' x) : MapAt A B w b n m' := by
  obtain ⟨D, h1, h2⟩ := h
  exact ⟨D, h1, fun x hx => by rw [← e x hx]; exact h2 x hx⟩
theorem made (w : World) : MapAt A B (w.alloc (.map #[] 0)) w.heap.size 0 (fun _ : K => (none : Option V)) :=
  ⟨.map [], World.ownsMap_made w P A.t (plainElem P B.t), fun _ _ => ⟨rfl, rfl, B.zeroOk⟩⟩
theorem row_ne (h : MapAt A B w b n m) {g : Nat} {cs : Array Value} {t : TypeId} {fr : Nat × Nat} (hg : w.heap[g]? = some (.cells cs t fr)) : g ≠ b := by
  rintro rfl
  obtain ⟨D, ⟨es, cl, h1, _⟩, _⟩ := h
  rw [hg] at h1; cases h1
theorem put [DecidableEq K] {D : DataW Unit} {k : K} {v : V} (h : w.ownsMap P A.t (plainElem P B.t) b n (D.put (A.lit k) (.lit (B.lit v)))) (hD : IsMap D) (h2 : ∀ x, A.ok x → Says A B D x (m x)) (hk : A.ok k) (hv : B.ok v) : MapAt A B w b n (mput m k v) := by
  refine ⟨_, h, fun x hx => ?_⟩
  have hl := A.law.key (A.key k hk)
  by_cases e : x = k
  · subst e
    rw [mput_same]
    exact ⟨has_put_same hD hl _, atKey_put_same hD hl _ _, hv⟩
  · rw [mput_other m k x v e]
    have hne : A.lit x ≠ A.lit k := fun q => e (A.inj _ _ q)
    obtain ⟨a1, a2, a3⟩ := h2 x hx
    exact ⟨by rw [has_put_other hne]; exact a1, by rw [atKey_put_other hne]; exact a2, a3⟩
theorem del [DecidableEq K] {D : DataW Unit} {k : K} (h : w.ownsMap P A.t (plainElem P B.t) b n (D.del (A.lit k))) (h2 : ∀ x, A.ok x → Says A B D x (m x)) : MapAt A B w b n (mdel m k) := by
  refine ⟨_, h, fun x hx => ?_⟩
  by_cases e : x = k
  · subst e
    rw [mdel_same]
    exact ⟨has_del_same, atKey_del_same _, B.zeroOk⟩
  · rw [mdel_other m k x e]
    have hne : A.lit x ≠ A.lit k := fun q => e (A.inj _ _ q)
    obtain ⟨a1, a2, a3⟩ := h2 x hx
    exact ⟨by rw [has_del_other hne]; exact a1, by rw [atKey_del_other hne]; exact a2, a3⟩
end MapAt
theorem Kept.of_turned {w w' : World} {b : Nat} (h : w.mapTurned w' b) : Kept [b] w w' := Kept.of_grownBy h.grown (by intro k hk _; cases hk; simp)

section
variable {P : Program} {K V : Type} (A : Side P K) (B : Side P V) {w : World} {ops : Array Oper} {rest : List Oper} {o : Oper} {a : Act} {Q : Exit → Act → World → Prop}
/-- v, ok := m[k]. -/
theorem wpList_find (hg : o.guard = none) (m x : Operand) (t : TypeId) (hop : o.op = Op.lookup t m x true) (ht : P.underlying t = some (.map A.t B.t)) (f : K → Option V) (b n : Nat)
    (hm : a.eval m = .map (some b)) (hown : MapAt A B w b n f) (k : K) (hx : a.eval x = A.val k) (hk : A.ok k) (r : Value) (hr : r = .tuple #[B.val ((f k).getD B.zero), .bool (f k).isSome])
    (hK : wpList P ops Q rest (a.put o.dst r) w) :
    wpList P ops Q (o :: rest) a w := by
  obtain ⟨D, h1, h2⟩ := hown
  obtain ⟨a1, a2, a3⟩ := h2 k hk
  refine wpList_lookup_own_ok w hg m x t hop A.t B.t A.law ht (plainElem P B.t) (B.zeroV w) _ [] (B.elem _ B.zeroOk) b n D hm h1 _ _ hx (A.key k hk) (fun v ps hv => ?_)
  rw [a2] at hv
  obtain ⟨y, rfl, hz, _⟩ := B.inv _ _ hv
  have e : (f k).getD B.zero = y := B.inj _ _ (by simp at hz; exact hz.1)
  rw [a1, ← e, ← hr]
  exact hK
/-- m[k] = v. -/
theorem wpList_keep [DecidableEq K] (hg : o.guard = none) (m x v : Operand) (t : TypeId) (hop : o.op = Op.mapUpdate t m x v) (ht : P.underlying t = some (.map A.t B.t)) (f : K → Option V) (b n : Nat)
    (hm : a.eval m = .map (some b)) (hown : MapAt A B w b n f) (hn : n < maxLen) (k : K) (hx : a.eval x = A.val k) (hk : A.ok k) (y : V) (hy : a.eval v = B.val y) (hyo : B.ok y)
    (hK : ∀ w', MapAt A B w' b (n + 1) (mput f k y) → Kept [b] w w' → wpList P ops Q rest (a.put o.dst undef) w') :
    wpList P ops Q (o :: rest) a w := by
  obtain ⟨D, h1, h2⟩ := hown
  refine wpList_mapUpdate_own w hg m x v t hop A.t B.t A.law ht (plainElem P B.t) b n D hm h1 hn _ _ _ hx hy (A.key k hk) _ [] (B.elem y hyo) (fun w' h3 h4 => ?_)
  exact hK w' (MapAt.put h3 h1.isMap h2 hk hyo) (Kept.of_grownBy h4 (by intro j hj _; cases hj; simp))
/-- delete(m, k). -/
theorem wpList_drop [DecidableEq K] (hg : o.guard = none) (m x : Operand) (t : TypeId) (hop : o.op = Op.call { callee := Callee.builtin Builtin.delete, args := #[m, x], argTypes := #[t, A.t] }) (ht : P.underlying t = some (.map A.t B.t)) (f : K → Option V) (b n : Nat)
    (hm : a.eval m = .map (some b)) (hown : MapAt A B w b n f) (k : K) (hx : a.eval x = A.val k) (hk : A.ok k)
    (hK : ∀ w', MapAt A B w' b n (mdel f k) → Kept [b] w w' → wpList P ops Q rest (a.put o.dst (.tuple #[])) w') :
    wpList P ops Q (o :: rest) a w := by
  obtain ⟨D, h1, h2⟩ := hown
  refine wpList_delete_own w hg m x t A.t hop B.t A.law ht (plainElem P B.t) b n D hm h1 _ _ hx (A.key k hk) (fun w' h3 h4 => ?_)
  exact hK w' (MapAt.del h3 h2) (Kept.of_turned h4)
end
end Go.Proofs.Ytdgmfcnblaamcab
