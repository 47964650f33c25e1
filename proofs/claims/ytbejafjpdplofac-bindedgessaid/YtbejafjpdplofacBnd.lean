
/-
  No statement of the program: maps from numbers to policies that a call has made, as functions; package bind's book.
-/
import Derived.Test.YtbejafjpdplofacSides
import Derived.Test.YtbejafjpdplofacPol
import Derived.Deep.RegionLaw
import Derived.Deep.RegionHeld3
namespace Go.Proofs.Ytbejafjpdplofac.Bd
open Go.RowKit Go.Maps Go.WideMaps Go.ChangeShapes Go.WideShapes Go.ChangeAt

/-- A policy, as a datum. -/
def dP (a b c : Int) : DataW Unit := .agg [.lit (.int .i64 a), .lit (.int .u8 b), .lit (.int .i64 c)]
def rP (v : Value) : Option (DataW Unit × List MemPlace) :=
  match v with
  | .agg ⟨[.int .i64 a, .int .u8 b, .int .i64 c]⟩ => some (dP a b c, [])
  | _ => none
theorem rP_mk (a b c : Int) : rP (.agg #[.int .i64 a, .int .u8 b, .int .i64 c]) = some (dP a b c, []) := rfl
theorem rP_inv {v : Value} {z : DataW Unit × List MemPlace} (h : rP v = some z) : ∃ a b c, v = .agg #[.int .i64 a, .int .u8 b, .int .i64 c] ∧ z = (dP a b c, []) := by
  unfold rP at h
  split at h
  · rename_i a b c
    exact ⟨a, b, c, rfl, by cases h; rfl⟩
  · cases h
theorem dP_inj {a b c a' b' c' : Int} (h : dP a b c = dP a' b' c') : a = a' ∧ b = b' ∧ c = c' := by
  unfold dP at h
  injection h with h
  simp at h
  exact h
abbrev T3 := Int × Int × Int
def vP (x : T3) : Value := .agg #[.int .i64 x.1, .int .u8 x.2.1, .int .i64 x.2.2]
def eP (x : T3) : DataW Unit := dP x.1 x.2.1 x.2.2
def Says (D : DataW Unit) (x : Int) (o : Option T3) : Prop := Maps.has D (.int .i64 x) = o.isSome ∧ D.atKey (.int .i64 x) (eP (0, 0, 0)) = eP (o.getD (0, 0, 0))
def MapP (w : World) (b n : Nat) (m : Int → Option T3) : Prop := ∃ D : DataW Unit, w.ownsMap Try.prog 3 rP b n D ∧ ∀ x, okI x → Says D x (m x)
theorem zeroP (w : World) : (zeroValue 47).run Try.prog w = .ok (vP (0, 0, 0)) w := by kernel_rfl
theorem kI : Keyed Try.prog 3 := int_keyed Try.underlying3
theorem keyI {x : Int} (h : okI x) : keyOf Try.prog 3 (.int .i64 x) = some (.int .i64 x) := keyOf_int_mk Try.underlying3 h
namespace MapP
variable {w w' : World} {b n : Nat} {m : Int → Option T3}
theorem lt (h : MapP w b n m) : b < w.heap.size := by obtain ⟨D, h1, _⟩ := h; exact h1.lt
theorem of_block (h : MapP w b n m) (e : w'.heap[b]? = w.heap[b]?) : MapP w' b n m := by
  obtain ⟨D, ⟨es, cl, h1, h2⟩, h3⟩ := h
  exact ⟨D, ⟨es, cl, e.trans h1, h2⟩, h3⟩
theorem kept {L : List Nat} (h : MapP w b n m) (k : Kept L w w') (hb : b ∉ L) : MapP w' b n m := h.of_block (k.block b h.lt hb)
theorem congr (h : MapP w b n m) {m' : Int → Option T3} (e : ∀ x, okI x → m x = m' x) : MapP w b n m' := by
  obtain ⟨D, h1, h2⟩ := h
  exact ⟨D, h1, fun x hx => by rw [← e x hx]; exact h2 x hx⟩
theorem made (w : World) : MapP (w.alloc (.map #[] 0)) w.heap.size 0 (fun _ => none) := ⟨.map [], World.ownsMap_made w Try.prog 3 rP, fun _ _ => ⟨rfl, rfl⟩⟩
theorem put {D : DataW Unit} {k : Int} {v : T3} (h : w.ownsMap Try.prog 3 rP b n (D.put (.int .i64 k) (eP v))) (hD : IsMap D) (h2 : ∀ x, okI x → Says D x (m x)) (hk : okI k) : MapP w b n (mput m k v) := by
  refine ⟨_, h, fun x hx => ?_⟩
  have hl := kI.key (keyI hk)
  by_cases e : x = k
  · subst e
    rw [mput_same]
    exact ⟨has_put_same hD hl _, atKey_put_same hD hl _ _⟩
  · rw [mput_other m k x v e]
    have hne : Lit.int .i64 x ≠ Lit.int .i64 k := fun q => e (by cases q; rfl)
    obtain ⟨a1, a2⟩ := h2 x hx
    exact ⟨by rw [has_put_other hne]; exact a1, by rw [atKey_put_other hne]; exact a2⟩
theorem del {D : DataW Unit} {k : Int} (h : w.ownsMap Try.prog 3 rP b n (D.del (.int .i64 k))) (h2 : ∀ x, okI x → Says D x (m x)) : MapP w b n (mdel m k) := by
  refine ⟨_, h, fun x hx => ?_⟩
  by_cases e : x = k
  · subst e
    rw [mdel_same]
    exact ⟨has_del_same, atKey_del_same _⟩
  · rw [mdel_other m k x e]
    have hne : Lit.int .i64 x ≠ Lit.int .i64 k := fun q => e (by cases q; rfl)
    obtain ⟨a1, a2⟩ := h2 x hx
    exact ⟨by rw [has_del_other hne]; exact a1, by rw [atKey_del_other hne]; exact a2⟩
end MapP
section
variable {w : World} {ops : Array Oper} {rest : List Oper} {o : Oper} {a : Act} {Q : Exit → Act → World → Prop}
/-- v, ok := m[k]. -/
theorem wpList_findP (hg : o.guard = none) (m x : Operand) (t : TypeId) (hop : o.op = Op.lookup t m x true) (ht : Try.prog.underlying t = some (.map 3 47)) (f : Int → Option T3) (b n : Nat)
    (hm : a.eval m = .map (some b)) (hown : MapP w b n f) (k : Int) (hx : a.eval x = .int .i64 k) (hk : okI k) (r : Value) (hr : r = .tuple #[vP ((f k).getD (0, 0, 0)), .bool (f k).isSome])
    (hK : wpList Try.prog ops Q rest (a.put o.dst r) w) :
    wpList Try.prog ops Q (o :: rest) a w := by
  obtain ⟨D, h1, h2⟩ := hown
  obtain ⟨a1, a2⟩ := h2 k hk
  refine wpList_lookup_own_ok w hg m x t hop 3 47 kI ht rP (zeroP w) (eP (0, 0, 0)) [] rfl b n D hm h1 _ _ hx (keyI hk) (fun v ps hv => ?_)
  rw [a2] at hv
  obtain ⟨p1, p2, p3, rfl, hz⟩ := rP_inv hv
  have e := dP_inj (congrArg Prod.fst hz)
  have e2 : Value.agg #[.int .i64 p1, .int .u8 p2, .int .i64 p3] = vP ((f k).getD (0, 0, 0)) := by
    unfold vP
    rw [e.1, e.2.1, e.2.2]
  rw [a1, e2, ← hr]
  exact hK
/-- delete(m, k). -/
theorem wpList_dropP (hg : o.guard = none) (m x : Operand) (t : TypeId) (hop : o.op = Op.call { callee := Callee.builtin Builtin.delete, args := #[m, x], argTypes := #[t, 3] }) (ht : Try.prog.underlying t = some (.map 3 47)) (f : Int → Option T3) (b n : Nat)
    (hm : a.eval m = .map (some b)) (hown : MapP w b n f) (k : Int) (hx : a.eval x = .int .i64 k) (hk : okI k)
    (hK : ∀ w', MapP w' b n (mdel f k) → Kept [b] w w' → wpList Try.prog ops Q rest (a.put o.dst (.tuple #[])) w') :
    wpList Try.prog ops Q (o :: rest) a w := by
  obtain ⟨D, h1, h2⟩ := hown
  refine wpList_delete_own w hg m x t 3 hop 47 kI ht rP b n D hm h1 _ _ hx (keyI hk) (fun w' h3 h4 => ?_)
  exact hK w' (MapP.del h3 h2) (Kept.of_turned h4)
/-- m[k] = v, as a step of a region that draws. -/
theorem step_keepP {K : Act → World → Prop} {E : Prop} (hgd : o.guard = none) (m x v : Operand) (t : TypeId) (hop : o.op = Op.mapUpdate t m x v) (ht : Try.prog.underlying t = some (.map 3 47)) (f : Int → Option T3) (b n : Nat)
    (hm : a.eval m = .map (some b)) (hown : MapP w b n f) (hn : n < maxLen) (k : Int) (hx : a.eval x = .int .i64 k) (hk : okI k) (y : T3) (hy : a.eval v = vP y)
    (h : ∀ w', MapP w' b (n + 1) (mput f k y) → Kept [b] w w' → K (a.put o.dst undef) w') :
    if Region.wanted o (yielded ops a.tmps) = true then Oper.wp Try.prog o a w K Q else E := by
  have hw : Region.wanted o (yielded ops a.tmps) = true := by simp [Region.wanted, hgd]
  rw [if_pos hw]
  obtain ⟨D, h1, h2⟩ := hown
  obtain ⟨w', hrun, r1, r2⟩ := h1.update kI ht hn (keyI hk) (show rP (vP y) = some (eP y, []) from rfl)
  unfold Oper.wp
  simp [execOp, hop, hm, hx, hy, hrun, Result.andThen]
  exact h w' (MapP.put r1 h1.isMap h2 hk) (Kept.of_grownBy r2 (by intro j hj _; cases hj; simp))
end
/-- The book. -/
structure BK (w : World) (p b nd n : Nat) (m : Int → Option T3) : Prop where
  row : w.rowIs p 59 2 (fun i => if i = 0 then .int .i64 nd else .map (some b))
  map : MapP w b n m
  ne : p ≠ b
section
variable {w : World} {p b nd n : Nat} {m : Int → Option T3}
theorem BK.kept {w' : World} {F : List Nat} (h : BK w p b nd n m) (k : Kept F w w') (h1 : p ∉ F) (h2 : b ∉ F) : BK w' p b nd n m := ⟨k.row h.row h1, h.map.kept k h2, h.ne⟩
theorem BK.kept0 {w' : World} (h : BK w p b nd n m) (k : Kept [] w w') : BK w' p b nd n m := h.kept k (by simp) (by simp)
theorem BK.f0 (h : BK w p b nd n m) : w.cell? ⟨p, 0, none⟩ = some (.int .i64 nd) := h.row.cell (i := 0) (by omega)
theorem BK.f1 (h : BK w p b nd n m) : w.cell? ⟨p, 1, none⟩ = some (.map (some b)) := h.row.cell (i := 1) (by omega)
set_option maxHeartbeats 1000000 in
theorem bnew_ok (nd : Nat) (h1 : 1 ≤ nd) (h8 : nd ≤ 8) (w : World) : Calls Try.prog 13 #[.int .i64 nd] w fun e w' => ∃ p b, e = .returned (.tuple #[.pointer (some ⟨p, 0, none⟩), .int .i64 0]) ∧ BK w' p b nd 0 (fun _ => none) ∧ w.heap.size ≤ p ∧ w.heap.size ≤ b ∧ Kept [] w w' := by
  have hB := hide (show BK ((w.alloc (.map #[] 0)).alloc (.cells #[.int .i64 nd, .map (some w.heap.size)] 59)) (w.heap.size + 1) w.heap.size nd 0 (fun _ => none) ∧ Kept [] w ((w.alloc (.map #[] 0)).alloc (.cells #[.int .i64 nd, .map (some w.heap.size)] 59)) from by
    have k1 := (Kept.refl [] w).alloc (.map #[] 0)
    have m1 := MapP.made w
    have sz1 : (w.alloc (.map #[] 0)).heap.size = w.heap.size + 1 := Array.size_push _
    generalize w.alloc (.map #[] 0) = w1 at *
    have k2 := (Kept.refl [] w1).alloc (.cells #[.int .i64 nd, .map (some w.heap.size)] 59)
    have r2 := World.rowIs_alloc w1 #[.int .i64 nd, .map (some w.heap.size)] 59 (fun i => if i = 0 then .int .i64 nd else .map (some w.heap.size)) (by
      intro i hi
      match i, hi with
      | 0, _ => rfl
      | 1, _ => rfl)
    rw [sz1] at r2
    exact ⟨⟨r2, m1.kept k2 (by simp), by omega⟩, k1.next k2⟩)
  have hmm := @run_makeMap Try.prog
  go_enter Try.func13, Try.ntmps13
  go_wp2
  go_ret2
  exact ⟨_, _, rfl, hB.out.1, by omega, by omega, hB.out.2⟩
theorem bmade_ok (h : BK w p b nd n m) : Calls Try.prog 22 #[.pointer (some ⟨p, 0, none⟩)] w fun e w' => e = .returned (.bool true) ∧ w' = w := by
  have f1 := h.f1
  have hnn := fun w => run_neq_map_nil (P := Try.prog) w 57 3 47 (some b) Try.underlying57
  clear h
  go_enter Try.func22, Try.ntmps22
  go_wp2
  go_ret
  exact ⟨rfl, rfl⟩
/-- Are they pages? -/
def pagesB (x y : Int) : Bool := decide (0 ≤ x ∧ 1 ≤ y ∧ y ≤ 4096 - x)
theorem are_ok (x y : Nat) (h1 : 1 ≤ y) (h2 : x + y ≤ 4096) (w : World) : Calls Try.prog 23 #[.int .i64 x, .int .i64 y] w fun e w' => e = .returned (.bool true) ∧ w' = w := by
  have hx : (0 : Int) ≤ (x : Int) := by omega
  have hy : (1 : Int) ≤ (y : Int) := by omega
  have hw : IntKind.i64.wrap (4096 - (x : Int)) = 4096 - (x : Int) := by rw [IntKind.wrap_i64]; omega
  have hz : (y : Int) ≤ 4096 - (x : Int) := by omega
  go_enter Try.func23, Try.ntmps23
  go_wp2
  go_ret
  exact ⟨rfl, rfl⟩
end
end Go.Proofs.Ytbejafjpdplofac.Bd
