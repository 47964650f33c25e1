
/-
  No statement of the program: rows of bytes, and what string(b) of them is.
-/
import Derived.Test.YtdgmfcnblaamcabHeap3
import Derived.Laws.IdiomStrings
import Derived.Laws.CopyOwn
namespace Go.Proofs.Ytdgmfcnblaamcab
open Go.RowKit

/-- A byte as a value. -/
def bv (x : UInt8) : Value := .int .u8 (x.toNat : Int)
/-- The first n bytes of z. -/
def bl (n : Nat) (z : Nat → UInt8) : List UInt8 := (List.range n).map z
theorem bl_length (n : Nat) (z : Nat → UInt8) : (bl n z).length = n := by simp [bl]
theorem bl_congr {n : Nat} {z y : Nat → UInt8} (h : ∀ i, i < n → z i = y i) : bl n z = bl n y :=
  List.map_congr_left (fun i hi => h i (List.mem_range.1 hi))
/-- Their text. -/
def bt (n : Nat) (z : Nat → UInt8) : ByteArray := ⟨(bl n z).toArray⟩
theorem bt_congr {n : Nat} {z y : Nat → UInt8} (h : ∀ i, i < n → z i = y i) : bt n z = bt n y := by unfold bt; rw [bl_congr h]
/-- Their values. -/
def bvs (n : Nat) (z : Nat → UInt8) : List Value := (List.range n).map (fun i => bv (z i))
theorem bvs_length (n : Nat) (z : Nat → UInt8) : (bvs n z).length = n := by simp [bvs]
theorem bvs_at {n : Nat} {z : Nat → UInt8} {i : Nat} (h : i < n) : (bvs n z)[i]? = some (bv (z i)) := by simp [bvs, h]
theorem bvs_one (n : Nat) (z : Nat → UInt8) : ∀ v ∈ bvs n z, v.oneCell' = true := by
  intro v hv; simp [bvs] at hv; obtain ⟨i, _, rfl⟩ := hv; rfl

/-- n bytes lie at ao. -/
def Bs (w : World) (ao : Option Addr) (n : Nat) (z : Nat → UInt8) : Prop :=
  ∀ i, i < n → ∃ b off, ao = some ⟨b, off, none⟩ ∧ w.cell? ⟨b, off + i, none⟩ = some (bv (z i))
namespace Bs
variable {w w' : World} {ao : Option Addr} {n : Nat} {z : Nat → UInt8} {L : List Nat}
theorem kept (h : Bs w ao n z) (k : Kept L w w') (hL : ∀ a, ao = some a → a.block ∉ L) : Bs w' ao n z := by
  intro i hi
  obtain ⟨b, off, rfl, hc⟩ := h i hi
  exact ⟨b, off, rfl, k.cell hc (hL ⟨b, off, none⟩ rfl)⟩
theorem kept0 (h : Bs w ao n z) (k : Kept [] w w') : Bs w' ao n z := h.kept k (by simp)
theorem take (h : Bs w ao n z) {m : Nat} (hm : m ≤ n) : Bs w ao m z := fun i hi => h i (by omega)
theorem congr (h : Bs w ao n z) {y : Nat → UInt8} (e : ∀ i, i < n → z i = y i) : Bs w ao n y := by
  intro i hi
  rw [← e i hi]; exact h i hi
theorem news (h : Bs w ao n z) : ∀ j u, (bvs n z)[j]? = some u → ∃ ad, ao = some ad ∧ w.cell? (ad.add j) = some u := by
  intro j u hu
  have hj : j < n := by simpa [bvs_length] using getElem?_lt hu
  obtain ⟨b, off, rfl, hc⟩ := h j hj
  refine ⟨_, rfl, ?_⟩
  rw [add_plain, hc, ← hu, bvs_at hj]
theorem of_row {b : Nat} {t : TypeId} {m : Nat} (h : w.rowIs b t m (fun i => bv (z i))) (hn : n ≤ m) : Bs w (some ⟨b, 0, none⟩) n z := by
  intro i hi
  exact ⟨b, 0, rfl, by rw [Nat.zero_add]; exact h.cell (by omega)⟩
theorem of_rowAt {b o : Nat} {t : TypeId} {m : Nat} (h : w.rowIs b t m (fun i => bv (z i))) (hn : o + n ≤ m) : Bs w (some ⟨b, o, none⟩) n (fun i => z (o + i)) := by
  intro i hi
  exact ⟨b, o, rfl, h.cell (by omega)⟩
theorem of_ints {zs : Nat → Int} (h : IsInts .u8 w ao n zs) : Bs w ao n (fun i => UInt8.ofNat (zs i).toNat) := by
  intro i hi
  obtain ⟨b, off, rfl, hc, hw⟩ := h i hi
  refine ⟨b, off, rfl, ?_⟩
  rw [hc]
  have h1 : 0 ≤ zs i ∧ zs i < 256 := by
    simp [Lit.wf, IntKind.min, IntKind.max, IntKind.signed, IntKind.bits] at hw
    omega
  unfold bv
  congr 2
  rw [UInt8.toNat_ofNat']
  omega
theorem of_own {base : Nat} {t : TypeId} {v : Value} (h : w.ownsRow base t 1 v n (bvs n z)) : ∃ ao cap, v = .slice ao n cap ∧ n ≤ maxLen ∧ Bs w ao n z ∧ ∀ a, ao = some a → base ≤ a.block := by
  obtain ⟨ao, cap, rfl, hm, hc⟩ := own_form h
  refine ⟨ao, cap, rfl, hm, fun i hi => ?_, ?_⟩
  · obtain ⟨g, rfl, -, hg⟩ := hc i _ (bvs_at hi)
    exact ⟨g, 0, rfl, by rw [Nat.zero_add]; exact hg⟩
  · rintro a rfl
    rcases h.2 with ⟨hv, _⟩ | ⟨g, cap', cur, hv, hb, _⟩
    · cases hv
    · cases hv; exact hb
end Bs

/-- string(b). -/
theorem run_text {P : Program} {w : World} {src dst e : TypeId} {ao : Option Addr} {n cap : Nat} {z : Nat → UInt8} (hs : P.underlying src = some (.slice e)) (he : P.underlying e = some (.int .u8)) (hd : P.underlying dst = some .string)
    (h : Bs w ao n z) : (convert src dst (.slice ao n cap)).run P w = .ok (.string (bt n z)) w := by
  cases ao with
  | none =>
    have hn : n = 0 := by
      cases n with
      | zero => rfl
      | succ k => obtain ⟨b, off, hx, _⟩ := h 0 (by omega); cases hx
    subst hn
    rw [run_convert_bytes_string w src dst e none 0 cap hs he hd]
    rfl
  | some a =>
    have := run_convert_bytes_back (P := P) w src dst e a cap (bl n z) hs he hd (by
      intro j hj
      rw [bl_length] at hj
      obtain ⟨b, off, hx, hc⟩ := h j hj
      obtain rfl := Option.some.inj hx
      rw [add_plain, hc]
      simp [bl, bv])
    rw [bl_length] at this
    exact this
/-- clear(b), of a slice of bytes that lies in a row. -/
def over (f : Nat → UInt8) (o n : Nat) (z : Nat → UInt8) (j : Nat) : UInt8 := if o ≤ j ∧ j < o + n then z (j - o) else f j
theorem over_in {f z : Nat → UInt8} {o n j : Nat} (h : j < n) : over f o n z (o + j) = z j := by unfold over; rw [if_pos (by omega), Nat.add_sub_cancel_left]
theorem over_out {f z : Nat → UInt8} {o n j : Nat} (h : j < o ∨ o + n ≤ j) : over f o n z j = f j := by unfold over; rw [if_neg (by omega)]
theorem over_none (f z : Nat → UInt8) (o : Nat) : over f o 0 z = f := by funext j; exact over_out (by omega)
/-- A row of which some cells are set anew. -/
theorem row_splice {w : World} {b : Nat} {t : TypeId} {m : Nat} {f z : Nat → UInt8} {o n : Nat} {cur : Array Value} (hn : o + n ≤ m) (hg : w.heap[b]? = some (.cells cur t (0, 0))) (hs : cur.size = m) (hc : ∀ i, i < m → cur[i]? = some (bv (f i))) :
    (w.setRow b (cur.toList.take o ++ (bvs n z ++ cur.toList.drop (o + n))).toArray).rowIs b t m (fun i => bv (over f o n z i)) := by
  refine ⟨_, setRow_heap w b cur _ t (0, 0) hg, ?_, fun i hi => ?_⟩
  · simp [bvs_length]; omega
  · rw [List.getElem?_toArray]
    have hl : (cur.toList.take o).length = o := by simp; omega
    show _ = some (bv (over f o n z i))
    by_cases h1 : i < o
    · rw [List.getElem?_append_left (by omega), List.getElem?_take, if_pos h1, over_out (Or.inl h1)]
      simpa using hc i hi
    · rw [List.getElem?_append_right (by omega), hl]
      by_cases h2 : i < o + n
      · rw [List.getElem?_append_left (by rw [bvs_length]; omega), bvs_at (by omega)]
        unfold over; rw [if_pos (by omega)]
      · rw [List.getElem?_append_right (by rw [bvs_length]; omega), bvs_length, over_out (Or.inr (by omega)), List.getElem?_drop]
        have : o + n + (i - o - n) = i := by omega
        rw [this]
        simpa using hc i hi
theorem kept_setRow {w : World} (g : Nat) (cs : Array Value) : Kept [g] w (w.setRow g cs) :=
  ⟨rfl, rfl, rfl, by simp [World.setRow], fun k _ hn => setRow_other w g k cs (by simpa using hn)⟩
/-- copy(d, s), d in a row of bytes. -/
theorem wpList_copy_bytes {P : Program} {w : World} {ops : Array Oper} {rest : List Oper} {o : Oper} {a : Act} {Q : Exit → Act → World → Prop} (hgd : o.guard = none) (d s : Operand) (t : TypeId)
    (ho : o.op = .call { callee := .builtin .copy, args := #[d, s], argTypes := #[t, t] }) (elem : TypeId) (hu : P.underlying t = some (.slice elem)) (hsz : (P.info? elem).map (·.size) = some 1)
    (dp sp : Option Addr) (dLen dCap sLen sCap : Nat) (hd : a.eval d = .slice dp dLen dCap) (hs : a.eval s = .slice sp sLen sCap)
    (g off m n : Nat) (f z : Nat → UInt8) (hr : w.rowIs g elem m (fun i => bv (f i))) (hn : n = Nat.min sLen dLen) (hdp : 0 < n → dp = some ⟨g, off, none⟩) (hz : Bs w sp n z) (hfit : off + n ≤ m)
    (h : ∀ w', w'.rowIs g elem m (fun i => bv (over f off n z i)) → Kept [g] w w' → wpList P ops Q rest (a.put o.dst (goInt n)) w') :
    wpList P ops Q (o :: rest) a w := by
  by_cases h0 : n = 0
  · subst h0
    refine wpList_copy_nothing hgd d s t t ho elem hu hsz dp sp dLen dCap sLen sCap hd hs hn.symm ?_
    exact h w (by rw [over_none]; exact hr) (Kept.refl _ _)
  · obtain rfl := hdp (by omega)
    obtain ⟨c, hb, hm, hc⟩ := hr
    obtain ⟨b0, off0, rfl, _⟩ := hz 0 (by omega)
    have hl : (bvs n z).length = n := bvs_length n z
    refine wpList_copy_own hgd d s t t ho elem hu hsz g off dLen dCap ⟨b0, off0, none⟩ sLen sCap hd hs c elem hb (bvs n z) (by rw [hl]; exact hn) ?_ (by rw [hl]; omega) (bvs_one n z) ?_
    · intro j v hj
      obtain ⟨ad, h1, h2⟩ := hz.news j v hj
      obtain rfl := Option.some.inj h1
      exact h2
    · rw [hl]
      exact h _ (row_splice (by omega) hb hm hc) (kept_setRow g _)
theorem zero_bvs (n : Nat) : (Builtin.zeroCells (Value.int .u8 0).cells n).toList = bvs n (fun _ => 0) := by
  unfold Builtin.zeroCells bvs bv
  simp [Value.cells, Nat.mod_one]
/-- clear(b), of bytes in a row. -/
theorem wpList_clear_bytes {P : Program} {w : World} {ops : Array Oper} {rest : List Oper} {o : Oper} {a : Act} {Q : Exit → Act → World → Prop} (hgd : o.guard = none) (d : Operand) (t : TypeId)
    (ho : o.op = .call { callee := .builtin .clear, args := #[d], argTypes := #[t] }) (elem : TypeId) (hu : P.underlying t = some (.slice elem)) {by_ : Nat} (hi : (P.info? elem).map (fun i => (i.zero, i.size, i.bytes)) = some (some (.int .u8 0), 1, by_))
    (g off m n cap : Nat) (hd : a.eval d = .slice (some ⟨g, off, none⟩) n cap) (f : Nat → UInt8) (hr : w.rowIs g elem m (fun i => bv (f i))) (hn : 0 < n) (hfit : off + n ≤ m)
    (h : ∀ w', w'.rowIs g elem m (fun i => bv (over f off n (fun _ => 0) i)) → Kept [g] w w' → wpList P ops Q rest (a.put o.dst (.tuple #[])) w') :
    wpList P ops Q (o :: rest) a w := by
  refine wpList_plain hgd fun K hK => ?_
  obtain ⟨c, hb, hm, hc⟩ := hr
  obtain ⟨ti, hti, hz⟩ := Option.map_eq_some_iff.1 hi
  simp only [Prod.mk.injEq] at hz
  have hl : (bvs n (fun _ => 0)).length = n := bvs_length n _
  have hst := run_storeCells_at P g off elem (bvs n (fun _ => 0)) 0 c w hb (by rw [hl]; omega) (bvs_one n _)
  have hrun : (Builtin.clear_ #[t] o.type #[.slice (some ⟨g, off, none⟩) n cap]).run P w = .ok (.tuple #[]) (w.setRow g (c.toList.take off ++ (bvs n (fun _ => 0) ++ c.toList.drop (off + n))).toArray) := by
    cases n with
    | zero => omega
    | succ k =>
      rw [hl] at hst
      simp only [Nat.add_zero, List.append_assoc] at hst
      simp [Builtin.clear_, run_underlying hu, zeroValue, typeInfo, hti, hz.1, zero_bvs, hst]
  unfold Oper.wp
  simp [execOp, ho, resolve, invoke, builtin, hd, hrun, Result.andThen]
  exact hK _ _ (h _ (row_splice (by omega) hb hm hc) (kept_setRow g _))
/-- x[l:] of a slice. -/
theorem run_cut_from {P : Program} {t e : TypeId} (ht : P.underlying t = some (.slice e)) {z : Option Value} {by_ : Nat} (hi : (P.info? e).map (fun i => (i.zero, i.size, i.bytes)) = some (z, 1, by_))
    (a : Option Addr) (len cap : Nat) (k : IntKind) {i : Int} (l : Nat) (ei : i = l) (hl : l ≤ len) (w : World) :
    (Instr.slice t (.slice a len cap) (some (.int k i)) none none).run P w = .ok (.slice (cutA a cap l) (len - l) (cap - l)) w := by
  obtain ⟨ti, hti, hz⟩ := Option.map_eq_some_iff.1 hi
  simp only [Prod.mk.injEq] at hz
  subst ei
  have b1 : (Instr.sliceBounds true len cap (some (.int k (l : Int))) none none).run P w = .ok (l, len, cap) w := by
    simp [Instr.sliceBounds, run_sliceBound, hl]
  simp [Instr.slice, run_underlying ht, b1, sizeOf, typeInfo, hti, hz.2.1, cutA]
theorem own_nil (w : World) (base : Nat) (e : TypeId) : w.ownsRow base e 1 (.slice none 0 0) 0 [] := ⟨rfl, .inl ⟨rfl, rfl⟩⟩
end Go.Proofs.Ytdgmfcnblaamcab
