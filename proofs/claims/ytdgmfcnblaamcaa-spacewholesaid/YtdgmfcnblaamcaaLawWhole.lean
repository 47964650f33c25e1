/-
  SpaceWhole answers true at every list of sizes and of places: runs of any sizes are apart, each page in one at most; all given, one run may have all pages; no condition.
-/
import Derived.Test.YtdgmfcnblaamcaaSpc15
import Derived.Test.YtdgmfcnblaamcaaRows
namespace Go.Proofs.Ytdgmfcnblaamcaa.LW
open Go.ChangeShapes Go.WideShapes Go.ChangeAt Go.RowKit Sc
/-- Where run i begins, of runs side by side from page 1 on. -/
def st (z : Nat → Nat) : Nat → Nat
  | 0 => 1
  | i + 1 => st z i + z i
theorem fst_st (z : Nat → Nat) (j : Nat) : fstAt (st z) z j = st z j := by cases j <;> rfl
theorem st_le {z : Nat → Nat} (M : Nat) : ∀ n, (∀ i, i < n → z i ≤ M) → st z n ≤ 1 + M * n
  | 0, _ => Nat.le_refl _
  | n + 1, h => by
    have := st_le M n (fun i hi => h i (by omega))
    have := h n (by omega)
    show st z n + z n ≤ _
    rw [Nat.mul_add]
    omega
theorem side_fit {z : Nat → Nat} {n need : Nat} (h : 1 ≤ need) : Fit n (st z) z need n := ⟨Nat.le_refl _, fun h => absurd h (Nat.lt_irrefl _), fun i hi => by rw [fst_st]; omega⟩
theorem side_more {W w : World} {r : Nat} {B : List Nat} {n : Nat} {z : Nat → Nat} (h : SB W w r B (n + 1) (ins (st z) n (fstAt (st z) z n)) (ins z n (z n))) : SB W w r B (n + 1) (st z) z :=
  ⟨h.sq.congr (fun i hi => by
    rw [fst_st]
    unfold ins
    by_cases h1 : i < n
    · rw [if_pos h1, if_pos h1]; exact ⟨rfl, rfl⟩
    · have e : i = n := by omega
      rw [if_neg h1, if_neg h1, if_pos e, if_pos e, e]; exact ⟨rfl, rfl⟩), h.kept, h.far⟩
/-- The runs that were taken, in the order in which they were. -/
def side (z : Nat → Nat) (k : Nat) : List (Nat × Nat) := (List.range k).map (fun i => (st z i, z i))
theorem side_succ (z : Nat → Nat) (k : Nat) : side z (k + 1) = side z k ++ [(st z k, z k)] := by simp [side, List.range_succ]
theorem side_length (z : Nat → Nat) (k : Nat) : (side z k).length = k := by simp [side]
/-- The space, the row 'used' at ub, and the list of what was taken in v. -/
structure WS (W w : World) (r ub : Nat) (B : List Nat) (k : Nat) (z : Nat → Nat) (u : Nat → Bool) (v : Value) (l : List (Nat × Nat)) : Prop where
  sb : SB W w r B k (st z) z
  row : w.rowIs ub 43 4096 (fun i => .bool (u i))
  own : w.ownsRow W.heap.size 41 2 v l.length (flat l)
  ubB : ub ∉ B
  vB : ∀ b, v.ownBlock = some b → b ∉ B
  vu : v.ownBlock ≠ some ub
  hub : W.heap.size ≤ ub
theorem WS.next {W w w' : World} {r ub : Nat} {B : List Nat} {k : Nat} {z : Nat → Nat} {u : Nat → Bool} {v : Value} {l : List (Nat × Nat)} (h : WS W w r ub B k z u v l) (hk : Kept [] w w') : WS W w' r ub B k z u v l :=
  ⟨h.sb.next hk, hk.row h.row (by simp), own_kept h.own hk (by simp), h.ubB, h.vB, h.vu, h.hub⟩
theorem WS.take {W w : World} {r ub : Nat} {B : List Nat} {k : Nat} {z : Nat → Nat} {u : Nat → Bool} {v : Value} {l : List (Nat × Nat)} (h : WS W w r ub B k z u v l) (h1 : 1 ≤ z k) (h2 : st z k + z k ≤ 4096) :
    Calls Try.prog 7 #[.pointer (some ⟨r, 0, none⟩), .int .i64 (z k)] w fun e w' => e = .returned (.tuple #[.int .i64 (st z k : Nat), .int .i64 0]) ∧ ∃ B', WS W w' r ub B' (k + 1) z u v l := by
  refine (h.sb.take (need := z k) (k := k) (side_fit h1) h1 (by rw [fst_st]; exact h2)).mono ?_
  rintro e w' ⟨rfl, B', hs, hk, hb⟩
  rw [fst_st]
  have hub := h.row.lt
  refine ⟨rfl, B', side_more hs, hk.row h.row h.ubB, own_far h.own hk h.vB, fun hm => ?_, fun b hv hm => ?_, h.vu, h.hub⟩
  · rcases hb _ hm with h3 | h3
    · exact h.ubB h3
    · omega
  · rcases hb _ hm with h3 | h3
    · exact h.vB b hv h3
    · have := (h.own.lt b hv).2; omega
theorem WS.cell {W w : World} {r ub : Nat} {B : List Nat} {k p : Nat} {z : Nat → Nat} {v : Value} {l : List (Nat × Nat)} (h : WS W w r ub B k z (fun i => decide (1 ≤ i ∧ i < p)) v l) (ha : 1 ≤ p) (hp : p < 4096) : w.cell? ⟨ub, p, none⟩ = some (.bool false) ∧ w.frozen? ⟨ub, p, none⟩ = false ∧
    WS W (w.setCell ⟨ub, p, none⟩ (.bool true)) r ub B k z (fun i => decide (1 ≤ i ∧ i < p + 1)) v l := by
  have hk : Kept [ub] w (w.setCell ⟨ub, p, none⟩ (.bool true)) := (Kept.refl [ub] w).setCell (p := ⟨ub, p, none⟩) (fun _ => by simp) _
  refine ⟨?_, h.row.frozen p, ⟨h.sb.sq.kept hk (fun b hb hm => h.ubB (by have := List.mem_singleton.1 hm; rw [← this]; exact hb)), h.sb.kept.trans hk (fun x hx hl => by have := List.mem_singleton.1 hx; have := h.hub; omega), h.sb.far⟩, (h.row.set p (.bool true)).congr (fun i hi => ?_), own_far h.own hk (fun g hg hm => h.vu (by rw [hg]; have := List.mem_singleton.1 hm; rw [this])), h.ubB, h.vB, h.vu, h.hub⟩
  · rw [h.row.cell hp]; simp
  · by_cases e : i = p
    · subst e; simp [ha]
    · rw [if_neg e]; congr 1; simp only [decide_eq_decide]; omega
theorem WS.more {W w w3 w4 : World} {r ub : Nat} {B : List Nat} {k : Nat} {z : Nat → Nat} {u : Nat → Bool} {v v' : Value} {l l' : List (Nat × Nat)} (h : WS W w r ub B k z u v l) (hk : Kept [] w w3) (hg : w3.grownBy w4 v.ownBlock) (hb : v'.ownBlock = v.ownBlock ∨ v'.ownBlock = some w3.heap.size) (ho : w4.ownsRow W.heap.size 41 2 v' l'.length (flat l')) : WS W w4 r ub B k z u v' l' := by
  have h3 := h.next hk
  have hk4 : Kept v.ownBlock.toList w3 w4 := Kept.of_grownBy hg (fun k hk _ => by simp [hk])
  have hu3 := h3.row.lt
  refine ⟨⟨h3.sb.sq.kept hk4 (fun b hb hm => h3.vB b (by simpa using hm) hb), own_grown h3.own hg W h3.sb.kept (Nat.le_refl _), h.sb.far⟩, hk4.row h3.row (fun hm => h.vu (by simpa using hm)), ho, h.ubB, fun b hv hm => ?_, fun e => ?_, h.hub⟩
  · rcases hb with e | e
    · exact h.vB b (by rw [← e]; exact hv) hm
    · rw [e] at hv
      have := h3.sb.sq.lt b hm
      have := Option.some.inj hv
      omega
  · rcases hb with e1 | e1
    · exact h.vu (by rw [← e1]; exact e)
    · rw [e1] at e
      have := Option.some.inj e
      omega
theorem wq1 {c : Nat} (hc : c ≤ 59) : wrap64 (1 + (c : Int)) = 1 + (c : Int) := by unfold wrap64; omega
theorem wq2 {a c : Nat} (ha : a ≤ 1 + 60 * 40) (hc : c ≤ 59) : IntKind.i64.wrap ((a : Int) + (1 + (c : Int))) = (a : Int) + (1 + (c : Int)) := by rw [IntKind.wrap_i64]; omega
/-- The space and the list of what is taken of it, in whatever order. -/
structure WG (W w : World) (r : Nat) (B : List Nat) (F C : Nat → Nat) (v : Value) (l : List (Nat × Nat)) : Prop where
  sb : SB W w r B l.length F C
  mem : ∀ p, p ∈ l ↔ ∃ i, i < l.length ∧ p = (F i, C i)
  nd : l.Nodup
  own : w.ownsRow W.heap.size 41 2 v l.length (flat l)
  vB : ∀ b, v.ownBlock = some b → b ∉ B
theorem WS.all {W w : World} {r ub : Nat} {B : List Nat} {k : Nat} {z : Nat → Nat} {u : Nat → Bool} {v : Value} (h : WS W w r ub B k z u v (side z k)) : WG W w r B (st z) z v (side z k) := by
  refine ⟨by rw [side_length]; exact h.sb, fun p => ?_, ?_, h.own, h.vB⟩
  · rw [side_length]
    simp only [side, List.mem_map, List.mem_range]
    exact ⟨fun ⟨i, hi, e⟩ => ⟨i, hi, e.symm⟩, fun ⟨i, hi, e⟩ => ⟨i, hi, e.symm⟩⟩
  · have hn := h.sb.sq.ap.mono
    unfold side
    rw [List.Nodup, List.pairwise_map]
    refine List.Pairwise.imp_of_mem (fun {a b} ha hb (hab : a < b) e => ?_) List.pairwise_lt_range
    have := hn a b hab (by simpa using hb)
    have := congrArg Prod.fst e
    simp at this; omega
/-- One of them is given; the list is left as it is. -/
structure WH (W w : World) (r : Nat) (B : List Nat) (v : Value) (l l' : List (Nat × Nat)) : Prop where
  sb : ∃ F C, SB W w r B l'.length F C ∧ ∀ p, p ∈ l' ↔ ∃ i, i < l'.length ∧ p = (F i, C i)
  nd : l'.Nodup
  own : w.ownsRow W.heap.size 41 2 v l.length (flat l)
theorem WG.give {W w : World} {r : Nat} {B : List Nat} {F C : Nat → Nat} {v : Value} {l : List (Nat × Nat)} (h : WG W w r B F C v l) {k A o : Nat} (hk : k < l.length) (hA : l.getD k (0, 0) = (A, o)) :
    Calls Try.prog 8 #[.pointer (some ⟨r, 0, none⟩), .int .i64 A] w fun e w' => e = .returned (.tuple #[.int .i64 o, .int .i64 0]) ∧ WH W w' r B v l (l.take k ++ l.drop (k + 1)) := by
  obtain ⟨d1, d2, d3, d4, d5⟩ := drop_two h.nd hk
  rw [hA] at d2 d3
  obtain ⟨i, hi, e⟩ := (h.mem _).1 d3
  cases e
  refine (h.sb.give hi).mono ?_
  rintro e w' ⟨rfl, hs, hk2⟩
  have e1 : (l.take k ++ l.drop (k + 1)).length = l.length - 1 := by omega
  have hm := h.sb.sq.ap.mono
  refine ⟨rfl, ⟨_, _, by rw [e1]; exact hs, fun p => ?_⟩, d1, own_far h.own hk2 h.vB⟩
  rw [d2, h.mem, e1]
  unfold del
  constructor
  · rintro ⟨⟨j, hj, rfl⟩, hne⟩
    by_cases hji : j < i
    · exact ⟨j, by omega, by rw [if_pos hji, if_pos hji]⟩
    · have : j ≠ i := fun e => hne (by rw [e])
      exact ⟨j - 1, by omega, by rw [if_neg (by omega), if_neg (by omega), show j - 1 + 1 = j by omega]⟩
  · rintro ⟨j, hj, rfl⟩
    by_cases hji : j < i
    · rw [if_pos hji, if_pos hji]
      refine ⟨⟨j, by omega, rfl⟩, fun e => ?_⟩
      have := hm j i hji hi
      have := congrArg Prod.fst e
      simp at this; omega
    · rw [if_neg hji, if_neg hji]
      refine ⟨⟨j + 1, by omega, rfl⟩, fun e => ?_⟩
      have := hm i (j + 1) (by omega) (by omega)
      have := congrArg Prod.fst e
      simp at this; omega
theorem WH.next {W w w' : World} {r : Nat} {B : List Nat} {v : Value} {l l' : List (Nat × Nat)} (h : WH W w r B v l l') (k : Kept [] w w') : WH W w' r B v l l' := by
  obtain ⟨F, C, h1, h2⟩ := h.sb
  exact ⟨⟨F, C, h1.next k, h2⟩, h.nd, own_kept h.own k (by simp)⟩
theorem WH.swap {W w w6 : World} {r : Nat} {B : List Nat} {v v' : Value} {l l' : List (Nat × Nat)} (h : WH W w r B v l l') (hk : Kept [] w w6) (ho : w6.ownsRow w.heap.size 41 2 v' l'.length (flat l')) : ∃ F C, WG W w6 r B F C v' l' := by
  obtain ⟨F, C, h1, h2⟩ := h.sb
  refine ⟨F, C, h1.next hk, h2, h.nd, own_base ho h1.kept.size, fun b hb hm => ?_⟩
  have := (ho.lt b hb).1
  have := h1.sq.lt b hm
  omega
theorem WG.cells {W w : World} {g cap : Nat} {l : List (Nat × Nat)} (h : w.ownsRow W.heap.size 41 2 (.slice (some ⟨g, 0, none⟩) l.length cap) l.length (flat l)) {k A o : Nat} (hk : k < l.length) (hA : l.getD k (0, 0) = (A, o)) :
    w.cell? ⟨g, k * 2, none⟩ = some (.int .i64 (A : Int)) ∧ w.cell? ⟨g, k * 2 + 1, none⟩ = some (.int .i64 (o : Int)) := by
  obtain ⟨f1, f2⟩ := flat_get l k hk
  rw [hA] at f1 f2
  have h2 := World.ownsRow.cells h (g := g) rfl _ _ f1
  have h3 := World.ownsRow.cells h (g := g) rfl _ _ f2
  rw [add_plain, Nat.zero_add] at h2 h3
  exact ⟨h2, h3⟩
theorem all_back {W w : World} {r : Nat} {B : List Nat} {F C : Nat → Nat} (h : SB W w r B 0 F C) :
    Calls Try.prog 7 #[.pointer (some ⟨r, 0, none⟩), .int .i64 4095] w fun e w1 => e = .returned (.tuple #[.int .i64 1, .int .i64 0]) ∧ ∀ w1', Kept [] w1 w1' →
      Calls Try.prog 7 #[.pointer (some ⟨r, 0, none⟩), .int .i64 1] w1' fun e w2 => e = .returned (.tuple #[.int .i64 0, .int .i64 14]) ∧ Kept [] W w2 ∧ ∀ w2', Kept [] w2 w2' →
        Calls Try.prog 12 #[.pointer (some ⟨r, 0, none⟩)] w2' fun e w3 => e = .returned (.int .i64 0) ∧ Kept [] w2' w3 := by
  refine (h.take (need := 4095) (k := 0) ⟨Nat.le_refl _, fun h => absurd h (by omega), fun i hi => absurd hi (by omega)⟩ (by omega) (show 1 + 4095 ≤ 4096 by omega)).mono ?_
  rintro e w1 ⟨rfl, B1, h1, -, -⟩
  refine ⟨rfl, fun w1' j1 => ?_⟩
  have h2 := h1.next j1
  refine (h2.sq.full (need := 1) (k := 1) ⟨by omega, fun h => absurd h (by omega), fun i hi => ?_⟩ (by omega) (by omega) (show 4096 < 1 + 4095 + 1 by omega)).mono ?_
  · obtain rfl : i = 0 := by omega
    show ¬ 1 + 1 ≤ 1
    omega
  rintro e w2 ⟨rfl, hk⟩
  refine ⟨rfl, h2.kept.next hk, fun w2' j2 => ?_⟩
  have e0 : sumC (ins C 0 4095) (0 + 1) = 4095 := by
    show 0 + ins C 0 4095 0 = 4095
    simp [ins]
  have := ((h2.sq.kept0 hk).kept0 j2).free
  rw [e0] at this
  exact this
set_option maxRecDepth 20000 in
set_option maxHeartbeats 4000000 in
theorem walk {a1 a2 : Option Addr} {len1 cap1 len2 cap2 : Nat} {z1 z2 : Nat → Int} {w : World} (_hl1 : len1 ≤ maxLen) (hl2 : len2 ≤ maxLen) (h1 : IsInts .i64 w a1 len1 z1) (h2 : IsInts .i64 w a2 len2 z2) :
    Calls Try.prog 4 #[.slice a1 len1 cap1, .slice a2 len2 cap2] w fun e w' => e = .returned (.bool true) ∧ Kept [] w w' := by
  unfold maxLen at _hl1 hl2
  have N1 := hide h1
  have N2 := hide h2
  clear h1 h2
  obtain ⟨i2, hi, hz, hs, hb⟩ := hi2e
  have I2 := hide hi
  have Z2 := hide hz
  have S2e := hide hs
  have B2 := hide hb
  clear hi hz hs hb
  obtain ⟨zs, hzs, hz43⟩ := zeroUsed
  have HZS := hide hzs
  clear hzs
  go_enter Try.func4, Try.ntmps4
  go_wp2_with fail
  refine (new_ok w).mono ?_
  rintro e w1 ⟨rfl, hw⟩
  have S1 := hide (show SB w w1 w.heap.size [w.heap.size] 0 (fun _ => 0) (fun _ => 0) from hw ▸ SB.new w w (Kept.refl _ _) _ _)
  clear hw
  go_wp2_with fail
  refine (spaces_true w1).mono ?_
  rintro e w2 ⟨rfl, hk⟩
  have S2 := hide (S1.out.next hk)
  clear hk S1
  obtain ⟨z, hz⟩ : ∃ z : Nat → Nat, ∀ i, 1 ≤ z i ∧ z i ≤ 60 ∧ wrap64 ((IntKind.u64.wrap (z1 i)).tmod 60) = ((z i - 1 : Nat) : Int) := by
    refine ⟨fun i => (mod_small (z1 i) 60 (by decide) (by decide)).choose + 1, fun i => ?_⟩
    have := (mod_small (z1 i) 60 (by decide) (by decide)).choose_spec
    dsimp only
    refine ⟨by omega, by omega, ?_⟩
    exact this.2.trans (by rw [Nat.add_sub_cancel])
  have HZ := hide hz
  clear hz
  obtain ⟨r, hr⟩ : ∃ r, r = w.heap.size := ⟨_, rfl⟩
  rw [← hr] at S2
  rw [← hr]
  have HR := hide hr
  clear hr
  go_wp2_with fail
  have W3 := hide (show WS w (w2.alloc (Obj.cells zs 43)) r w2.heap.size [r] 0 z (fun i => decide (1 ≤ i ∧ i < st z 0)) (.slice none 0 0) (side z 0) from by
    have K := (Kept.refl [] w2).alloc (.cells zs 43)
    have hz2 : zs.size = 4096 := by rw [← Array.length_toList, HZS.out]; simp
    refine ⟨⟨(S2.out.sq.kept0 K).congr (fun i hi => by omega), S2.out.kept.next K, S2.out.far⟩, ⟨zs, Array.getElem?_push_size, hz2, fun i hi => ?_⟩, World.ownsRow_nil _ _ _ _, fun hm => ?_, (fun b h => by cases h), (fun h => by cases h), S2.out.kept.size⟩
    · rw [← Array.getElem?_toList, HZS.out, List.getElem?_replicate, if_pos hi]
      congr 2
      symm
      apply decide_eq_false
      show ¬ (1 ≤ i ∧ i < 1)
      omega
    · have := S2.out.sq.lt _ hm; omega)
  clear S2 HZS hz43
  generalize w2.alloc (Obj.cells zs 43) = w3 at W3 ⊢
  generalize w2.heap.size = ub at W3 ⊢
  go_loopw [7, 8] (fun v i wr => ∃ (k : Nat) (B : List Nat), k ≤ len1 ∧ k ≤ 40 ∧ i = .int .i64 k ∧ WS w wr r ub B k z (fun i => decide (1 ≤ i ∧ i < st z k)) v (side z k)) (fun _ i _ => 40 - (intOf i).toNat)
  case atStart => exact ⟨0, [r], Nat.zero_le _, Nat.zero_le _, rfl, W3.out⟩
  case round =>
    clear W3
    obtain ⟨k, Bk, hk1, hk40, rfl, hS⟩ := hrel
    have S := hide hS
    clear hS
    have hak := st_le (z := z) 60 k (fun i _ => (HZ.out i).2.1)
    by_cases hi : k < len1 ∧ k < 40
    · obtain ⟨bz, oz, rfl, hc, -⟩ := (N1.out.kept S.out.sb.kept) k hi.1
      have hi1 : (k : Int) < len1 := by omega
      have hi2 : (k : Int) < 40 := by omega
      obtain ⟨zk1, zk2, hzz⟩ := HZ.out k
      obtain ⟨c, hcz⟩ : ∃ c, z k = c + 1 := ⟨z k - 1, by clear hzz; omega⟩
      rw [hcz, Nat.add_sub_cancel] at hzz
      have HZZ := hide hzz
      clear hzz
      have P := hide (S.out.take zk1 (by omega))
      obtain ⟨a, ha⟩ : ∃ a, a = st z k := ⟨_, rfl⟩
      have ha9 : a ≤ 1 + 60 * 40 := by omega
      have hs1 : st z (k + 1) = a + (c + 1) := by rw [ha, ← hcz]; rfl
      rw [← ha, hcz, show ((c + 1 : Nat) : Int) = 1 + (c : Int) from by omega] at P
      have ha1 : 1 ≤ a := by
        cases k with
        | zero => rw [ha]; exact Nat.le_refl _
        | succ j => have := S.out.sb.sq.ap.low (j + 1) (Nat.le_refl _); rw [fst_st, ← ha] at this; omega
      have hc9 : c ≤ 59 := by omega
      have HA := hide (And.intro ha (And.intro hs1 hcz))
      have hna : ¬ (a : Int) < 1 := by omega
      have hnl : ¬ (4096 : Int) < (a : Int) + (1 + (c : Int)) := by omega
      have hdl : decide ((4096 : Int) < (a : Int) + (1 + (c : Int))) = false := decide_eq_false hnl
      have hd1 : decide ((a : Int) < 1) = false := decide_eq_false hna
      rw [← ha] at hak
      clear ha hs1 hcz zk1 zk2 S
      have hw1 := wq1 hc9
      have hzz := HZZ.out
      go_wp2_with fail
      clear hw1 hzz
      refine P.out.mono ?_
      rintro e w5 ⟨rfl, B5, hs5⟩
      have S5 := hide hs5
      clear hs5 P hc
      have hw2 := wq2 ha9 hc9
      go_wp2_with fail
      go_loopw [12] (fun v wr => ∃ p : Nat, v = .int .i64 p ∧ a ≤ p ∧ p ≤ a + (1 + c) ∧ WS w wr r ub B5 (k + 1) z (fun i => decide (1 ≤ i ∧ i < p)) u7 (side z k)) (fun v _ => a + (1 + c) - (intOf v).toNat)
      case atStart => exact ⟨a, rfl, Nat.le_refl _, by omega, S5.out⟩
      case round =>
        clear S5
        obtain ⟨p, rfl, hp1, hp2, hS⟩ := hrel
        have S6 := hide hS
        clear hS
        by_cases hp : p < a + (1 + c)
        · obtain ⟨c1, c2, c3⟩ := S6.out.cell (by omega) (by omega)
          have S7 := hide c3
          have hpi : (p : Int) < (a : Int) + (1 + (c : Int)) := by omega
          have hp0 : (0 : Int) ≤ (p : Int) := by omega
          have hpn : (p : Int) < 4096 := by omega
          have Q := hide (c3.sb.sq.of_hit (page := (p : Int)) (i := k) (by omega) (by rw [← HA.out.1]; omega) (by rw [← HA.out.1, HA.out.2.2]; omega))
          rw [← HA.out.1, HA.out.2.2, show ((c + 1 : Nat) : Int) = 1 + (c : Int) from by omega] at Q
          have hne : ∀ x : Int, (x != x) = false := fun x => by simp
          clear c3 S6
          go_wp2_with fail
          refine Q.out.mono ?_
          rintro e w7 ⟨rfl, hk⟩
          have S8 := hide (S7.out.next hk)
          clear hk S7 Q c1 c2
          go_wp2_with fail
          go_roundw
          case rel => exact ⟨p + 1, by go_num, by omega, by omega, S8.out⟩
          case measure => simp [intOf]; omega
        · have hpe : p = a + (c + 1) := by omega
          have hpi : ¬ (p : Int) < (a : Int) + (1 + (c : Int)) := by omega
          have S7 := hide (show WS w wr r ub B5 (k + 1) z (fun i => decide (1 ≤ i ∧ i < st z (k + 1))) u7 (side z k) from by rw [HA.out.2.1, ← hpe]; exact S6.out)
          clear hpe S6
          have hl9 : (side z k).length = k := side_length z k
          have hm1 : (side z k).length + 1 ≤ maxLen := by rw [hl9]; unfold maxLen; omega
          have hm2 : ((side z k).length + 1) * 16 ≤ 140737488355328 := by rw [hl9]; omega
          have hm3 := S7.out.sb.kept.size
          have h1c : ∀ u, u ∈ [iv a, .int .i64 (1 + (c : Int))] → u.oneCell' = true := by
            intro u hu
            rcases List.mem_cons.1 hu with rfl | hu
            · rfl
            · rw [List.mem_singleton.1 hu]; rfl
          clear hl9
          go_wp2_with (at_builtin; refine wpList_append_own_at _ rfl _ _ _ rfl w.heap.size 41 i2 (.agg #[.int .i64 0, .int .i64 0]) 2 16 Try.underlying35 I2.out Z2.out S2e.out B2.out rfl (by decide) u7 (side z k).length (flat (side z k)) rfl (S7.out.own.alloc _) ⟨_, 0, none⟩ 1 1 [iv a, .int .i64 (1 + (c : Int))] rfl rfl news_two h1c hm1 hm2 (by simp; omega) ?_)
          intro v' w7 o7 g7 _ b7
          have S8 := hide (S7.out.more (l' := side z (k + 1)) ((Kept.refl [] wr).alloc _) g7 (by simpa using b7) (by
            rw [side_succ, flat_append, List.length_append, ← HA.out.1, HA.out.2.2]
            show w7.ownsRow _ 41 2 v' ((side z k).length + 1) (flat (side z k) ++ [iv a, iv (c + 1)])
            rw [show iv (c + 1) = .int .i64 (1 + (c : Int)) from by show Value.int .i64 ((c + 1 : Nat) : Int) = _; congr 1; omega]
            exact o7))
          clear o7 g7 b7 S7 hm1 hm2 hm3 h1c
          go_wp2
          go_roundw
          case rel => exact ⟨k + 1, B5, by omega, by omega, by go_num, S8.out⟩
          case measure => simp [intOf]; omega
    · have hnn : ¬ ((k : Int) < len1 ∧ (k : Int) < 40) := by omega
      have W0 := hide (show ∃ B F C, WG w wr r B F C u7 (side z k) from ⟨_, _, _, S.out.all⟩)
      have hl40 : (side z k).length ≤ 40 := by rw [side_length]; exact hk40
      generalize side z k = l at W0 hl40
      clear S N1
      by_cases hil2 : (k : Int) < len1
      all_goals
        first | (have hi40n : ¬ ((k : Int) < 40) := by omega) | skip
        clear hnn
        go_wp2_with fail
        go_loopw [7, 16] (fun c v wr => ∃ (i : Nat) (l : List (Nat × Nat)), v = .int .i64 i ∧ i + l.length ≤ 40 ∧ ∃ B F C, WG w wr r B F C c l) (fun _ v _ => 40 - (intOf v).toNat)
        case atStart => exact ⟨0, l, rfl, by omega, W0.out⟩
        case round =>
          clear W0 hl40 hi hk1 hk40
          obtain ⟨i, l, rfl, hil, B, F, C, hR⟩ := hrel
          have R := hide hR
          clear hR
          cases hl0 : l with
          | nil =>
            subst hl0
            obtain ⟨ao, cap, hu⟩ : ∃ ao cap, u7 = .slice ao 0 cap := by
              rcases R.out.own.2 with ⟨h, -⟩ | ⟨g, cap, cur, h, -⟩
              · exact ⟨none, 0, h⟩
              · exact ⟨_, _, h⟩
            subst hu
            have Q := hide (all_back R.out.sb)
            clear R N2
            go_wp2_with fail
            refine Q.out.mono ?_
            rintro e w8 ⟨rfl, hq⟩
            have Q8 := hide hq
            clear hq Q
            go_wp2_with fail
            refine (Q8.out w8 (Kept.refl _ _)).mono ?_
            rintro e w9 ⟨rfl, hk, hq⟩
            have Q9 := hide hq
            have K9 := hide hk
            clear hq hk Q8
            go_wp2_with fail
            refine (Q9.out w9 (Kept.refl _ _)).mono ?_
            rintro e w10 ⟨rfl, hk⟩
            have K10 := hide (K9.out.next hk)
            clear hk Q9 K9
            go_wp2_with fail
            go_ret
            exact ⟨rfl, K10.out⟩
          | cons y r9 =>
            have hlen : 0 < l.length := by rw [hl0]; simp
            clear hl0
            obtain ⟨g, cap, hu, hgb, hgl⟩ := World.ownsRow.form R.out.own hlen
            subst hu
            have hcap : l.length ≤ cap ∧ cap ≤ maxLen := by
              rcases R.out.own.2 with ⟨h, -⟩ | ⟨g', cap', cur, h, -, -, h1, h2, -⟩
              · cases h
              · cases h; exact ⟨h1, h2⟩
            obtain ⟨hc1, hc2⟩ := hcap
            unfold maxLen at hc2
            have hli : (0 : Int) < (l.length : Int) := by omega
            have hk2 : ∃ k : Nat, k < l.length ∧ Hid ((i : Int) < len2 → wrap64 ((IntKind.u64.wrap (z2 i)).tmod l.length) = k) ∧ (¬ (i : Int) < len2 → k = 0) := by
              by_cases h : (i : Int) < len2
              · obtain ⟨k, h1, h2⟩ := mod_small (z2 i) l.length (by omega) (by omega)
                exact ⟨k, by clear h2; omega, fun _ => h2, fun h3 => absurd h h3⟩
              · exact ⟨0, hlen, fun h3 => absurd h3 h, fun _ => rfl⟩
            obtain ⟨q, hq, HQE, hq0⟩ := hk2
            obtain ⟨A, o, hAo⟩ : ∃ A o, l.getD q (0, 0) = (A, o) := ⟨_, _, rfl⟩
            obtain ⟨c1, c2⟩ := WG.cells (W := w) R.out.own hq hAo
            have P := hide (R.out.give hq hAo)
            have hHA := hide hAo
            have D5 := hide (drop_two R.out.nd hq).2.2.2.2
            have hq1 : (0 : Int) ≤ (q : Int) := by omega
            have hq3 : (q : Int) < (l.length : Int) := by omega
            have hl40 : l.length ≤ 40 := by omega
            have HRK := hide R.out.sb.kept
            clear hAo
            have hwk : IntKind.i64.wrap ((q : Int) + 1) = (q : Int) + 1 := by rw [IntKind.wrap_i64]; omega
            have hs1 : ∀ wq, (Instr.slice 35 (.slice (some ⟨g, 0, none⟩) l.length cap) none (some (.int .i64 (q : Int))) none).run Try.prog wq = .ok (.slice (some ⟨g, 0, none⟩) q cap) wq := fun wq => By.run_cutS0 Try.underlying35 info2 _ _ _ _ q rfl (by omega) wq
            obtain ⟨ad, had, hadE⟩ := cut_at g cap (q + 1) 2
            have hs2 : ∀ wq, (Instr.slice 35 (.slice (some ⟨g, 0, none⟩) l.length cap) (some (.int .i64 ((q : Int) + 1))) none none).run Try.prog wq = .ok (.slice (some ad) (l.length - (q + 1)) (cap - (q + 1))) wq := fun wq => by
              rw [← had]; exact By.run_cutS Try.underlying35 info2 _ _ _ _ (q + 1) (by omega) (by omega) wq
            have HA := hide hadE
            clear had hadE R
            by_cases hi2 : (i : Int) < len2
            · obtain ⟨b, off, rfl, hc, -⟩ := (N2.out.kept HRK.out) i (by omega)
              have hkk := HQE.out hi2
              clear HQE hq0
              go_wp2_with fail
              rw [hkk]
              clear hkk hc
              refine P.out.mono ?_
              rintro e w6 ⟨rfl, hH⟩
              have H6 := hide hH
              obtain ⟨c3, c4⟩ := WG.cells (W := w) hH.own hq hHA.out
              clear hH P c1 c2
              have hoo : ((o : Int) != (o : Int)) = false := by simp
              go_wp2_with fail
              clear c3 c4
              have N4 := hide (show ∀ W, Kept [] w6 W → ∀ j u, (flat (l.take q))[j]? = some u → W.cell? ((⟨g, 0, none⟩ : Addr).add j) = some u from fun W hW j u hu => by
                have hj : j < q * 2 := by have := getElem?_lt hu; rw [flat_length] at this; simp at this; omega
                refine hW.cell (World.ownsRow.cells H6.out.own rfl j u ?_) (by simp)
                rw [← hu, flat_take, List.getElem?_take, if_pos hj])
              have N5 := hide (show ∀ W, Kept [] w6 W → ∀ j u, (flat (l.drop (q + 1)))[j]? = some u → W.cell? (ad.add j) = some u from fun W hW j u hu => by
                have hj : j < (l.length - (q + 1)) * 2 := by have := getElem?_lt hu; rw [flat_length] at this; simpa using this
                rw [HA.out j (by omega)]
                refine hW.cell ?_ (by simp)
                have h2 := World.ownsRow.cells H6.out.own (g := g) rfl ((q + 1) * 2 + j) u (by rw [← hu, flat_drop, List.getElem?_drop])
                rw [add_plain, Nat.zero_add] at h2
                exact h2)
              have L4 := hide (show (flat (l.take q)).length = q * 2 by rw [flat_length, List.length_take]; omega)
              have L5 := hide (show (flat (l.drop (q + 1))).length = (l.length - (q + 1)) * 2 by rw [flat_length, List.length_drop])
              clear HA
              go_wp2_with fail
              go_region_law (first
                | (refine By.step_append_own (by rfl) _ _ _ (by rfl) w6.heap.size 41 i2 (.agg #[.int .i64 0, .int .i64 0]) 2 16 Try.underlying35 I2.out Z2.out S2e.out B2.out rfl (by decide) (.slice (some ⟨w6.heap.size, 0, none⟩) 0 0) 0 [] (by rfl) (World.ownsRow_lit _ #[] 0 (Nat.le_refl _) (by decide) rfl) ⟨g, 0, none⟩ q cap (flat (l.take q)) (by rfl) L4.out (N4.out _ (by exact ((Kept.refl [] w6).drew.alloc _))) (one_flat _) (by unfold maxLen; omega) (by omega) (by simp) ?_; intro v1 w7 o7 g7 b7 n7; have K7 := own_grown (World.ownsRow_lit (e := 41) (size := 2) w6.drew #[] 0 (Nat.le_refl _) (by decide) rfl) g7 w6 ((Kept.refl [] w6).drew.alloc _) (Nat.le_refl _))
                | (refine By.step_append_own (by rfl) _ _ _ (by rfl) w6.heap.size 41 i2 (.agg #[.int .i64 0, .int .i64 0]) 2 16 Try.underlying35 I2.out Z2.out S2e.out B2.out rfl (by decide) v1 (0 + q) ([] ++ flat (l.take q)) (by rfl) o7 ad (l.length - (q + 1)) (cap - (q + 1)) (flat (l.drop (q + 1))) (by rfl) L5.out (N5.out _ K7) (one_flat _) (by unfold maxLen; omega) (by omega) K7.size ?_; intro v2 w8 o8 g8 b8 n8))
              have K8 := own_grown o7 g8 w6 K7 (Nat.le_refl _)
              have R8 := hide (H6.out.swap (l' := l.take q ++ l.drop (q + 1)) K8 (by
                have e1 : (l.take q ++ l.drop (q + 1)).length = 0 + q + (l.length - (q + 1)) := by simp; omega
                rw [e1, flat_append]; exact o8))
              have D5' := D5.out
              clear o7 g7 b7 n7 o8 g8 b8 n8 K7 K8 H6 N4 N5 L4 L5 hs1 hs2
              go_wp2
              go_roundw
              case rel =>
                obtain ⟨F9, C9, h9⟩ := R8.out
                exact ⟨i + 1, l.take q ++ l.drop (q + 1), by go_num, by omega, _, F9, C9, h9⟩
              case measure => simp [intOf]; omega
            · have hkk := hq0 hi2
              subst hkk
              have hs1' : ∀ wq, (Instr.slice 35 (.slice (some ⟨g, 0, none⟩) l.length cap) none (some (.int .i64 0)) none).run Try.prog wq = .ok (.slice (some ⟨g, 0, none⟩) 0 cap) wq := hs1
              have hs2' : ∀ wq, (Instr.slice 35 (.slice (some ⟨g, 0, none⟩) l.length cap) (some (.int .i64 1)) none none).run Try.prog wq = .ok (.slice (some ad) (l.length - (0 + 1)) (cap - (0 + 1))) wq := hs2
              have hw1 : IntKind.i64.wrap 1 = 1 := by decide
              rw [Nat.zero_mul] at c1 c2
              rw [Nat.zero_add] at c2
              clear HQE hq0 hs1 hs2 hq1 hq3 hwk
              go_wp2_with fail
              refine P.out.mono ?_
              rintro e w6 ⟨rfl, hH⟩
              have H6 := hide hH
              obtain ⟨c3, c4⟩ := WG.cells (W := w) hH.own hq hHA.out
              rw [Nat.zero_mul] at c3 c4
              rw [Nat.zero_add] at c4
              clear hH P c1 c2
              have hoo : ((o : Int) != (o : Int)) = false := by simp
              go_wp2_with fail
              clear c3 c4
              have N4 := hide (show ∀ W, Kept [] w6 W → ∀ j u, (flat (l.take 0))[j]? = some u → W.cell? ((⟨g, 0, none⟩ : Addr).add j) = some u from fun W hW j u hu => by
                have hj : j < 0 * 2 := by simp [flat] at hu
                refine hW.cell (World.ownsRow.cells H6.out.own rfl j u ?_) (by simp)
                rw [← hu, flat_take, List.getElem?_take, if_pos hj])
              have N5 := hide (show ∀ W, Kept [] w6 W → ∀ j u, (flat (l.drop (0 + 1)))[j]? = some u → W.cell? (ad.add j) = some u from fun W hW j u hu => by
                have hj : j < (l.length - (0 + 1)) * 2 := by have := getElem?_lt hu; rw [flat_length] at this; simpa using this
                rw [HA.out j (by omega)]
                refine hW.cell ?_ (by simp)
                have h2 := World.ownsRow.cells H6.out.own (g := g) rfl ((0 + 1) * 2 + j) u (by rw [← hu, flat_drop, List.getElem?_drop])
                rw [add_plain, Nat.zero_add] at h2
                exact h2)
              have L4 := hide (show (flat (l.take 0)).length = 0 * 2 by simp [flat])
              have L5 := hide (show (flat (l.drop (0 + 1))).length = (l.length - (0 + 1)) * 2 by rw [flat_length, List.length_drop])
              clear HA
              go_wp2_with fail
              go_region_law (first
                | (refine By.step_append_own (by rfl) _ _ _ (by rfl) w6.heap.size 41 i2 (.agg #[.int .i64 0, .int .i64 0]) 2 16 Try.underlying35 I2.out Z2.out S2e.out B2.out rfl (by decide) (.slice (some ⟨w6.heap.size, 0, none⟩) 0 0) 0 [] (by rfl) (World.ownsRow_lit _ #[] 0 (Nat.le_refl _) (by decide) rfl) ⟨g, 0, none⟩ 0 cap (flat (l.take 0)) (by rfl) L4.out (N4.out _ (by exact ((Kept.refl [] w6).drew.alloc _))) (one_flat _) (by unfold maxLen; omega) (by omega) (by simp) ?_; intro v1 w7 o7 g7 b7 n7; have K7 := own_grown (World.ownsRow_lit (e := 41) (size := 2) w6.drew #[] 0 (Nat.le_refl _) (by decide) rfl) g7 w6 ((Kept.refl [] w6).drew.alloc _) (Nat.le_refl _))
                | (refine By.step_append_own (by rfl) _ _ _ (by rfl) w6.heap.size 41 i2 (.agg #[.int .i64 0, .int .i64 0]) 2 16 Try.underlying35 I2.out Z2.out S2e.out B2.out rfl (by decide) v1 (0 + 0) ([] ++ flat (l.take 0)) (by rfl) o7 ad (l.length - (0 + 1)) (cap - (0 + 1)) (flat (l.drop (0 + 1))) (by rfl) L5.out (N5.out _ K7) (one_flat _) (by unfold maxLen; omega) (by omega) K7.size ?_; intro v2 w8 o8 g8 b8 n8))
              have K8 := own_grown o7 g8 w6 K7 (Nat.le_refl _)
              have R8 := hide (H6.out.swap (l' := l.take 0 ++ l.drop (0 + 1)) K8 (by
                have e1 : (l.take 0 ++ l.drop (0 + 1)).length = 0 + 0 + (l.length - (0 + 1)) := by simp
                rw [e1, flat_append]; exact o8))
              have D5' := D5.out
              clear o7 g7 b7 n7 o8 g8 b8 n8 K7 K8 H6 N4 N5 L4 L5 hs1' hs2'
              go_wp2
              go_roundw
              case rel =>
                obtain ⟨F9, C9, h9⟩ := R8.out
                exact ⟨i + 1, l.take 0 ++ l.drop (0 + 1), by go_num, by omega, _, F9, C9, h9⟩
              case measure => simp [intOf]; omega

theorem own : ownKnob Try.prog.godebug = none := by kernel_rfl
theorem laidOut : laidOutB Try.prog = true := by kernel_rfl

set_option maxRecDepth 100000 in
theorem lifted (os : Os) (started : os.Started) (H : Type) (enc : TypeId × Value → H) :
    ReturnsInHanded {} Try.checked os 4 .any (Rows.spaceWholeSpec.pre6 enc Try.prog Try.f4 Rows.spaceWholeRow.domain false) (Rows.spaceWholeSpec.post enc Try.prog Try.f4 false true false false) := by
  refine returnsInHanded_of_change (C := Try.checked) own started (by kernel_rfl) Try.func4
    (ChangeSpec.witness6 (enc := enc) (C := Try.checked) false ⟨#[], #[.slice none 0 0, .slice none 0 0], []⟩ 8 (by kernel_rfl) (by kernel_rfl) (by kernel_rfl) (by kernel_rfl)) ?_
  intro W base args ds gs before hval0 hW hcnd _
  have hval : ∀ (j : Nat) t v, Try.f4.params[j]? = some t → args[j]? = some v → Value.okWide Try.prog W .any base t v := hval0
  have hW' := hW
  obtain ⟨p, q, hA0, hV, rfl, hfz, hnd⟩ := hW
  have hA : DataW.TrodAll enc Try.prog W 0 (fun _ => true) true Try.f4.params.toList args.toList ds p := hA0
  have hK := hA
  rw [Try.params4] at hA hval
  obtain ⟨v0, vs0, d0, ds0, p0, q0, hargs, rfl, rfl, h0, r0⟩ := trodAll_cons hA
  obtain ⟨v1, vs1, d1, ds1, p1, q1, rfl, rfl, rfl, h1, r1⟩ := trodAll_cons r0
  obtain ⟨rfl, rfl, rfl⟩ := trodAll_nil r1
  obtain rfl : args = #[v0, v1] := by cases args; simp_all
  obtain ⟨rfl, rfl⟩ := trodVars_none hV
  obtain ⟨a0, len0, cap0, zs0, rfl, hl0, hm0, hn0, hT0⟩ := open_list Try.underlying31 Try.underlying3 (by kernel_rfl) (okWide_slice Try.underlying31 (hval 0 31 v0 rfl rfl)) h0
  obtain ⟨a1, len1, cap1, zs1, rfl, hl1, hm1, hn1, hT1⟩ := open_list Try.underlying31 Try.underlying3 (by kernel_rfl) (okWide_slice Try.underlying31 (hval 1 31 v1 rfl rfl)) h1
  clear hA0 hval0
  refine (walk (Nat.le_trans hl0 hm0) (Nat.le_trans hl1 hm1) hT0 hT1).mono fun e W' ⟨he, hk⟩ => ?_
  subst he
  exact ⟨_, rfl, _, _, _, [], _, [], hW', trodAll_mk1 (shut_bool Try.underlying4 _), trodAll_below laidOut hk.below _ _ _ _ hK (by kernel_rfl), rfl, hk.below.frame _, fun h => by cases h⟩

theorem said : Rows.SpaceWholeSaid :=
  OpenClaim.holds_of_wide 4 Try.f4 rfl rfl rfl rfl rfl rfl rfl ⟨rfl, rfl, rfl, rfl, rfl⟩ rfl rfl rfl rfl rfl (by kernel_rfl) Try.func4 (by kernel_rfl)
    (of_decide_eq_true (by kernel_rfl)) (by unfold Func.isWrapper; first | (rw [if_pos (by decide +kernel)]; kernel_rfl) | (rw [if_neg (by decide +kernel)]; exact ⟨rfl, rfl⟩))
    (fun os started H enc _ => lifted os started H enc)
end Go.Proofs.Ytdgmfcnblaamcaa.LW
