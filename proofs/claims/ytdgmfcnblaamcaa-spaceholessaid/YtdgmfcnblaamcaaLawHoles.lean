/-
  SpaceHoles answers true at every list of sizes and every number: a run that was given is filled by the first one that fits, from its first page on, and a greater one stands behind all; no condition.
-/
import Derived.Test.YtdgmfcnblaamcaaSpc14
import Derived.Test.YtdgmfcnblaamcaaRows
namespace Go.Proofs.Ytdgmfcnblaamcaa.LH
open Go.ChangeShapes Go.WideShapes Go.ChangeAt Go.RowKit Sc
/-- Where run i begins, of runs side by side from page 1 on. -/
def st (z : Nat → Nat) : Nat → Nat
  | 0 => 1
  | i + 1 => st z i + z i
theorem fst_st (z : Nat → Nat) (j : Nat) : fstAt (st z) z j = st z j := by cases j <;> rfl
theorem st_le {z : Nat → Nat} : ∀ n, (∀ i, i < n → z i ≤ 21) → st z n ≤ 1 + 21 * n
  | 0, _ => Nat.le_refl _
  | n + 1, h => by
    have := st_le n (fun i hi => h i (by omega))
    have := h n (by omega)
    show st z n + z n ≤ _
    omega
theorem side_fit {z : Nat → Nat} {n need : Nat} (h : 1 ≤ need) : Fit n (st z) z need n := ⟨Nat.le_refl _, fun h => absurd h (Nat.lt_irrefl _), fun i hi => by rw [fst_st]; omega⟩
theorem side_more {W w : World} {r : Nat} {B : List Nat} {n : Nat} {z : Nat → Nat} (h : SB W w r B (n + 1) (ins (st z) n (fstAt (st z) z n)) (ins z n (z n))) : SB W w r B (n + 1) (st z) z :=
  ⟨h.sq.congr (fun i hi => by
    rw [fst_st]
    unfold ins
    by_cases h1 : i < n
    · rw [if_pos h1, if_pos h1]; exact ⟨rfl, rfl⟩
    · have e : i = n := by omega
      rw [if_neg h1, if_neg h1, if_pos e, if_pos e, e]; exact ⟨rfl, rfl⟩), h.kept, h.far⟩
theorem hole_fits {z : Nat → Nat} {n k : Nat} (hz : ∀ i, i < n → 2 ≤ z i) (hk : k < n) :
    let q1 := if k = n - 1 then st z k else st z n
    let q2 := if k = n - 1 then st z k + z k + 1 else st z k
    let q3 := if k = n - 1 then q2 + z k - 1 else st z k + z k - 1
    let F1 := del (st z) k
    let C1 := del z k
    let F2 := ins F1 (n - 1) q1
    let C2 := ins C1 (n - 1) (z k + 1)
    Fit (n - 1) F1 C1 (z k + 1) (n - 1) ∧ fstAt F1 C1 (n - 1) = q1 ∧ ∃ k2, Fit n F2 C2 (z k - 1) k2 ∧ fstAt F2 C2 k2 = q2 ∧ ∃ k3, Fit (n + 1) (ins F2 k2 q2) (ins C2 k2 (z k - 1)) 1 k3 ∧ fstAt (ins F2 k2 q2) (ins C2 k2 (z k - 1)) k3 = q3 := by
  intro q1 q2 q3 F1 C1 F2 C2
  have hzk := hz k hk
  have f1 : ∀ i, fstAt F1 C1 i = if i ≤ k then st z i else st z (i + 1) := fun i => by
    show fstAt (del (st z) k) (del z k) i = _
    rw [fstAt_del, fst_st, fst_st]
  have g1 : ∀ i, F1 i = if i < k then st z i else st z (i + 1) := fun i => rfl
  have hq1 : fstAt F1 C1 (n - 1) = q1 := by
    rw [f1]
    show _ = if k = n - 1 then st z k else st z n
    by_cases e : k = n - 1
    · rw [if_pos (by omega), if_pos e, e]
    · rw [if_neg (by omega), if_neg e, show n - 1 + 1 = n by omega]
  have sk : st z (k + 1) = st z k + z k := rfl
  have no1 : ∀ i, ¬ fstAt F1 C1 i + (z k + 1) ≤ F1 i := by
    intro i
    rw [f1, g1]
    by_cases h1 : i < k
    · rw [if_pos (by omega), if_pos h1]; omega
    · rw [if_neg h1]
      by_cases h2 : i ≤ k
      · have e : i = k := by omega
        rw [if_pos h2, e, sk]; omega
      · rw [if_neg h2]; omega
  refine ⟨⟨Nat.le_refl _, fun h => absurd h (Nat.lt_irrefl _), fun i _ => no1 i⟩, hq1, ?_⟩
  have f2 : ∀ i, fstAt F2 C2 i = if i ≤ n - 1 then fstAt F1 C1 i else if i = n - 1 + 1 then q1 + (z k + 1) else fstAt F1 C1 (i - 1) := fun i => fstAt_ins i
  have g2 : ∀ i, F2 i = if i < n - 1 then F1 i else if i = n - 1 then q1 else F1 (i - 1) := fun i => rfl
  by_cases e : k = n - 1
  · have e1 : q1 = st z k := if_pos e
    have e2 : q2 = st z k + z k + 1 := if_pos e
    have e3 : q3 = q2 + z k - 1 := if_pos e
    have fn : fstAt F2 C2 n = q2 := by
      rw [f2, if_neg (by omega), if_pos (by omega), e1, e2]; omega
    have no2 : ∀ i, i < n → ¬ fstAt F2 C2 i + 1 ≤ F2 i := by
      intro i hi
      rw [f2, g2, if_pos (by omega)]
      by_cases h1 : i < n - 1
      · rw [if_pos h1, f1, g1, if_pos (by omega), if_pos (by omega)]; omega
      · have e5 : i = n - 1 := by omega
        rw [if_neg h1, if_pos e5, e5, hq1]; omega
    refine ⟨n, ⟨Nat.le_refl _, fun h => absurd h (Nat.lt_irrefl _), fun i hi => ?_⟩, fn, n + 1, ⟨Nat.le_refl _, fun h => absurd h (Nat.lt_irrefl _), fun i hi => ?_⟩, ?_⟩
    · have := no2 i hi; omega
    · rw [fstAt_ins, if_pos (by omega)]
      unfold ins
      by_cases h1 : i < n
      · rw [if_pos h1]; exact no2 i h1
      · rw [if_neg h1, if_pos (by omega), show i = n by omega, fn]; omega
    · rw [fstAt_ins, if_neg (by omega), if_pos rfl, e3]; omega
  · have e1 : q1 = st z n := if_neg e
    have e2 : q2 = st z k := if_neg e
    have e3 : q3 = st z k + z k - 1 := if_neg e
    have fk : fstAt F2 C2 k = q2 := by rw [f2, if_pos (by omega), f1, if_pos (by omega), e2]
    have no2 : ∀ i, i < k → ¬ fstAt F2 C2 i + 1 ≤ F2 i := by
      intro i hi
      rw [f2, g2, if_pos (by omega), if_pos (by omega), f1, g1, if_pos (by omega), if_pos hi]; omega
    have gk : F2 k = st z k + z k := by rw [g2, if_pos (by omega), g1, if_neg (by omega), sk]
    refine ⟨k, ⟨by omega, fun _ => by rw [fk, gk, e2]; omega, fun i hi => ?_⟩, fk, k + 1, ⟨by omega, fun _ => ?_, fun i hi => ?_⟩, ?_⟩
    · have := no2 i hi; omega
    · rw [fstAt_ins, if_neg (by omega), if_pos rfl]
      unfold ins
      rw [if_neg (by omega), if_neg (by omega), show k + 1 - 1 = k by omega, gk, e2]; omega
    · rw [fstAt_ins, if_pos (by omega)]
      unfold ins
      by_cases h1 : i < k
      · rw [if_pos h1]; exact no2 i h1
      · rw [if_neg h1, if_pos (by omega), show i = k by omega, fk]; omega
    · rw [fstAt_ins, if_neg (by omega), if_pos rfl, e2, e3]; omega
theorem SB.cell {W w w' : World} {r : Nat} {B : List Nat} {n : Nat} {F C : Nat → Nat} (_h : SB W w r B n F C) {p : Addr} {v : Value} (k : Kept B w w') (hp : p.block ∉ B) (hc : w.cell? p = some v) : w'.cell? p = some v := k.cell hc hp
theorem hole_calls {W w : World} {r : Nat} {B : List Nat} {n q g : Nat} {z : Nat → Nat} {v : Value} (h : SB W w r B n (st z) z) (hz : ∀ i, i < n → 2 ≤ z i ∧ z i ≤ 21) (hn : n ≤ 12) (hq : q < n) (hg : g ∉ B) (hc : w.cell? ⟨g, q, none⟩ = some v) (q1 q2 q3 : Nat)
    (e1 : q1 = if q = n - 1 then st z q else st z n) (e2 : q2 = if q = n - 1 then st z q + z q + 1 else st z q) (e3 : q3 = if q = n - 1 then q2 + z q - 1 else st z q + z q - 1) :
    Calls Try.prog 8 #[.pointer (some ⟨r, 0, none⟩), .int .i64 (st z q)] w fun e w1 => e = .returned (.tuple #[.int .i64 (z q), .int .i64 0]) ∧ w1.cell? ⟨g, q, none⟩ = some v ∧ ∀ w1', Kept [] w1 w1' →
      Calls Try.prog 7 #[.pointer (some ⟨r, 0, none⟩), .int .i64 (z q + 1 : Nat)] w1' fun e w2 => e = .returned (.tuple #[.int .i64 q1, .int .i64 0]) ∧ w2.cell? ⟨g, q, none⟩ = some v ∧ ∀ w2', Kept [] w2 w2' →
        Calls Try.prog 7 #[.pointer (some ⟨r, 0, none⟩), .int .i64 (z q - 1 : Nat)] w2' fun e w3 => e = .returned (.tuple #[.int .i64 q2, .int .i64 0]) ∧ w3.cell? ⟨g, q, none⟩ = some v ∧ ∀ w3', Kept [] w3 w3' →
          Calls Try.prog 7 #[.pointer (some ⟨r, 0, none⟩), .int .i64 1] w3' fun e w4 => e = .returned (.tuple #[.int .i64 q3, .int .i64 0]) ∧ w4.cell? ⟨g, q, none⟩ = some v ∧ Kept [] W w4 := by
  obtain ⟨f1, f2, k2, f3, f4, k3, f5, f6⟩ := hole_fits (z := z) (n := n) (k := q) (fun i hi => (hz i hi).1) hq
  have z2 := (hz q hq).1
  have z21 := (hz q hq).2
  have hst := st_le (z := z) q (fun i hi => (hz i (by omega)).2)
  have hsk := st_le (z := z) n (fun i hi => (hz i hi).2)
  have hgl : g < w.heap.size := block_lt_of_cell hc
  rw [← e1] at f2 f3 f4 f5 f6
  rw [← e2] at f4 f5 f6
  rw [← e3] at f6
  have b1 : q1 ≤ 1 + 21 * 12 := by rw [e1]; split <;> omega
  have b2 : q2 ≤ 1 + 21 * 12 + 22 := by rw [e2]; split <;> omega
  have b3 : q3 ≤ 1 + 21 * 12 + 22 + 21 := by rw [e3]; split <;> omega
  refine (h.give hq).mono ?_
  rintro e w1 ⟨rfl, s1, k1⟩
  have c1 := k1.cell (p := ⟨g, q, none⟩) hc hg
  refine ⟨rfl, c1, fun w1' j1 => ?_⟩
  refine ((s1.next j1).take f1 (by omega) (by rw [f2]; omega)).mono ?_
  rintro e w2 ⟨rfl, B2, s2, k2', hb2⟩
  rw [f2] at s2 ⊢
  rw [show n - 1 + 1 = n by omega] at s2
  have g2 : g ∉ B2 := fun hm => by
    rcases hb2 g hm with h1 | h1
    · exact hg h1
    · have := k1.size; have := j1.size; omega
  have c2 := k2'.cell (p := ⟨g, q, none⟩) (j1.cell c1 (by simp)) hg
  refine ⟨rfl, c2, fun w2' j2 => ?_⟩
  refine ((s2.next j2).take f3 (by omega) (by rw [f4]; omega)).mono ?_
  rintro e w3 ⟨rfl, B3, s3, k3', hb3⟩
  rw [f4] at s3 ⊢
  have g3 : g ∉ B3 := fun hm => by
    rcases hb3 g hm with h1 | h1
    · exact g2 h1
    · have hh : g < w2.heap.size := block_lt_of_cell c2
      have := j2.size
      omega
  have c3 := k3'.cell (p := ⟨g, q, none⟩) (j2.cell c2 (by simp)) g2
  refine ⟨rfl, c3, fun w3' j3 => ?_⟩
  have := (s3.next j3).take f5 (by omega) (by rw [f6]; omega)
  rw [f6] at this
  refine this.mono ?_
  rintro e w4 ⟨rfl, B4, s4, k4', -⟩
  exact ⟨rfl, k4'.cell (p := ⟨g, q, none⟩) (j3.cell c3 (by simp)) g3, s4.kept⟩
theorem wrap1 {c : Nat} (hc : c ≤ 19) : wrap64 (2 + (c : Int)) = 2 + (c : Int) := by unfold wrap64; omega
theorem wrap2 {a : Nat} (ha : a ≤ 1 + 21 * 12) : wrap64 ((a : Int) + 2) = (a : Int) + 2 := by unfold wrap64; omega
theorem wrap3 {a c : Nat} (ha : a ≤ 1 + 21 * 12) (hc : c ≤ 19) : wrap64 ((a : Int) + 2 + (c : Int)) = (a : Int) + 2 + (c : Int) := by unfold wrap64; omega
set_option maxRecDepth 20000 in
set_option maxHeartbeats 8000000 in
theorem walk (x : Int) {ao : Option Addr} {len cap : Nat} {zs : Nat → Int} {w : World} (_hl : len ≤ maxLen) (hO : IsInts .i64 w ao len zs) : Calls Try.prog 5 #[.slice ao len cap, .int .i64 x] w fun e w' => e = .returned (.bool true) ∧ Kept [] w w' := by
  unfold maxLen at _hl
  obtain ⟨i3, I3, Z3, S3, B3⟩ : ∃ i, Try.prog.info? 3 = some i ∧ i.zero = some (.int .i64 0) ∧ i.size = 1 ∧ i.bytes = 8 := by
    obtain ⟨ti, hti, hz⟩ := Option.map_eq_some_iff.1 info3
    simp only [Prod.mk.injEq] at hz
    exact ⟨ti, hti, hz.1, hz.2.1, hz.2.2⟩
  have I := hide I3
  have Z := hide Z3
  have S := hide S3
  have B := hide B3
  have HO := hide hO
  obtain ⟨z, hz⟩ : ∃ z : Nat → Nat, ∀ i, 2 ≤ z i ∧ z i ≤ 21 ∧ wrap64 ((IntKind.u64.wrap (zs i)).tmod 20) = ((z i - 2 : Nat) : Int) := by
    refine ⟨fun i => (mod_small (zs i) 20 (by decide) (by decide)).choose + 2, fun i => ?_⟩
    have := (mod_small (zs i) 20 (by decide) (by decide)).choose_spec
    dsimp only
    refine ⟨by omega, by omega, ?_⟩
    exact this.2.trans (by rw [Nat.add_sub_cancel])
  have HZ := hide hz
  obtain ⟨n, hn⟩ : ∃ n, n = min len 12 := ⟨_, rfl⟩
  have hn1 : n ≤ len := by omega
  have hn12 : n ≤ 12 := by omega
  have hmin : min (len : Int) 12 = (n : Int) := by omega
  have hn0 : n = 0 → len = 0 := by omega
  clear I3 Z3 S3 B3 hO hz hn
  go_enter Try.func5, Try.ntmps5
  go_wp2_with fail
  refine (new_ok w).mono ?_
  rintro e w1 ⟨rfl, hw⟩
  have S1 := hide (show SB w w1 w.heap.size [w.heap.size] 0 (st z) z from hw ▸ SB.new w w (Kept.refl _ _) _ _)
  obtain ⟨r, hr⟩ : ∃ r, r = w.heap.size := ⟨_, rfl⟩
  rw [← hr] at S1
  rw [← hr]
  have HR := hide hr
  clear hw hr
  go_wp2_with fail
  refine (spaces_true w1).mono ?_
  rintro e w2 ⟨rfl, hk⟩
  have S2 := hide (S1.out.next hk)
  clear hk S1
  by_cases h0 : n = 0
  · have hl0 := hn0 h0
    subst h0
    go_wp2_with fail
    refine (spaces_true w2).mono ?_
    rintro e w3 ⟨rfl, hk⟩
    have K3 := hide (S2.out.kept.next hk)
    clear hk
    go_wp2_with fail
    go_ret
    exact ⟨rfl, K3.out⟩
  · have hni : ¬ (n : Int) = 0 := by omega
    have hnp : 0 < n := by omega
    clear hn0
    go_wp2_with fail
    rw [show ((n : Int) == 0) = false by simp; omega]
    go_loopw [7, 8, 9] (fun v en i wr => ∃ (k : Nat) (B : List Nat), k ≤ n ∧ i = .int .i64 k ∧ en = .int .i64 (st z k : Nat) ∧ SB w wr r B k (st z) z ∧ wr.ownsRow w.heap.size 3 1 v k ((List.range k).map (fun i => ivn (st z i))) ∧ ∀ b, v.ownBlock = some b → b ∉ B) (fun _ _ i _ => n - (intOf i).toNat)
    case atStart => exact ⟨0, [r], by omega, rfl, rfl, S2.out, World.ownsRow_nil _ _ _ _, fun b h => by cases h⟩
    case round =>
      clear S2
      obtain ⟨k, Bk, hk, rfl, rfl, hS, hO, hA⟩ := hrel
      have SS := hide hS
      have O := hide hO
      have A := hide hA
      have hak := st_le (z := z) k (fun i _ => (HZ.out i).2.1)
      clear hS hO hA
      by_cases hkn : k < n
      · have hki : (k : Int) < (n : Int) := by omega
        have hk0 : ¬ (k : Int) < 0 := by omega
        have hkl : (k : Int) < (len : Int) := by omega
        obtain ⟨bz, oz, rfl, hc, -⟩ := (HO.out.kept SS.out.kept) k (by omega)
        obtain ⟨z2, z21, hzz⟩ := HZ.out k
        obtain ⟨c, hcz⟩ : ∃ c, z k = c + 2 := ⟨z k - 2, by omega⟩
        rw [hcz, Nat.add_sub_cancel] at hzz
        have HZZ := hide hzz
        clear hzz
        have P := hide (SS.out.take (need := z k) (k := k) (side_fit (by omega)) (by omega) (by rw [fst_st]; omega))
        obtain ⟨a, ha⟩ : ∃ a, a = st z k := ⟨_, rfl⟩
        have hs1 : st z (k + 1) = a + (c + 2) := by rw [ha, ← hcz]; rfl
        rw [fst_st, ← ha, hcz, show ((c + 2 : Nat) : Int) = 2 + (c : Int) from by omega] at P
        rw [← ha] at hak
        rw [← ha]
        have HA := hide (And.intro ha hs1)
        have hc9 : c ≤ 19 := by omega
        have HC := hide hcz
        clear ha hs1 hcz z2 z21
        have ha9 : a ≤ 1 + 21 * 12 := by omega
        have hw1 := wrap1 hc9
        have hw2 := wrap2 ha9
        have hw3 := wrap3 ha9 hc9
        have hzz := HZZ.out
        go_wp2_with fail
        clear hw1 hw2 hw3 hzz
        refine P.out.mono ?_
        rintro e w5 ⟨rfl, B5, hs, hk5, hb5⟩
        have hs5 : SB w w5 r B5 (k + 1) (st z) z := side_more (by rw [fst_st, ← HA.out.1, HC.out]; exact hs)
        have S5 := hide hs5
        have O5 := hide (show w5.ownsRow w.heap.size 3 1 u7 k ((List.range k).map (fun i => ivn (st z i))) from by
          refine ⟨O.out.1, ?_⟩
          rcases O.out.2 with h0 | ⟨g, cap, cur, h0, hb, hg, rest⟩
          · exact .inl h0
          · exact .inr ⟨g, cap, cur, h0, hb, hk5.blk hg (fun hm => A.out g (by rw [h0]; rfl) hm), rest⟩)
        have A5 := hide (show ∀ b, u7.ownBlock = some b → b ∉ B5 from fun b hb hm => by
          rcases hb5 b hm with h1 | h1
          · exact A.out b hb h1
          · have := (O.out.lt b hb).2; omega)
        obtain ⟨bz', oz', hao', hc', -⟩ := (HO.out.kept hs5.kept) k (by omega)
        cases hao'
        have HE := hide (show (a : Nat) + (c + 2) = st z (k + 1) from HA.out.2.symm)
        clear hs hk5 hb5 hs5 hc P
        have hl9 : k + 1 ≤ 13 := by omega
        have hl8 := S5.out.kept.size
        have hw1 := wrap1 hc9
        have hw2 := wrap2 ha9
        have hw3 := wrap3 ha9 hc9
        have hzz := HZZ.out
        go_wp2_with (at_builtin; refine wpList_append_own_at _ rfl _ _ _ rfl w.heap.size 3 i3 (.int .i64 0) 1 8 Try.underlying31 I.out Z.out S.out B.out rfl (by decide) u7 k ((List.range k).map (fun i => ivn (st z i))) rfl (O5.out.alloc _) ⟨_, 0, none⟩ 1 1 [ivn a] rfl rfl (fun j u hj => news_one (w := w5) j u hj) (by simp [ivn, Value.oneCell']) (by clear hw1 hw2 hw3 hzz; unfold maxLen; omega) (by clear hw1 hw2 hw3 hzz; omega) (by clear hw1 hw2 hw3 hzz; have := S5.out.kept.size; simp; omega) ?_)
        intro v' w7 o7 g7 _ b7
        clear hw1 hw2 hw3 hzz hl8
        have K57 : Kept u7.ownBlock.toList w5 w7 := ((Kept.refl u7.ownBlock.toList w5).alloc _).trans (Kept.of_grownBy (L := u7.ownBlock.toList) g7 (fun k hk _ => by rw [hk]; simp)) (fun _ h _ => h)
        have K7 := own_grown (O5.out.alloc _) g7 w (S5.out.kept.alloc _) (Nat.le_refl _)
        have S7 := hide (show SB w w7 r B5 (k + 1) (st z) z from ⟨S5.out.sq.kept K57 (fun b hb hm => A5.out b (by simpa using hm) hb), K7, S5.out.far⟩)
        have O7 := hide (show w7.ownsRow w.heap.size 3 1 v' (k + 1) ((List.range (k + 1)).map (fun i => ivn (st z i))) from by
          rw [List.range_succ, List.map_append]
          show w7.ownsRow _ 3 1 v' (k + 1) (_ ++ [ivn (st z k)])
          rw [← HA.out.1]; exact o7)
        have A7 := hide (show ∀ b, v'.ownBlock = some b → b ∉ B5 from fun b hb hm => by
          rcases b7 with h | h
          · exact A5.out b (by rw [← h]; exact hb) hm
          · rw [h] at hb
            have := S5.out.sq.lt b hm
            simp at hb; omega)
        obtain ⟨bz9, oz9, hao', hc7, -⟩ := (HO.out.kept S7.out.kept) k (by omega)
        cases hao'
        clear o7 g7 b7 K57 K7 O5 S5 A5 SS O A hak hc'
        have hw1 := wrap1 hc9
        have hw2 := wrap2 ha9
        have hw3 := wrap3 ha9 hc9
        have hzz := HZZ.out
        go_wp2
        clear hw1 hw2 hw3 hzz
        go_roundw
        case rel =>
          exact ⟨k + 1, B5, by omega, by go_num, by rw [← HE.out]; congr 1; omega, S7.out, O7.out, A7.out⟩
        case measure => simp [intOf]; omega
      · have e : k = n := by omega
        subst e
        have hki : ¬ (k : Int) < (k : Int) := by omega
        obtain ⟨q, hq, hqE⟩ := mod_small x k (by omega) (by omega)
        have HQE := hide hqE
        clear hqE
        have hqk : q < k := by omega
        obtain ⟨ao9, cap9, hu, -, hcl⟩ := own_form O.out
        subst hu
        obtain ⟨g, rfl, hg, hcq⟩ := hcl q (ivn (st z q)) (by simp [hqk])
        unfold ivn at hcq
        have hgB := A.out g rfl
        have hcall := fun q1 q2 q3 e1 e2 e3 => hole_calls SS.out (fun i _ => ⟨(HZ.out i).1, (HZ.out i).2.1⟩) hn12 hqk hgB hcq q1 q2 q3 e1 e2 e3
        have z2 := (HZ.out q).1
        have z21 := (HZ.out q).2.1
        have hst := st_le (z := z) q (fun i _ => (HZ.out i).2.1)
        have hsk := st_le (z := z) k (fun i _ => (HZ.out i).2.1)
        obtain ⟨a, ha⟩ : ∃ a, a = st z q := ⟨_, rfl⟩
        obtain ⟨en, hen⟩ : ∃ a, a = st z k := ⟨_, rfl⟩
        obtain ⟨zz, hzq⟩ : ∃ a, z q = a + 2 := ⟨z q - 2, by omega⟩
        rw [← ha] at hst hcq
        rw [← hen] at hsk
        rw [← hen]
        rw [← ha, ← hen, hzq] at hcall
        rw [hzq] at z2 z21
        have ha9 : a ≤ 1 + 21 * 12 := by omega
        have he9 : en ≤ 1 + 21 * 12 := by omega
        have hz9 : zz ≤ 19 := by omega
        have hkk : ((k : Int) - 1) = ((k - 1 : Nat) : Int) := by omega
        have hq0 : (0 : Int) ≤ (q : Int) := by omega
        have hqi : (q : Int) < (k : Int) := by omega
        have hk9 : k ≤ 12 := hn12
        have hwk : wrap64 ((k : Int) - 1) = (k : Int) - 1 := by unfold wrap64; omega
        have ha0 : (0 : Int) ≤ (a : Int) := by omega
        clear ha hen hzq z2 z21 hst hsk hcl hg hgB A O SS
        have HCA := hide hcall
        have hqk1 := HQE.out
        clear hcall hkk
        go_wp2_with fail
        clear hqk1
        by_cases e : q = k - 1
        · refine (HCA.out a (a + (zz + 2) + 1) (a + (zz + 2) + 1 + (zz + 2) - 1) (by rw [if_pos e]) (by rw [if_pos e]) (by rw [if_pos e])).mono ?_
          rintro e9 w5 ⟨rfl, c5, hP⟩
          have P := hide hP
          have hqe : (k : Int) = (q : Int) + 1 := by omega
          have hwq : wrap64 ((q : Int) + 1 - 1) = (q : Int) := by unfold wrap64; omega
          clear HCA hP e hwk
          go_wp2_with fail
          rw [show (zz : Int) + 2 + 1 = ((zz + 2 + 1 : Nat) : Int) from by omega]
          refine (P.out w5 (Kept.refl _ _)).mono ?_
          rintro e9 w6 ⟨rfl, c6, hP⟩
          have P6 := hide hP
          clear hP P c5
          go_wp2_with fail
          rw [show (zz : Int) + 2 - 1 = ((zz + 2 - 1 : Nat) : Int) from by omega]
          refine (P6.out w6 (Kept.refl _ _)).mono ?_
          rintro e9 w7 ⟨rfl, c7, hP⟩
          have P7 := hide hP
          clear hP P6 c6
          go_wp2_with fail
          refine (P7.out w7 (Kept.refl _ _)).mono ?_
          rintro e9 w8 ⟨rfl, c8, hk⟩
          have K8 := hide hk
          clear hk P7 c7
          go_wp2_with fail
          rw [show ((a : Int) + ((zz : Int) + 2) + 1 + ((zz : Int) + 1) == (a : Int) + ((zz : Int) + 2) + 1 + ((zz : Int) + 2) - 1) = true from beq_iff_eq.2 (by omega)]
          go_ret
          exact ⟨rfl, K8.out⟩
        · refine (HCA.out en a (a + (zz + 2) - 1) (by rw [if_neg e]) (by rw [if_neg e]) (by rw [if_neg e])).mono ?_
          rintro e9 w5 ⟨rfl, c5, hP⟩
          have P := hide hP
          have hqe : ¬ (q : Int) = (k : Int) - 1 := by omega
          clear HCA hP e
          go_wp2_with fail
          rw [show (zz : Int) + 2 + 1 = ((zz + 2 + 1 : Nat) : Int) from by omega]
          refine (P.out w5 (Kept.refl _ _)).mono ?_
          rintro e9 w6 ⟨rfl, c6, hP⟩
          have P6 := hide hP
          clear hP P c5
          go_wp2_with fail
          rw [show (zz : Int) + 2 - 1 = ((zz + 2 - 1 : Nat) : Int) from by omega]
          refine (P6.out w6 (Kept.refl _ _)).mono ?_
          rintro e9 w7 ⟨rfl, c7, hP⟩
          have P7 := hide hP
          clear hP P6 c6
          go_wp2_with fail
          refine (P7.out w7 (Kept.refl _ _)).mono ?_
          rintro e9 w8 ⟨rfl, c8, hk⟩
          have K8 := hide hk
          clear hk P7 c7
          go_wp2_with fail
          rw [show ((a : Int) + ((zz : Int) + 1) == (a : Int) + ((zz : Int) + 2) - 1) = true from beq_iff_eq.2 (by omega)]
          go_ret
          exact ⟨rfl, K8.out⟩

theorem own : ownKnob Try.prog.godebug = none := by kernel_rfl
theorem laidOut : laidOutB Try.prog = true := by kernel_rfl

set_option maxRecDepth 100000 in
theorem lifted (os : Os) (started : os.Started) (H : Type) (enc : TypeId × Value → H) :
    ReturnsInHanded {} Try.checked os 5 .any (Rows.spaceHolesSpec.pre6 enc Try.prog Try.f5 Rows.spaceHolesRow.domain false) (Rows.spaceHolesSpec.post enc Try.prog Try.f5 false true false false) := by
  refine returnsInHanded_of_change (C := Try.checked) own started (by kernel_rfl) Try.func5
    (ChangeSpec.witness6 (enc := enc) (C := Try.checked) false ⟨#[], #[.slice none 0 0, .int .i64 0], []⟩ 8 (by kernel_rfl) (by kernel_rfl) (by kernel_rfl) (by kernel_rfl)) ?_
  intro W base args ds gs before hval0 hW hcnd _
  have hval : ∀ (j : Nat) t v, Try.f5.params[j]? = some t → args[j]? = some v → Value.okWide Try.prog W .any base t v := hval0
  have hW' := hW
  obtain ⟨p, q, hA0, hV, rfl, hfz, hnd⟩ := hW
  have hA : DataW.TrodAll enc Try.prog W 0 (fun _ => true) true Try.f5.params.toList args.toList ds p := hA0
  have hK := hA
  rw [Try.params5] at hA hval
  obtain ⟨v0, vs0, d0, ds0, p0, q0, hargs, rfl, rfl, h0, r0⟩ := trodAll_cons hA
  obtain ⟨v1, vs1, d1, ds1, p1, q1, rfl, rfl, rfl, h1, r1⟩ := trodAll_cons r0
  obtain ⟨rfl, rfl, rfl⟩ := trodAll_nil r1
  obtain rfl : args = #[v0, v1] := by cases args; simp_all
  obtain ⟨rfl, rfl⟩ := trodVars_none hV
  obtain ⟨a0, len0, cap0, zs0, rfl, hl0, hm0, hn0, hT0⟩ := open_list Try.underlying31 Try.underlying3 (by kernel_rfl) (okWide_slice Try.underlying31 (hval 0 31 v0 rfl rfl)) h0
  obtain ⟨x, rfl, rfl, rfl, w1⟩ := open_int Try.underlying3 (hval 1 3 v1 rfl rfl) h1
  clear hA0 hval0
  refine (walk x (Nat.le_trans hl0 hm0) hT0).mono fun e W' ⟨he, hk⟩ => ?_
  subst he
  exact ⟨_, rfl, _, _, _, [], _, [], hW', trodAll_mk1 (shut_bool Try.underlying4 _), trodAll_below laidOut hk.below _ _ _ _ hK (by kernel_rfl), rfl, hk.below.frame _, fun h => by cases h⟩

theorem said : Rows.SpaceHolesSaid :=
  OpenClaim.holds_of_wide 5 Try.f5 rfl rfl rfl rfl rfl rfl rfl ⟨rfl, rfl, rfl, rfl, rfl⟩ rfl rfl rfl rfl rfl (by kernel_rfl) Try.func5 (by kernel_rfl)
    (of_decide_eq_true (by kernel_rfl)) (by unfold Func.isWrapper; first | (rw [if_pos (by decide +kernel)]; kernel_rfl) | (rw [if_neg (by decide +kernel)]; exact ⟨rfl, rfl⟩))
    (fun os started H enc _ => lifted os started H enc)
end Go.Proofs.Ytdgmfcnblaamcaa.LH
