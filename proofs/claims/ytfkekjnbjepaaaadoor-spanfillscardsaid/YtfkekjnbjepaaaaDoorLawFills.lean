/-
  SpanFills answers true at every number and row of places: of an empty span all objects can be taken, each once, in order; then it is full; given in any order it is empty. The table of package class that the row lists is as its own text lays it (the card ties it to it); the card speaks of the pruned copy of the project that the seat holds.
-/
import Derived.Test.YtfkekjnbjepaaaaDoorSpn4
import Derived.Test.YtfkekjnbjepaaaaDoorLeftI
import Derived.Test.YtfkekjnbjepaaaaDoorTabs
import Derived.Test.YtfkekjnbjepaaaaDoorCards
import Derived.Test.YtfkekjnbjepaaaaDoorTie
import Derived.Deep.DeepHandedRow
import Derived.Lay
namespace Go.Proofs.YtfkekjnbjepaaaaDoor.fills
open Go.ChangeShapes Go.WideShapes Go.ChangeAt Go.RowKit Cl Sp By
/-- The first i are taken. -/
def low (i : Nat) : Nat → Bool := fun j => decide (j < i)
theorem low_up (i : Nat) : up (low i) i true = low (i + 1) := by
  funext j
  unfold up low
  by_cases e : j = i
  · rw [if_pos e]; exact (decide_eq_true (by omega)).symm
  · rw [if_neg e]
    by_cases h : j < i
    · rw [decide_eq_true h, decide_eq_true (by omega)]
    · rw [decide_eq_false h, decide_eq_false (by omega)]
theorem cnt_low (i : Nat) : ∀ n, cnt (low i) n = min i n
  | 0 => by simp [cnt]
  | n + 1 => by
    unfold cnt
    rw [cnt_low i n]
    unfold low
    by_cases h : n < i
    · rw [decide_eq_true h]; simp; omega
    · rw [decide_eq_false h]; simp; omega
theorem cnt_none (u : Nat → Bool) : ∀ n, (∀ j, j < n → u j = false) → cnt u n = 0
  | 0, _ => rfl
  | n + 1, h => by unfold cnt; rw [cnt_none u n (fun j hj => h j (by omega)), h n (by omega)]; rfl
/-- The span, and the list of what is taken of it. -/
structure SF (W w : World) (p tb : Nat) (c sz : Int) (n : Nat) (l : List Nat) (v : Value) : Prop where
  sa : ∃ u, SA w p tb c sz n u ∧ ∀ j, j < n → (u j = true ↔ j ∈ l)
  kept : Kept [] W w
  hp : W.heap.size ≤ p
  ht : W.heap.size ≤ tb
  own : w.ownsRow W.heap.size 3 1 v l.length (l.map ivn)
  np : v.ownBlock ≠ some p
  nt : v.ownBlock ≠ some tb
  nd : l.Nodup
  lt : ∀ x, x ∈ l → x < n
theorem SF.next {W w w' : World} {p tb : Nat} {c sz : Int} {n : Nat} {l : List Nat} {v : Value} (h : SF W w p tb c sz n l v) (k : Kept [] w w') : SF W w' p tb c sz n l v := by
  obtain ⟨⟨u, h1, h2⟩, h3, h4, h5, h6, h7, h8, h9, h10⟩ := h
  exact ⟨⟨u, h1.kept0 k, h2⟩, h3.next k, h4, h5, own_kept h6 k (by simp), h7, h8, h9, h10⟩
theorem SF.give {W w : World} {p tb : Nat} {c sz : Int} {n : Nat} {l : List Nat} {v : Value} (h : SF W w p tb c sz n l v) (hn : 0 < n ∧ n ≤ 8) (x : Nat) (hx : x ∈ l) : Calls Tryd.prog 9 #[.pointer (some ⟨p, 0, none⟩), .int .i64 x] w fun e w' =>
    e = .returned (.int .i64 0) ∧ (∃ u, SA w' p tb c sz n u ∧ ∀ j, j < n → (u j = true ↔ j ∈ l ∧ j ≠ x)) ∧ Kept [] W w' ∧ w'.ownsRow W.heap.size 3 1 v l.length (l.map ivn) := by
  obtain ⟨u, h1, h2⟩ := h.sa
  refine (give_at h1 hn x (h.lt x hx) ((h2 x (h.lt x hx)).2 hx)).mono ?_
  rintro e w' ⟨rfl, hs, hk⟩
  refine ⟨rfl, ⟨_, hs, fun j hj => ?_⟩, h.kept.trans hk (fun y hy hl => by simp at hy; have := h.ht; omega), ?_⟩
  · unfold up
    by_cases e : j = x
    · rw [if_pos e]; simp [e]
    · rw [if_neg e, h2 j hj]; simp [e]
  · refine ⟨h.own.1, ?_⟩
    rcases h.own.2 with hn | ⟨g, cap, cur, rfl, hb, hg, rest⟩
    · exact .inl hn
    · exact .inr ⟨g, cap, cur, rfl, hb, hk.blk hg (fun hm => by simp at hm; exact h.nt (by rw [← hm]; rfl)), rest⟩
theorem SF_lt {l : List Nat} {n y : Nat} (h : y ∈ l) (hl : ∀ x, x ∈ l → x < n) : y < n := hl y h
set_option maxRecDepth 20000 in
set_option maxHeartbeats 8000000 in
theorem walkF (x : Int) {ao : Option Addr} {len cap : Nat} {z : Nat → Int} {w : World} (_hl : len ≤ maxLen) (hO : IsInts .i64 w ao len z) (hT : Tab w) : Calls Tryd.prog 4 #[.int .i64 x, .slice ao len cap] w fun e w' => e = .returned (.bool true) ∧ Kept [] w w' := by
  unfold maxLen at _hl
  obtain ⟨c, hc4, hx⟩ := mod_small x 4 (by decide) (by decide)
  obtain ⟨n, sz, hz⟩ := cz c (by omega)
  have T := hide hT
  have HO := hide hO
  have CZ := hide hz
  have hn := hide hz.pos
  obtain ⟨n1, n2⟩ := hz.pos
  obtain ⟨i3, I3, Z3, S3, B3⟩ := info_int'
  have I := hide I3
  have Z := hide Z3
  have SZ := hide S3
  have B := hide B3
  have hix : ∀ (z0 z1 : Int) (w : World), (Instr.index 42 (.agg #[.int .i64 z0, .int .i64 z1, .int .i64 n]) (.int .i64 2)).run Tryd.prog w = .ok (.int .i64 n) w := fun _ _ _ => by kernel_rfl
  clear hT hO hz I3 Z3 S3 B3
  go_enter Tryd.func4, Tryd.ntmps4
  go_wp2_with fail
  refine (new_ok c CZ.out T.out).mono ?_
  rintro e w1 ⟨p, tb, rfl, hs, hp, ht, hk⟩
  have S := hide hs
  have K := hide hk
  have HP := hide hp
  have HT := hide ht
  have T1 := hide (T.out.kept0 hk)
  clear hs hk hp ht T
  go_wp2_with fail
  refine (rrow_at c ⟨by omega, by have := CZ.out.c4; omega⟩ w1).mono ?_
  rintro e w2 ⟨rfl, hk⟩
  rw [CZ.out.count]
  have S2 := hide (S.out.kept0 hk)
  have K2 := hide (K.out.next hk)
  have T2 := hide (T1.out.kept0 hk)
  generalize tells c 0 = z0
  generalize tells c 1 = z1
  clear hk S K T1
  go_wp2_with fail
  refine (spans_true T2.out).mono ?_
  rintro e w3 ⟨rfl, hk⟩
  have F3 := hide (show SF w w3 p tb c sz n [] (.slice none 0 0) from ⟨⟨_, S2.out.kept0 hk, fun j hj => by simp⟩, K2.out.next hk, HP.out, HT.out, World.ownsRow_nil _ _ _ _, (fun h => by cases h), (fun h => by cases h), List.nodup_nil, fun x hx => by cases hx⟩)
  clear hk S2 K2 T2 HP HT hx
  go_wp2_with fail
  go_loopw [9, 10] (fun lv v wr => ∃ i : Nat, i ≤ n ∧ v = .int .i64 i ∧ SF w wr p tb c sz n (List.range i) lv) (fun _ v _ => n - (intOf v).toNat)
  case atStart => exact ⟨0, Nat.zero_le _, rfl, F3.out⟩
  case round =>
    obtain ⟨i, hi, rfl, hS⟩ := hrel
    have S := hide hS
    clear hS F3
    by_cases hin : i < n
    · have hii : (i : Int) < (n : Int) := by omega
      have hfull : decide (cnt (low (i + 1)) n = n) = ((i : Int) == (n : Int) - 1) := by
        rw [cnt_low]
        by_cases e : i + 1 = n
        · rw [decide_eq_true (by omega)]; symm; simp; omega
        · rw [decide_eq_false (by omega)]; symm; simp; omega
      have HFU := hide hfull
      clear hfull
      obtain ⟨u, hu1, hu2⟩ := S.out.sa
      have hui : ∀ j, j < n → u j = low i j := fun j hj => by
        have := hu2 j hj
        unfold low
        cases e : u j with
        | true => rw [e] at this; exact (decide_eq_true (by simpa using this.1 rfl)).symm
        | false => rw [e] at this; exact (decide_eq_false (fun h => by have := this.2 (by simpa using h); cases this)).symm
      have hu3 : SA wr p tb c sz n (low i) := ⟨hu1.row, hu1.tab.congr (fun j hj => by rw [hui j hj]), hu1.ne⟩
      have U := hide hu3
      have hw1 : IntKind.i64.wrap ((n : Int) - 1) = (n : Int) - 1 := by rw [IntKind.wrap_i64]; omega
      clear hu1 hu2 hui hu3 u
      go_wp2_with fail
      refine (take_at U.out hn.out i hin (decide_eq_false (by omega)) (fun j hj => decide_eq_true hj)).mono ?_
      rintro e w5 ⟨rfl, hs, hk⟩
      rw [low_up] at hs
      have S5 := hide hs
      have K5 := hide (S.out.kept.trans hk (fun x hx hl => by simp at hx; have := S.out.ht; omega))
      have O5 := hide (show w5.ownsRow w.heap.size 3 1 u9 (List.range i).length ((List.range i).map ivn) from by
        refine ⟨S.out.own.1, ?_⟩
        rcases S.out.own.2 with h0 | ⟨g, cap, cur, h0, hb, hg, rest⟩
        · exact .inl h0
        · exact .inr ⟨g, cap, cur, h0, hb, hk.blk hg (fun hm => by simp at hm; exact S.out.nt (by rw [h0, ← hm]; rfl)), rest⟩)
      clear hs hk U
      have HE := hide (show ∀ b : Bool, (b != b) = false from fun b => by simp)
      go_wp2_with fail
      refine (full_any S5.out hn.out).mono ?_
      rintro e w' ⟨rfl, hw⟩
      subst w'
      rw [HFU.out]
      obtain ⟨bb, hbb⟩ : ∃ bb : Bool, ((i : Int) == (n : Int) - 1) = bb := ⟨_, rfl⟩
      rw [hbb]
      have G5 := hide (Kept.refl [] w5)
      have LI := hide (show (List.range i).length = i from List.length_range)
      have NP5 := hide S.out.np
      have NT5 := hide S.out.nt
      have HP5 := hide S.out.hp
      have HT5 := hide S.out.ht
      clear HFU HE S
      go_wp2_with (at_builtin; refine wpList_append_own_at _ rfl _ _ _ rfl w.heap.size 3 i3 (.int .i64 0) 1 8 Tryd.underlying45 I.out Z.out SZ.out B.out rfl (by decide) u9 (List.range i).length ((List.range i).map ivn) rfl (O5.out.alloc _) ⟨_, 0, none⟩ 1 1 [ivn i] rfl rfl (fun j u hj => news_one (w := w5) j u hj) (by simp [ivn, Value.oneCell']) (by rw [LI.out]; unfold maxLen; omega) (by rw [LI.out]; omega) (by have := K5.out.size; simp; omega) ?_)
      intro v' w7 o7 g7 _ b7
      have K7 := Kept.of_grownBy (L := u9.ownBlock.toList) g7 (fun k hk _ => by rw [hk]; simp)
      have K57 : Kept u9.ownBlock.toList w5 w7 := ((Kept.refl u9.ownBlock.toList w5).alloc _).trans K7 (fun _ h _ => h)
      have S7 := hide (show SF w w7 p tb c sz n (List.range (i + 1)) v' from by
        refine ⟨⟨_, S5.out.kept K57 (fun hm => NP5.out (by simpa using hm)) (fun hm => NT5.out (by simpa using hm)), fun j hj => by simp [low]⟩, K5.out.trans K57 (fun y hy hl => by
          have := (O5.out.lt y (by simpa using hy)).1
          omega), HP5.out, HT5.out, ?_, ?_, ?_, List.nodup_range, fun y hy => by have := List.mem_range.1 hy; omega⟩
        · rw [show (List.range (i + 1)).length = i + 1 from List.length_range, List.range_succ, List.map_append]; exact o7
        · intro e
          rcases b7 with h | h
          · exact NP5.out (by rw [← h]; exact e)
          · rw [h] at e
            have := S5.out.row.lt
            simp at e; omega
        · intro e
          rcases b7 with h | h
          · exact NT5.out (by rw [← h]; exact e)
          · rw [h] at e
            have := S5.out.tab.lt
            simp at e; omega)
      clear o7 g7 b7 K7 K57 O5 S5 K5 NP5 NT5 HP5 HT5
      go_wp2
      go_roundw
      case rel => exact ⟨i + 1, by omega, by go_num, S7.out⟩
      case measure => simp [intOf]; omega
    · have hni : ¬ (i : Int) < (n : Int) := by omega
      have hie : i = n := by omega
      subst hie
      have S0 := hide S.out
      clear S
      obtain ⟨u, hu1, hu2⟩ := S0.out.sa
      have U := hide hu1
      have UA := hide (show ∀ j, j < i → u j = true from fun j hj => (hu2 j hj).2 (List.mem_range.2 hj))
      clear hu1 hu2
      go_wp2_with fail
      refine (take_full U.out hn.out UA.out).mono ?_
      rintro e w' ⟨rfl, hw⟩
      subst w'
      clear U UA
      go_wp2_with fail
      go_loopw [9, 15] (fun lv v wr => ∃ (k : Nat) (l : List Nat), v = .int .i64 k ∧ k + l.length ≤ i ∧ SF w wr p tb c sz i l lv) (fun _ v _ => i - (intOf v).toNat)
      case atStart => exact ⟨0, List.range i, rfl, by simp, S0.out⟩
      case round =>
        clear S0
        obtain ⟨k, l, rfl, hkl, hS⟩ := hrel
        have S := hide hS
        clear hS
        by_cases hl0 : l = []
        · subst hl0
          obtain ⟨ao9, cap9, hu⟩ : ∃ ao cap, u9 = .slice ao 0 cap := by
            rcases S.out.own.2 with ⟨h, -⟩ | ⟨g, cap, cur, h, -⟩
            · exact ⟨none, 0, h⟩
            · exact ⟨_, _, h⟩
          subst hu
          obtain ⟨u, hu1, hu2⟩ := S.out.sa
          have hc0 : cnt u i = 0 := cnt_none u i (fun j hj => by
            cases e : u j with
            | false => rfl
            | true => have := (hu2 j hj).1 e; simp at this)
          have U := hide hu1
          have C0 := hide hc0
          have K := hide S.out.kept
          clear hu1 hu2 hc0 S
          go_wp2_with (first
            | (go_at_call 14; refine (empty_any U.out hn.out).mono ?_; rintro e w' ⟨rfl, hw⟩; subst w'; rw [C0.out])
            | (go_at_call 11; refine (used_any U.out hn.out).mono ?_; rintro e w' ⟨rfl, hw⟩; subst w'; rw [C0.out]))
          go_ret
          exact ⟨rfl, K.out⟩
        · have hlen : 0 < l.length := List.length_pos_iff.2 hl0
          clear hl0
          obtain ⟨g, cap9, hu, hgb, hgl⟩ := World.ownsRow.form S.out.own hlen
          subst hu
          obtain ⟨hc1, hc2⟩ := own_cap S.out.own
          unfold maxLen at hc2
          have hli : (0 : Int) < (l.length : Int) := by omega
          have hk2 : ∃ q : Nat, q < l.length ∧ ((k : Int) < len → wrap64 ((IntKind.u64.wrap (z k)).tmod l.length) = q) ∧ (¬ (k : Int) < len → q = 0) := by
            by_cases h : (k : Int) < len
            · obtain ⟨q, h1, h2⟩ := mod_small (z k) l.length (by omega) (by omega)
              exact ⟨q, by omega, fun _ => h2, fun h3 => absurd h h3⟩
            · exact ⟨0, hlen, fun h3 => absurd h3 h, fun _ => rfl⟩
          obtain ⟨q, hq, hqE, hq0⟩ := hk2
          obtain ⟨y, hy⟩ : ∃ y, l.getD q 0 = y := ⟨_, rfl⟩
          obtain ⟨d1, d2, d3, d4⟩ := drop_one S.out.nd hq
          have hcell := own_cell S.out.own hq
          rw [hy] at d2 d3 hcell
          have D1 := hide d1
          have D2 := hide d2
          have D3 := hide d3
          have D4 := hide d4
          have hq1 : (0 : Int) ≤ (q : Int) := by omega
          have hq3 : (q : Int) < (l.length : Int) := by omega
          have hl40 : l.length ≤ 8 := by omega
          clear d1 d2 d3 d4 hy
          have hwk : IntKind.i64.wrap ((q : Int) + 1) = (q : Int) + 1 := by rw [IntKind.wrap_i64]; omega
          have hs1 : ∀ wq, (Instr.slice 45 (.slice (some ⟨g, 0, none⟩) l.length cap9) none (some (.int .i64 (q : Int))) none).run Tryd.prog wq = .ok (.slice (some ⟨g, 0, none⟩) q cap9) wq := fun wq => run_cutS0 Tryd.underlying45 info_int _ _ _ _ q rfl (by omega) wq
          obtain ⟨ad, had, hadE⟩ := cut_at1 g cap9 (q + 1)
          have hs2 : ∀ wq, (Instr.slice 45 (.slice (some ⟨g, 0, none⟩) l.length cap9) (some (.int .i64 ((q : Int) + 1))) none none).run Tryd.prog wq = .ok (.slice (some ad) (l.length - (q + 1)) (cap9 - (q + 1))) wq := fun wq => by
            rw [← had]; exact run_cutS Tryd.underlying45 info_int _ _ _ _ (q + 1) (by omega) (by omega) wq
          have HA := hide hadE
          clear had hadE
          have HCE := hide (show ∀ w' : World, w'.ownsRow w.heap.size 3 1 (.slice (some ⟨g, 0, none⟩) l.length cap9) l.length (l.map ivn) → w'.cell? ⟨g, q, none⟩ = some (.int .i64 (y : Nat)) from fun w' h => by
            have := own_cell h hq
            rw [this]
            rw [own_cell S.out.own hq] at hcell
            exact hcell)
          by_cases hi2 : (k : Int) < len
          · obtain ⟨b, off, rfl, hc, -⟩ := (HO.out.kept S.out.kept) k (by omega)
            have hkk := hqE hi2
            have hk00 : (0 : Int) ≤ (k : Int) := by omega
            clear hqE hq0
            go_wp2_with fail
            refine (S.out.give hn.out y D3.out).mono ?_
            rintro e w5 ⟨rfl, ⟨u5, hs5, hu5⟩, hk5, ho5⟩
            have c5 := HCE.out w5 ho5
            have U5 := hide hs5
            have UE5 := hide hu5
            have K5 := hide hk5
            have O5 := hide ho5
            have HTT := hide (show ∀ F w6, Kept F w5 w6 → True from fun _ _ _ => trivial)
            clear hs5 hu5 hk5 ho5 hcell
            go_wp2_with fail
            refine (give_no U5.out hn.out y (by
              have h1 := UE5.out y (SF_lt D3.out S.out.lt)
              cases e : u5 y with
              | false => rfl
              | true => exact absurd rfl (h1.1 e).2)).mono ?_
            rintro e w' ⟨rfl, hw⟩
            subst w'
            have N4 := hide (show ∀ W, Kept [] w5 W → ∀ j u, ((l.take q).map ivn)[j]? = some u → W.cell? ((⟨g, 0, none⟩ : Addr).add j) = some u from fun W hW j u hu => by
              have hj : j < q := by have := getElem?_lt hu; simp at this; omega
              refine hW.cell (World.ownsRow.cells O5.out rfl j u ?_) (by simp)
              rw [← hu, List.map_take, List.getElem?_take, if_pos hj])
            have N5 := hide (show ∀ W, Kept [] w5 W → ∀ j u, ((l.drop (q + 1)).map ivn)[j]? = some u → W.cell? (ad.add j) = some u from fun W hW j u hu => by
              have hj : j < l.length - (q + 1) := by have := getElem?_lt hu; simpa using this
              rw [HA.out j (by omega)]
              refine hW.cell ?_ (by simp)
              have h2 := World.ownsRow.cells O5.out (g := g) rfl ((q + 1) + j) u (by rw [← hu, List.map_drop, List.getElem?_drop])
              rw [add_plain, Nat.zero_add] at h2
              exact h2)
            have L4 := hide (show ((l.take q).map ivn).length = q * 1 by simp; omega)
            have L5 := hide (show ((l.drop (q + 1)).map ivn).length = (l.length - (q + 1)) * 1 by simp)
            have SPT := hide (show w.heap.size ≤ p ∧ w.heap.size ≤ tb ∧ ∀ x, x ∈ l → x < i from ⟨S.out.hp, S.out.ht, S.out.lt⟩)
            clear c5 HCE S
            go_wp2_with fail
            go_region_law (first
              | (refine step_append_own (by rfl) _ _ _ (by rfl) w5.heap.size 3 i3 (.int .i64 0) 1 8 Tryd.underlying45 I.out Z.out SZ.out B.out rfl (by decide) (.slice (some ⟨w5.heap.size, 0, none⟩) 0 0) 0 [] (by rfl) (World.ownsRow_lit _ #[] 0 (Nat.le_refl _) (by decide) rfl) ⟨g, 0, none⟩ q cap9 ((l.take q).map ivn) (by rfl) L4.out (N4.out _ (by exact ((Kept.refl [] w5).drew.alloc _))) (one_ivn _) (by unfold maxLen; omega) (by omega) (by simp) ?_; intro v1 w7 o7 g7 b7 n7; have K7 := own_grown (World.ownsRow_lit (e := 3) (size := 1) w5.drew #[] 0 (Nat.le_refl _) (by decide) rfl) g7 w5 ((Kept.refl [] w5).drew.alloc _) (Nat.le_refl _))
              | (refine step_append_own (by rfl) _ _ _ (by rfl) w5.heap.size 3 i3 (.int .i64 0) 1 8 Tryd.underlying45 I.out Z.out SZ.out B.out rfl (by decide) v1 (0 + q) ([] ++ (l.take q).map ivn) (by rfl) o7 ad (l.length - (q + 1)) (cap9 - (q + 1)) ((l.drop (q + 1)).map ivn) (by rfl) L5.out (N5.out _ K7) (one_ivn _) (by unfold maxLen; omega) (by omega) K7.size ?_; intro v2 w8 o8 g8 b8 n8))
            have K8 := own_grown o7 g8 w5 K7 (Nat.le_refl _)
            have S8 := hide (show SF w w8 p tb c sz i (l.take q ++ l.drop (q + 1)) v2 from by
              have e1 : (l.take q ++ l.drop (q + 1)).length = 0 + q + (l.length - (q + 1)) := by simp; omega
              have o9 : w8.ownsRow w5.heap.size 3 1 v2 (l.take q ++ l.drop (q + 1)).length ((l.take q ++ l.drop (q + 1)).map ivn) := by
                rw [e1, List.map_append]; exact o8
              refine ⟨⟨u5, U5.out.kept0 K8, fun j hj => ?_⟩, K5.out.next K8, SPT.out.1, SPT.out.2.1, own_base o9 K5.out.size, ?_, ?_, D1.out, fun x hx => SPT.out.2.2 x ((D2.out x).1 hx).1⟩
              · rw [UE5.out j hj]; exact (D2.out j).symm
              · intro e
                have := (o9.lt p e).1
                have := U5.out.row.lt
                omega
              · intro e
                have := (o9.lt tb e).1
                have := U5.out.tab.lt
                omega)
            have D4' := D4.out
            clear o7 g7 b7 n7 o8 g8 b8 n8 K7 K8 U5 UE5 K5 O5 N4 N5 L4 L5 hs1 hs2 SPT D1 D2 D3 HA HTT
            go_wp2
            go_roundw
            case rel => exact ⟨k + 1, l.take q ++ l.drop (q + 1), by go_num, by omega, S8.out⟩
            case measure => simp [intOf]; omega
          · have hkk := hq0 hi2
            subst hkk
            have hs1' : ∀ wq, (Instr.slice 45 (.slice (some ⟨g, 0, none⟩) l.length cap9) none (some (.int .i64 0)) none).run Tryd.prog wq = .ok (.slice (some ⟨g, 0, none⟩) 0 cap9) wq := hs1
            have hs2' : ∀ wq, (Instr.slice 45 (.slice (some ⟨g, 0, none⟩) l.length cap9) (some (.int .i64 1)) none none).run Tryd.prog wq = .ok (.slice (some ad) (l.length - (0 + 1)) (cap9 - (0 + 1))) wq := hs2
            have hw1 : IntKind.i64.wrap 1 = 1 := by decide
            clear hqE hq0 hs1 hs2 hq1 hq3 hwk
            go_wp2_with fail
            refine (S.out.give hn.out y D3.out).mono ?_
            rintro e w5 ⟨rfl, ⟨u5, hs5, hu5⟩, hk5, ho5⟩
            have c5 := HCE.out w5 ho5
            have U5 := hide hs5
            have UE5 := hide hu5
            have K5 := hide hk5
            have O5 := hide ho5
            have HTT := hide (show ∀ F w6, Kept F w5 w6 → True from fun _ _ _ => trivial)
            clear hs5 hu5 hk5 ho5 hcell
            go_wp2_with fail
            refine (give_no U5.out hn.out y (by
              have h1 := UE5.out y (SF_lt D3.out S.out.lt)
              cases e : u5 y with
              | false => rfl
              | true => exact absurd rfl (h1.1 e).2)).mono ?_
            rintro e w' ⟨rfl, hw⟩
            subst w'
            have N4 := hide (show ∀ W, Kept [] w5 W → ∀ j u, ((l.take 0).map ivn)[j]? = some u → W.cell? ((⟨g, 0, none⟩ : Addr).add j) = some u from fun W hW j u hu => by
              have hj : j < 0 := by have := getElem?_lt hu; simp at this
              refine hW.cell (World.ownsRow.cells O5.out rfl j u ?_) (by simp)
              rw [← hu, List.map_take, List.getElem?_take, if_pos hj])
            have N5 := hide (show ∀ W, Kept [] w5 W → ∀ j u, ((l.drop (0 + 1)).map ivn)[j]? = some u → W.cell? (ad.add j) = some u from fun W hW j u hu => by
              have hj : j < l.length - (0 + 1) := by have := getElem?_lt hu; simpa using this
              rw [HA.out j (by omega)]
              refine hW.cell ?_ (by simp)
              have h2 := World.ownsRow.cells O5.out (g := g) rfl ((0 + 1) + j) u (by rw [← hu, List.map_drop, List.getElem?_drop])
              rw [add_plain, Nat.zero_add] at h2
              exact h2)
            have L4 := hide (show ((l.take 0).map ivn).length = 0 * 1 by simp)
            have L5 := hide (show ((l.drop (0 + 1)).map ivn).length = (l.length - (0 + 1)) * 1 by simp)
            have SPT := hide (show w.heap.size ≤ p ∧ w.heap.size ≤ tb ∧ ∀ x, x ∈ l → x < i from ⟨S.out.hp, S.out.ht, S.out.lt⟩)
            clear c5 HCE S
            go_wp2_with fail
            go_region_law (first
              | (refine step_append_own (by rfl) _ _ _ (by rfl) w5.heap.size 3 i3 (.int .i64 0) 1 8 Tryd.underlying45 I.out Z.out SZ.out B.out rfl (by decide) (.slice (some ⟨w5.heap.size, 0, none⟩) 0 0) 0 [] (by rfl) (World.ownsRow_lit _ #[] 0 (Nat.le_refl _) (by decide) rfl) ⟨g, 0, none⟩ 0 cap9 ((l.take 0).map ivn) (by rfl) L4.out (N4.out _ (by exact ((Kept.refl [] w5).drew.alloc _))) (one_ivn _) (by unfold maxLen; omega) (by omega) (by simp) ?_; intro v1 w7 o7 g7 b7 n7; have K7 := own_grown (World.ownsRow_lit (e := 3) (size := 1) w5.drew #[] 0 (Nat.le_refl _) (by decide) rfl) g7 w5 ((Kept.refl [] w5).drew.alloc _) (Nat.le_refl _))
              | (refine step_append_own (by rfl) _ _ _ (by rfl) w5.heap.size 3 i3 (.int .i64 0) 1 8 Tryd.underlying45 I.out Z.out SZ.out B.out rfl (by decide) v1 (0 + 0) ([] ++ (l.take 0).map ivn) (by rfl) o7 ad (l.length - (0 + 1)) (cap9 - (0 + 1)) ((l.drop (0 + 1)).map ivn) (by rfl) L5.out (N5.out _ K7) (one_ivn _) (by unfold maxLen; omega) (by omega) K7.size ?_; intro v2 w8 o8 g8 b8 n8))
            have K8 := own_grown o7 g8 w5 K7 (Nat.le_refl _)
            have S8 := hide (show SF w w8 p tb c sz i (l.take 0 ++ l.drop (0 + 1)) v2 from by
              have e1 : (l.take 0 ++ l.drop (0 + 1)).length = 0 + 0 + (l.length - (0 + 1)) := by simp
              have o9 : w8.ownsRow w5.heap.size 3 1 v2 (l.take 0 ++ l.drop (0 + 1)).length ((l.take 0 ++ l.drop (0 + 1)).map ivn) := by
                rw [e1, List.map_append]; exact o8
              refine ⟨⟨u5, U5.out.kept0 K8, fun j hj => ?_⟩, K5.out.next K8, SPT.out.1, SPT.out.2.1, own_base o9 K5.out.size, ?_, ?_, D1.out, fun x hx => SPT.out.2.2 x ((D2.out x).1 hx).1⟩
              · rw [UE5.out j hj]; exact (D2.out j).symm
              · intro e
                have := (o9.lt p e).1
                have := U5.out.row.lt
                omega
              · intro e
                have := (o9.lt tb e).1
                have := U5.out.tab.lt
                omega)
            have D4' := D4.out
            clear o7 g7 b7 n7 o8 g8 b8 n8 K7 K8 U5 UE5 K5 O5 N4 N5 L4 L5 hs1' hs2' SPT D1 D2 D3 HA HTT
            go_wp2
            go_roundw
            case rel => exact ⟨k + 1, l.take 0 ++ l.drop (0 + 1), by go_num, by omega, S8.out⟩
            case measure => simp [intOf]; omega

theorem own : ownKnob Tryd.prog.godebug = none := by kernel_rfl
theorem laidOut : laidOutB Tryd.prog = true := by kernel_rfl

set_option maxRecDepth 100000 in
theorem contract (H : Type) (enc : TypeId × Value → H) (W : World) (base : Nat) (args : Array Value) (ds gs : List (DataW H)) (before : List MemPlace)
    (hval : ∀ (j : Nat) t v, Tryd.f4.params[j]? = some t → args[j]? = some v → Value.okWide Tryd.prog W .any base t v)
    (hW : DataW.Whole enc Tryd.prog Tryd.f4.params.toList Rows.spanFillsSpec.vars false W args.toList ds gs before) (_hsh : W.ShapedOpen Tryd.prog) (hlaid : laidMetH Tryd.prog Rows.spanFillsRow.laid W) :
    Calls Tryd.prog 4 args W fun e W' => ∃ v, e = .returned v ∧ Rows.spanFillsSpec.post enc Tryd.prog Tryd.f4 false true false false W args v W' := by
  have hW' := hW
  obtain ⟨p, q, hA0, hV, rfl, hfz, hnd⟩ := hW
  have hA : DataW.TrodAll enc Tryd.prog W 0 (fun _ => true) true Tryd.f4.params.toList args.toList ds p := hA0
  have hK := hA
  rw [Tryd.params4] at hA hval
  obtain ⟨v0, vs0, d0, ds0, p0, q0, hargs, rfl, rfl, h0, r0⟩ := trodAll_cons hA
  obtain ⟨v1, vs1, d1, ds1, p1, q1, rfl, rfl, rfl, h1, r1⟩ := trodAll_cons r0
  obtain ⟨rfl, rfl, rfl⟩ := trodAll_nil r1
  obtain rfl : args = #[v0, v1] := by cases args; simp_all
  obtain ⟨rfl, rfl⟩ := trodVars_none hV
  obtain ⟨x, rfl, rfl, rfl, w0⟩ := open_int Tryd.underlying3 (hval 0 3 v0 rfl rfl) h0
  obtain ⟨a1, len1, cap1, zs1, rfl, hl1, hm1, hn1, hT1⟩ := open_list Tryd.underlying45 Tryd.underlying3 (by kernel_rfl) (okWide_slice Tryd.underlying45 (hval 1 45 v1 rfl rfl)) h1
  have hTab : Cl.Tab W := Cl.tab_of_laid hlaid
  clear hA0
  refine (walkF x (Nat.le_trans hl1 hm1) hT1 hTab).mono fun e W' ⟨he, hk⟩ => ?_
  subst he
  exact ⟨_, rfl, _, _, _, [], _, [], hW', trodAll_mk1 (shut_bool Tryd.underlying4 _), trodAll_below laidOut hk.below _ _ _ _ hK (by kernel_rfl), rfl, hk.below.frame _, fun h => by cases h⟩

set_option maxRecDepth 100000 in
theorem laid_met (os : Os) : laidMet Tryd.prog Rows.spanFillsRow.laid ((World.laidAll Tryd.prog os Rows.spanFillsRow.laid).forCall (fun _ _ => 0) ⟨#[], #[.int .i64 0, .slice none 0 0], []⟩).memory :=
  laidMet_laidAll _ (by kernel_rfl) (by kernel_rfl)
set_option maxRecDepth 100000 in
theorem reads (os : Os) {H : Type} (enc : TypeId × Value → H) : ∃ places, DataW.whole enc Tryd.prog ((World.laidAll Tryd.prog os Rows.spanFillsRow.laid).forCall (fun _ _ => 0) ⟨#[], #[.int .i64 0, .slice none 0 0], []⟩).memory Tryd.f4.params.toList Rows.spanFillsSpec.vars false (#[.int .i64 0, .slice none 0 0] : Array Value).toList 8 = some ([.lit (.int .i64 0), .nil], [], places) :=
  ⟨[], by kernel_rfl⟩

set_option maxRecDepth 100000 in
theorem lifted (os : Os) (started : os.Started) (H : Type) (enc : TypeId × Value → H) (F : Stop.Interp) :
    ReturnsInHanded {} Tryd.checked os 4 .any ((OpenSpec.ofChange Rows.spanFillsSpec).preRow enc Tryd.prog Tryd.f4 Rows.spanFillsRow.domain false Rows.spanFillsRow.laid) (((OpenSpec.ofChange Rows.spanFillsSpec).at F).post enc Tryd.prog Tryd.f4 false true false false) := by
  obtain ⟨places, hx⟩ := reads os enc
  refine returnsInHanded_of_row (C := Tryd.checked) (s := OpenSpec.ofChange Rows.spanFillsSpec) own started (by kernel_rfl) Tryd.func4
    (witness_row_at (enc := enc) (C := Tryd.checked) false (World.laidAll Tryd.prog os Rows.spanFillsRow.laid) #[.int .i64 0, .slice none 0 0] (World.laidAll_os _ _ _) (by kernel_rfl) (by kernel_rfl) (by kernel_rfl)
      (OpenSpec.preRow_of_cond 8 hx (by kernel_rfl) (fun k hk => by cases hk) (by kernel_rfl) (laid_met os))) ?_
  intro W base args ds gs before hval hW _ _ _ hlaid hsh _
  exact contract H enc W base args ds gs before hval hW hsh hlaid

theorem said : Rows.SpanFillsSaid :=
  OpenClaim.holds_of_cond 4 Tryd.f4 rfl rfl rfl rfl rfl rfl rfl ⟨rfl, rfl, rfl, rfl, rfl⟩ rfl rfl rfl rfl rfl (by kernel_rfl) Tryd.func4 (by kernel_rfl)
    (of_decide_eq_true (by kernel_rfl)) (by unfold Func.isWrapper; first | (rw [if_pos (by decide +kernel)]; kernel_rfl) | (rw [if_neg (by decide +kernel)]; exact ⟨rfl, rfl⟩))
    (fun os started H enc _ F => by rw [OpenClaim.pre_eq_preRow]; exact lifted os started H enc F)

theorem plain (f : FuncId) (fn : Func) (hf : Tryd.pinned.checked.prog.funcNamed Tryd.f4.name = some f) (hfn : Tryd.pinned.checked.prog.funcs[f]? = some fn) :
    false = Tryd.pinned.checked.prog.looks [] ∧ ∀ (j : Nat) t, fn.params[j]? = some t → Tryd.pinned.checked.prog.wantsStandIn t = false := by
  obtain rfl : f = 4 := Option.some.inj ((show Tryd.prog.funcNamed Tryd.f4.name = some 4 by kernel_rfl).symm.trans hf) |>.symm
  obtain rfl : fn = Tryd.f4 := (Option.some.inj (Tryd.func4.symm.trans hfn)).symm
  refine ⟨by kernel_rfl, fun j t ht => ?_⟩
  rw [Tryd.params4] at ht
  have hm : t = 3 ∨ t = 45 := by have h9 := Array.mem_of_getElem? ht; simp at h9; first | exact h9 | (rcases h9 with h | h | h <;> simp [h])
  rcases hm with rfl | rfl
  · exact (show Tryd.prog.wantsStandIn 3 = false by kernel_rfl)
  · exact (show Tryd.prog.wantsStandIn 45 = false by kernel_rfl)

theorem card : Rows.SpanFillsCardSaid :=
  Claim7.holds_tied_plain_at .later [] _ _ _ _ said (fun _ h => by cases h) (by kernel_rfl) (fun _ h => by cases h) spanFills_row_tie rfl ⟨rfl, rfl⟩ (by kernel_rfl) rfl plain (by kernel_rfl)
end Go.Proofs.YtfkekjnbjepaaaaDoor.fills
