
/-
  No statement of the program: lists of numbers in rows of their own, and what slices.BinarySearch, Insert and Delete do to them, over this seat's translation.
-/
import Derived.Test.YtpljldjdemobbaaDoorHeap3
import Derived.Test.YtpljldjdemobbaaDoorDya
import Derived.Test.YtpljldjdemobbaaDoorShelf
import Derived.Test.YtpljldjdemobbaaDoorIns
namespace Go.Proofs.YtpljldjdemobbaaDoor.By
open Go.RowKit

def iv (x : Nat) : Value := .int .i64 x
/-- v is the list l, in a row of its own (or nil). -/
def NL (w : World) (v : Value) (l : List Nat) : Prop :=
  (v = .slice none 0 0 ∧ l = []) ∨ ∃ b cap f, v = .slice (some ⟨b, 0, none⟩) l.length cap ∧ w.rowIs b 3 cap f ∧ l.length ≤ cap ∧ cap ≤ maxLen ∧ ∀ i, i < l.length → f i = iv (l.getD i 0)

theorem NL.of_block {w w' : World} {v : Value} {l : List Nat} (h : NL w v l) (e : ∀ k, v.ownBlock = some k → w'.heap[k]? = w.heap[k]?) : NL w' v l := by
  rcases h with h | ⟨b, cap, f, rfl, hr, h1, h2, h3⟩
  · exact .inl h
  · exact .inr ⟨b, cap, f, rfl, hr.of_block (e b rfl), h1, h2, h3⟩
theorem NL.kept {w w' : World} {v : Value} {l : List Nat} {F : List Nat} (h : NL w v l) (k : Kept F w w') (hF : ∀ b, v.ownBlock = some b → b ∉ F) : NL w' v l := by
  refine h.of_block fun b hb => k.block b ?_ (hF b hb)
  rcases h with ⟨rfl, -⟩ | ⟨b', cap, f, rfl, hr, h1, h2, h3⟩
  · cases hb
  · cases hb; exact hr.lt
theorem NL.lt {w : World} {v : Value} {l : List Nat} (h : NL w v l) {b : Nat} (hb : v.ownBlock = some b) : b < w.heap.size := by
  rcases h with ⟨rfl, -⟩ | ⟨b', cap, f, rfl, hr, h1, h2, h3⟩
  · cases hb
  · cases hb; exact hr.lt
theorem NL.slice {w : World} {v : Value} {l : List Nat} (h : NL w v l) : ∃ ao cap, v = .slice ao l.length cap ∧ (∀ i, i < l.length → ∃ b, ao = some ⟨b, 0, none⟩ ∧ w.cell? ⟨b, i, none⟩ = some (iv (l.getD i 0))) := by
  rcases h with ⟨rfl, rfl⟩ | ⟨b, cap, f, rfl, hr, h1, h2, h3⟩
  · exact ⟨none, 0, rfl, fun i hi => absurd hi (Nat.not_lt_zero _)⟩
  · exact ⟨_, cap, rfl, fun i hi => ⟨b, rfl, by rw [hr.cell (by omega), h3 i hi]⟩⟩

theorem kept_setCells {L : List Nat} {a : World} {b : Nat} : ∀ (vs : List Value) (o : Nat) {w : World}, Kept L a w → (b < a.heap.size → b ∈ L) → Kept L a (w.setCells b o vs)
  | [], _, _, h, _ => h
  | v :: r, o, _, h, hb => kept_setCells r (o + 1) (h.setCell (p := ⟨b, o, none⟩) hb v) hb
theorem row_setCells {b : Nat} {t : TypeId} {n : Nat} : ∀ (vs : List Value) (o : Nat) (w : World) (f : Nat → Value), w.rowIs b t n f → (w.setCells b o vs).rowIs b t n (fun j => if o ≤ j ∧ j < o + vs.length then vs.getD (j - o) default else f j)
  | [], o, w, f, h => h.congr (fun j _ => by rw [if_neg (by simp)])
  | v :: r, o, w, f, h => by
    have ih := row_setCells r (o + 1) _ _ (h.set o v)
    refine ih.congr (fun j _ => ?_)
    by_cases h1 : j = o
    · subst h1
      rw [if_neg (by omega), if_pos rfl, if_pos (by simp), Nat.sub_self]
      rfl
    · by_cases h2 : o + 1 ≤ j ∧ j < o + 1 + r.length
      · rw [if_pos h2, if_pos (by simp; omega), show j - o = (j - (o + 1)) + 1 by omega]; rfl
      · rw [if_neg h2, if_neg h1, if_neg (by simp; omega)]
theorem row_drewN {w : World} {b : Nat} {t : TypeId} {n : Nat} {f : Nat → Value} (h : w.rowIs b t n f) (q : Nat) : (w.drewN q).rowIs b t n f := h

theorem getD_map_iv (l : List Nat) (i : Nat) (h : i < l.length) (d : Value) : (l.map iv).getD i d = iv (l.getD i 0) := by
  simp [h]
def zs (l : List Nat) : List Int := l.map Int.ofNat
theorem zs_getD (l : List Nat) (i : Nat) : (zs l).getD i 0 = (l.getD i 0 : Nat) := by
  unfold zs
  by_cases h : i < l.length
  · simp [h]
  · simp [h]
theorem zs_sorted {l : List Nat} (h : l.Pairwise (· < ·)) : (zs l).Pairwise (· ≤ ·) := by
  unfold zs
  rw [List.pairwise_map]
  exact h.imp (fun h => Int.ofNat_le.2 (Nat.le_of_lt h))
theorem zs_count (l : List Nat) (x : Nat) : (zs l).countP (· < (x : Int)) = l.countP (· < x) := by
  unfold zs
  rw [List.countP_map]
  congr 1
  funext y
  simp
theorem zs_contains (l : List Nat) (x : Nat) : (zs l).contains (x : Int) = l.contains x := by
  rw [Bool.eq_iff_iff, List.contains_iff_mem, List.contains_iff_mem]
  unfold zs
  rw [List.mem_map]
  exact ⟨fun ⟨a, ha, e⟩ => by rw [← Int.ofNat.inj e]; exact ha, fun h => ⟨x, h, rfl⟩⟩

theorem search_any {w : World} {v : Value} {l : List Nat} (x : Nat) (h : NL w v l) (hs : l.Pairwise (· < ·)) (hl : l.length ≤ 4096) :
    Calls Tryd.prog 39 #[v, .int .i64 x] w fun e w' => e = .returned (.tuple #[.int .i64 (l.countP (· < x) : Nat), .bool (l.contains x)]) ∧ ∃ q, w' = w.drewN q := by
  rcases h with ⟨rfl, rfl⟩ | ⟨b, cap, f, rfl, hr, h1, h2, h3⟩
  · refine (Tryd.slices_BinarySearch_int_empty none 0 x w).mono ?_
    rintro e w' ⟨rfl, hw⟩
    subst w'
    exact ⟨rfl, 0, rfl⟩
  · have hzl : (zs l).length = l.length := by simp [zs]
    refine (Tryd.slices_BinarySearch_int b 0 l.length cap (zs l) x w (by omega) (by omega) (fun j hj => ?_) (by rw [← hzl, List.take_length]; exact zs_sorted hs)).mono ?_
    · rw [Nat.zero_add, hr.cell (by omega), h3 j (by omega), zs_getD]; rfl
    · rintro e w' ⟨rfl, hw⟩
      refine ⟨?_, hw⟩
      rw [← hzl, List.take_length, zs_count, zs_contains]

theorem delete_any {w : World} {v : Value} {l : List Nat} (i : Nat) (h : NL w v l) (hi : i < l.length) {j : Int} (ej : j = (i : Int) + 1) :
    Calls Tryd.prog 40 #[v, .int .i64 i, .int .i64 j] w fun e w' => ∃ v', e = .returned v' ∧ NL w' v' (l.take i ++ l.drop (i + 1)) ∧ v'.ownBlock = v.ownBlock ∧ Kept v.ownBlock.toList w w' := by
  rcases h with ⟨rfl, rfl⟩ | ⟨b, cap, f, rfl, hr, h1, h2, h3⟩
  · exact absurd hi (Nat.not_lt_zero _)
  · have hzl : (zs l).length = l.length := by simp [zs]
    have hm : maxLen = 9223372036854775807 := rfl
    subst ej
    refine (Tryd.slices_Delete_int_cells b 0 l.length cap i (i + 1) (zs l) w (by omega) h1 (by omega) (by omega) (by omega) (fun j hj => ?_) (fun j _ => hr.frozen _)).mono ?_
    · rw [Nat.zero_add, hr.cell (by omega), h3 j (by omega), zs_getD]; rfl
    · rintro e w' ⟨rfl, q, hw⟩
      subst hw
      have hlen : (l.take i ++ l.drop (i + 1)).length = l.length - 1 := by simp; omega
      refine ⟨_, rfl, .inr ⟨b, cap, _, ?_, row_setCells _ 0 _ _ (row_drewN hr q), by omega, h2, fun k hk => ?_⟩, rfl, kept_setCells _ _ ((Kept.refl _ w).drewN q) (fun _ => by simp [Value.ownBlock])⟩
      · rw [hlen, show i + 1 - i = 1 by omega]
      · rw [← hzl, List.take_length]
        have e1 : (List.take i (zs l) ++ List.drop (i + 1) (zs l) ++ List.replicate (i + 1 - i) (0 : Int)) = zs (l.take i ++ l.drop (i + 1) ++ [0]) := by
          simp [zs]
        rw [e1, if_pos (by simp only [zs, List.length_map, List.length_append, List.length_singleton] at hk ⊢; omega), Nat.sub_zero]
        have e2 : (zs (l.take i ++ l.drop (i + 1) ++ [0])).map (Value.int .i64) = (l.take i ++ l.drop (i + 1) ++ [0]).map iv := by unfold zs; rw [List.map_map]; rfl
        rw [e2, getD_map_iv _ _ (by simp only [List.length_append, List.length_singleton] at hk ⊢; omega)]
        congr 1
        rw [List.getD_eq_getElem?_getD, List.getD_eq_getElem?_getD, List.getElem?_append_left hk]

theorem getD_ins (l : List Nat) (i x k : Nat) (hi : i ≤ l.length) : (l.take i ++ [x] ++ l.drop i).getD k 0 = if k < i then l.getD k 0 else if k = i then x else l.getD (k - 1) 0 := by
  have hl : (l.take i).length = i := by simp; omega
  by_cases h : k < i
  · rw [if_pos h, List.append_assoc, List.getD_eq_getElem?_getD, List.getElem?_append_left (by omega), List.getElem?_take, if_pos h, ← List.getD_eq_getElem?_getD]
  · rw [if_neg h, List.append_assoc, List.getD_eq_getElem?_getD, List.getElem?_append_right (by omega), hl]
    by_cases h2 : k = i
    · rw [if_pos h2, h2]; simp
    · rw [if_neg h2, show k - i = (k - 1 - i) + 1 by omega, List.singleton_append, List.getElem?_cons_succ, List.getElem?_drop, show i + (k - 1 - i) = k - 1 by omega, ← List.getD_eq_getElem?_getD]
theorem zero_cells (n k : Nat) (h : k < n) : (Builtin.zeroCells (Value.int .i64 0).cells n)[k]? = some (.int .i64 0) := by
  simp [Builtin.zeroCells, Value.cells, h, Nat.mod_one]
theorem zero_size (n : Nat) : (Builtin.zeroCells (Value.int .i64 0).cells n).size = n := by
  simp [Builtin.zeroCells, Value.cells]

theorem insert_any {w : World} {v : Value} {l : List Nat} (i x vb : Nat) (h : NL w v l) (hi : i ≤ l.length) (hl : l.length ≤ 4096) (hvb : w.rowIs vb 3 1 (fun _ => iv x)) (hne : v.ownBlock ≠ some vb) :
    Calls Tryd.prog 41 #[v, .int .i64 i, .slice (some ⟨vb, 0, none⟩) 1 1] w fun e w' => ∃ v', e = .returned v' ∧ NL w' v' (l.take i ++ [x] ++ l.drop i) ∧ (v'.ownBlock = v.ownBlock ∨ v'.ownBlock = some w.heap.size) ∧ Kept v.ownBlock.toList w w' := by
  have hm : maxLen = 9223372036854775807 := rfl
  have hvs : ∀ j u, [iv x][j]? = some u → w.cell? ⟨vb, 0 + j, none⟩ = some u := by
    intro j u hu
    have hj := getElem?_lt hu
    simp at hj
    subst hj
    simp at hu
    subst hu
    exact hvb.cell (by omega)
  have h1v : ∀ u ∈ [iv x], u.oneCell' = true := by simp [iv, Value.oneCell']
  have hlen : (l.take i ++ [x] ++ l.drop i).length = l.length + 1 := by simp; omega
  have new : ∀ (cs : Array Value) (W : World) (cap : Nat), cs.size = cap → l.length + 1 ≤ cap → cap ≤ maxLen → (∀ k, k < l.length + 1 → cs[k]? = some (iv ((l.take i ++ [x] ++ l.drop i).getD k 0))) → NL (W.alloc (.cells cs 3)) (.slice (some ⟨W.heap.size, 0, none⟩) (l.length + 1) cap) (l.take i ++ [x] ++ l.drop i) := by
    intro cs W cap h1 h2 h3 h4
    refine .inr ⟨W.heap.size, cap, fun k => (cs[k]?).getD default, by rw [hlen], ?_, by omega, h3, fun k hk => by show (cs[k]?).getD default = _; rw [h4 k (by omega)]; rfl⟩
    have := World.rowIs_alloc W cs 3 (fun k => (cs[k]?).getD default) (fun k hk => by rw [Array.getElem?_eq_getElem hk]; rfl)
    rw [h1] at this
    exact this
  rcases h with ⟨rfl, rfl⟩ | ⟨b, cap, f, rfl, hr, h1, h2, h3⟩
  · have hi0 : i = 0 := by simpa using hi
    subst hi0
    refine (Any2.slices_Insert_int_end_grow Tryd.laysNm221 none 0 0 vb 0 1 1 [] [iv x] w (by omega) (by omega) (by omega) (by omega) rfl rfl (fun _ => rfl) (fun a h => by cases h) hvs h1v).mono ?_
    rintro e w' ⟨rfl, hw⟩
    subst hw
    refine ⟨_, rfl, ?_, .inr rfl, (Kept.refl _ w).drew.alloc _⟩
    refine new _ w.drew _ ?_ (grownCap_ge w 1 0 3) (grownCap_le_maxLen w 1 0 3 (by omega)) ?_
    · have := grownCap_ge w 1 0 3
      rw [Array.size_append, zero_size]
      show 1 + (grownCap w 1 0 3 - 1) = grownCap w 1 0 3
      omega
    · intro k hk
      have : k = 0 := by simpa using hk
      subst this
      rw [Array.getElem?_append_left (by simp)]
      simp
  · have hcs : ∀ j u, (l.map iv)[j]? = some u → w.cell? ⟨b, 0 + j, none⟩ = some u := by
      intro j u hu
      have hj := getElem?_lt hu
      simp at hj
      rw [Nat.zero_add, hr.cell (by omega), h3 j hj]
      rw [← hu]; simp [hj]
    have h1c : ∀ u ∈ l.map iv, u.oneCell' = true := by
      intro u hu
      obtain ⟨y, -, rfl⟩ := List.mem_map.1 hu
      rfl
    have hne2 : vb ≠ b := fun e => hne (by rw [e]; rfl)
    by_cases hroom : l.length + 1 ≤ cap
    · by_cases hin : i = l.length
      · refine (show Calls Tryd.prog 41 #[.slice (some ⟨b, 0, none⟩) l.length cap, .int .i64 (i : Int), .slice (some ⟨vb, 0, none⟩) 1 1] w _ from by rw [hin]; exact Any2.slices_Insert_int_end_room Tryd.laysNm221 b 0 l.length cap vb 0 1 1 [iv x] w (by omega) hroom (by omega) rfl (fun j hj => by rw [Nat.zero_add, hr.cell (by omega)]; rfl) (fun j _ => hr.frozen _) hvs h1v).mono ?_
        rintro e w' ⟨rfl, hw⟩
        subst hw
        refine ⟨_, rfl, .inr ⟨b, cap, _, by rw [hlen], row_setCells _ _ _ _ hr, by omega, h2, fun k hk => ?_⟩, .inl rfl, kept_setCells _ _ (Kept.refl _ w) (fun _ => by simp [Value.ownBlock])⟩
        rw [getD_ins l i x k hi]
        by_cases hk2 : k = i
        · subst hk2
          rw [if_pos (by simp; omega), if_neg (by omega), if_pos rfl, show k - (0 + l.length) = 0 by omega]; rfl
        · rw [if_neg (by simp; omega), if_pos (by omega)]
          exact h3 k (by omega)
      · refine (Any2.slices_Insert_int_shift Tryd.laysNm221 b 0 l.length cap i vb 0 1 1 (l.map iv) [iv x] w (by omega) (by omega) hroom (by omega) hne2 (by simp) rfl hcs (fun j hj => by rw [Nat.zero_add, hr.cell (by omega)]; rfl) (fun j _ => hr.frozen _) hvs h1c h1v 3 3 1 cap ?_ ?_ (by omega) (hvb.frozen _) (hvb.frozen _)).mono ?_
        · obtain ⟨c, h4, h5, -⟩ := hvb
          simp [World.shape?, h4, h5]
        · obtain ⟨c, h4, h5, -⟩ := hr
          simp [World.shape?, h4, h5]
        rintro e w' ⟨rfl, hw⟩
        subst hw
        refine ⟨_, rfl, .inr ⟨b, cap, _, by rw [hlen], row_setCells _ _ _ _ (row_setCells _ _ _ _ hr.drew), by omega, h2, fun k hk => ?_⟩, .inl rfl, kept_setCells _ _ (kept_setCells _ _ (Kept.refl _ w).drew (fun _ => by simp [Value.ownBlock])) (fun _ => by simp [Value.ownBlock])⟩
        rw [getD_ins l i x k hi]
        by_cases hk2 : k = i
        · subst hk2
          rw [if_pos (by simp), if_neg (by omega), if_pos rfl, show k - (0 + k) = 0 by omega]; rfl
        · rw [if_neg (by simp; omega)]
          by_cases hk3 : k < i
          · rw [if_neg (by omega), if_pos hk3]
            exact h3 k (by omega)
          · rw [if_pos (by simp; omega), if_neg hk3, if_neg hk2, ← List.map_drop, getD_map_iv _ _ (by simp; omega)]
            congr 1
            rw [List.getD_eq_getElem?_getD, List.getElem?_drop, ← List.getD_eq_getElem?_getD]
            congr 1; omega
    · have hg := grownCap_ge w (l.length + 1) cap 3
      have hg2 := grownCap_le_maxLen w (l.length + 1) cap 3 (by omega)
      by_cases hin : i = l.length
      · refine (show Calls Tryd.prog 41 #[.slice (some ⟨b, 0, none⟩) l.length cap, .int .i64 (i : Int), .slice (some ⟨vb, 0, none⟩) 1 1] w _ from by rw [hin]; exact Any2.slices_Insert_int_end_grow Tryd.laysNm221 (some ⟨b, 0, none⟩) l.length cap vb 0 1 1 (l.map iv) [iv x] w (by omega) h1 (by omega) (by omega) (by simp) rfl (fun h => by cases h) (fun a ha j u hu => by cases ha; rw [add_plain]; exact hcs j u hu) hvs h1v).mono ?_
        rintro e w' ⟨rfl, hw⟩
        subst hw
        refine ⟨_, rfl, new _ w.drew _ ?_ hg hg2 ?_, .inr rfl, (Kept.refl _ w).drew.alloc _⟩
        · show _ = grownCap w (l.length + 1) cap 3
          rw [Array.size_append, zero_size]
          simp only [List.size_toArray, List.length_append, List.length_map, List.length_singleton]
          show l.length + 1 + (grownCap w (l.length + 1) cap 3 - (l.length + 1)) = grownCap w (l.length + 1) cap 3
          omega
        · intro k hk
          rw [Array.getElem?_append_left (by simp; omega), getD_ins l i x k hi]
          by_cases hk2 : k = i
          · rw [if_neg (by omega), if_pos hk2]; subst hk2; subst hin; simp
          · rw [if_pos (by omega)]
            have : k < l.length := by omega
            simp [this, List.getElem?_append_left]
      · refine (Any2.slices_Insert_int_grow Tryd.laysNm221 b 0 l.length cap i vb 0 1 1 (l.map iv) [iv x] w (by omega) (by omega) h1 (by omega) (by omega) (by simp) rfl hcs hvs h1c h1v).mono ?_
        rintro e w' ⟨rfl, hw⟩
        subst hw
        have hK : Kept [] w (w.alloc (.cells (((l.map iv).take i).toArray ++ Builtin.zeroCells (Value.int .i64 0).cells (l.length + 1 - i) ++ Builtin.zeroCells (Value.int .i64 0).cells (grownCap w (l.length + 1) cap 3 - (l.length + 1))) 3)) := (Kept.refl _ w).alloc _
        have hsz : (((l.map iv).take i).toArray ++ Builtin.zeroCells (Value.int .i64 0).cells (l.length + 1 - i) ++ Builtin.zeroCells (Value.int .i64 0).cells (grownCap w (l.length + 1) cap 3 - (l.length + 1))).size = grownCap w (l.length + 1) cap 3 := by
          rw [Array.size_append, Array.size_append, zero_size, zero_size]
          simp only [List.size_toArray, List.length_take, List.length_map]
          omega
        generalize hA : (((l.map iv).take i).toArray ++ Builtin.zeroCells (Value.int .i64 0).cells (l.length + 1 - i) ++ Builtin.zeroCells (Value.int .i64 0).cells (grownCap w (l.length + 1) cap 3 - (l.length + 1))) = A at hK hsz
        have hrow : (w.alloc (.cells A 3)).rowIs w.heap.size 3 (grownCap w (l.length + 1) cap 3) (fun k => (A[k]?).getD default) := by
          have := World.rowIs_alloc w A 3 (fun k => (A[k]?).getD default) (fun k hk => by rw [Array.getElem?_eq_getElem hk]; rfl)
          rw [hsz] at this
          exact this
        have hr2 := row_setCells ((l.map iv).drop i) (i + 1) _ _ (row_setCells [iv x] i _ _ hrow.drew).drew
        refine ⟨_, rfl, .inr ⟨w.heap.size, grownCap w (l.length + 1) cap 3, fun k => if i + 1 ≤ k ∧ k < i + 1 + ((l.map iv).drop i).length then ((l.map iv).drop i).getD (k - (i + 1)) default else if i ≤ k ∧ k < i + [iv x].length then [iv x].getD (k - i) default else (A[k]?).getD default, by rw [hlen]; rfl, ?_, by rw [hlen]; exact hg, hg2, fun k hk => ?_⟩, .inr rfl, ?_⟩
        · rw [show (Tryd.laysNm221_ren.t 3) = 3 from rfl, hA]; exact hr2
        · show (if i + 1 ≤ k ∧ k < i + 1 + ((l.map iv).drop i).length then ((l.map iv).drop i).getD (k - (i + 1)) default else if i ≤ k ∧ k < i + [iv x].length then [iv x].getD (k - i) default else (A[k]?).getD default) = _
          rw [getD_ins l i x k hi]
          by_cases hk2 : k = i
          · subst hk2
            rw [if_neg (by omega), if_pos (by simp), if_neg (by omega), if_pos rfl, Nat.sub_self]; rfl
          · by_cases hk3 : k < i
            · rw [if_neg (by omega), if_neg (by omega), if_pos hk3, ← hA, Array.append_assoc, Array.getElem?_append_left (by simp; omega)]
              have : k < l.length := by omega
              simp [this, hk3]
            · rw [if_pos (by simp; omega), if_neg hk3, if_neg hk2, ← List.map_drop, getD_map_iv _ _ (by simp; omega)]
              congr 1
              rw [List.getD_eq_getElem?_getD, List.getElem?_drop, ← List.getD_eq_getElem?_getD]
              congr 1; omega
        · rw [show (Tryd.laysNm221_ren.t 3) = 3 from rfl, hA]
          exact (kept_setCells _ _ (kept_setCells _ _ hK.drew (fun h => absurd h (Nat.lt_irrefl _))).drew (fun h => absurd h (Nat.lt_irrefl _))).mono (fun _ hx => by simp at hx)
end Go.Proofs.YtpljldjdemobbaaDoor.By
