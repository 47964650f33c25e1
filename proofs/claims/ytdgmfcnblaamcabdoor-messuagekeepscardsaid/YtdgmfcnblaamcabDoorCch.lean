
/-
  No statement of the program: package cache, over this seat's translation. 'NL w v l': v is the list l, in a row of its own (or nil). 'CA w t p S L': at p lie four lists S, whose numbers are L.
-/
import Derived.Test.YtdgmfcnblaamcabDoorHeap3
import Derived.Test.YtdgmfcnblaamcabDoorShelf
import Derived.Test.YtdgmfcnblaamcabDoorOwn
import Derived.Deep.RegionHeld3
namespace Go.Proofs.YtdgmfcnblaamcabDoor.Cc
open Go.ChangeShapes Go.WideShapes Go.ChangeAt Go.RowKit By

def iv (x : Nat) : Value := .int .i64 x
def NL (w : World) (v : Value) (l : List Nat) : Prop :=
  (v = .slice none 0 0 ∧ l = []) ∨ ∃ b cap f, v = .slice (some ⟨b, 0, none⟩) l.length cap ∧ w.rowIs b 3 cap f ∧ l.length ≤ cap ∧ cap ≤ maxLen ∧ ∀ i, i < l.length → f i = iv (l.getD i 0)
theorem NL.of_block {w w' : World} {v : Value} {l : List Nat} (h : NL w v l) (e : ∀ k, v.ownBlock = some k → w'.heap[k]? = w.heap[k]?) : NL w' v l := by
  rcases h with h | ⟨b, cap, f, rfl, hr, h1, h2, h3⟩
  · exact .inl h
  · exact .inr ⟨b, cap, f, rfl, hr.of_block (e b rfl), h1, h2, h3⟩
theorem NL.lt {w : World} {v : Value} {l : List Nat} (h : NL w v l) {b : Nat} (hb : v.ownBlock = some b) : b < w.heap.size := by
  rcases h with ⟨rfl, -⟩ | ⟨b', cap, f, rfl, hr, h1, h2, h3⟩
  · cases hb
  · cases hb; exact hr.lt
theorem NL.kept {w w' : World} {v : Value} {l : List Nat} {F : List Nat} (h : NL w v l) (k : Kept F w w') (hF : ∀ b, v.ownBlock = some b → b ∉ F) : NL w' v l :=
  h.of_block fun b hb => k.block b (h.lt hb) (hF b hb)
theorem NL.slice {w : World} {v : Value} {l : List Nat} (h : NL w v l) : ∃ ao cap, v = .slice ao l.length cap ∧ (∀ i, i < l.length → ∃ b, ao = some ⟨b, 0, none⟩ ∧ w.cell? ⟨b, i, none⟩ = some (iv (l.getD i 0))) := by
  rcases h with ⟨rfl, rfl⟩ | ⟨b, cap, f, rfl, hr, h1, h2, h3⟩
  · exact ⟨none, 0, rfl, fun i hi => absurd hi (Nat.not_lt_zero _)⟩
  · exact ⟨_, cap, rfl, fun i hi => ⟨b, rfl, by rw [hr.cell (by omega), h3 i hi]⟩⟩
theorem NL.own {w : World} {v : Value} {l : List Nat} (h : NL w v l) : w.ownsRow 0 3 1 v l.length (l.map iv) := by
  rcases h with ⟨rfl, rfl⟩ | ⟨b, cap, f, rfl, ⟨cur, hg, hs, hc⟩, h1, h2, h3⟩
  · exact ⟨rfl, .inl ⟨rfl, rfl⟩⟩
  · refine ⟨by simp, .inr ⟨b, cap, cur, rfl, Nat.zero_le _, hg, h1, h2, by omega, ?_⟩⟩
    apply List.ext_getElem?
    intro i
    rw [List.getElem?_take]
    by_cases hi : i < l.length
    · rw [if_pos (by omega)]
      have := hc i (by omega)
      rw [h3 i hi] at this
      simp [hi] at this ⊢
      rw [this]
    · rw [if_neg (by omega), List.getElem?_eq_none (by simp; omega)]
theorem NL.of_own {w : World} {base : Nat} {v : Value} {l : List Nat} {n : Nat} (h : w.ownsRow base 3 1 v n (l.map iv)) : NL w v l := by
  have h1 : l.length = n := by have := h.1; simpa using this
  subst h1
  rcases h.2 with ⟨rfl, hn⟩ | ⟨g, cap, cur, rfl, hb, hg, hn, hm, hs, ht⟩
  · exact .inl ⟨rfl, List.length_eq_zero_iff.1 hn⟩
  · refine .inr ⟨g, cap, fun i => (cur[i]?).getD default, rfl, ⟨cur, hg, by omega, fun i hi => ?_⟩, hn, hm, fun i hi => ?_⟩
    · simp [Array.getElem?_eq_getElem (show i < cur.size by omega)]
    · have h2 : cur[i]? = (l.map iv)[i]? := by
        rw [← ht, List.getElem?_take, if_pos (by omega)]; simp
      show (cur[i]?).getD default = _
      rw [h2]; simp [hi]
theorem one_iv (l : List Nat) : ∀ u ∈ l.map iv, u.oneCell' = true := by
  intro u hu
  obtain ⟨x, -, rfl⟩ := List.mem_map.1 hu
  rfl
theorem info3 : (Tryd.prog.info? 3).map (fun i => (i.zero, i.size, i.bytes)) = some (some (.int .i64 0), 1, 8) := by kernel_rfl
theorem kept_setCells {L : List Nat} {a : World} {b : Nat} : ∀ (vs : List Value) (o : Nat) {w : World}, Kept L a w → (b < a.heap.size → b ∈ L) → Kept L a (w.setCells b o vs)
  | [], _, _, h, _ => h
  | v :: r, o, _, h, hb => kept_setCells r (o + 1) (h.setCell (p := ⟨b, o, none⟩) hb v) hb
theorem row_setCells {b : Nat} {t : TypeId} {n : Nat} : ∀ (vs : List Value) (o : Nat) (w : World) (f : Nat → Value), w.rowIs b t n f → (w.setCells b o vs).rowIs b t n (fun j => if o ≤ j ∧ j < o + vs.length then vs.getD (j - o) default else f j)
  | [], o, w, f, h => h.congr (fun j _ => by rw [if_neg (by simp)])
  | v :: r, o, w, f, h => by
    have ih := row_setCells r (o + 1) _ _ (h.set o v)
    refine ih.congr (fun j _ => ?_)
    by_cases h1 : j = o
    · subst h1
      rw [if_neg (by omega), if_pos rfl, if_pos (by simp), Nat.sub_self]
      rfl
    · by_cases h2 : o + 1 ≤ j ∧ j < o + 1 + r.length
      · rw [if_pos h2, if_pos (by simp; omega), show j - o = (j - (o + 1)) + 1 by omega]; rfl
      · rw [if_neg h2, if_neg h1, if_neg (by simp; omega)]
theorem row_drewN {w : World} {b : Nat} {t : TypeId} {n : Nat} {f : Nat → Value} (h : w.rowIs b t n f) (q : Nat) : (w.drewN q).rowIs b t n f := h
def zs (l : List Nat) : List Int := l.map Int.ofNat
theorem zs_getD (l : List Nat) (i : Nat) : (zs l).getD i 0 = (l.getD i 0 : Nat) := by
  unfold zs
  by_cases h : i < l.length
  · simp [h]
  · simp [h]
theorem getD_map_iv (l : List Nat) (i : Nat) (h : i < l.length) (d : Value) : (l.map iv).getD i d = iv (l.getD i 0) := by
  simp [h]
theorem delete_any {w : World} {v : Value} {l : List Nat} (n : Nat) (h : NL w v l) (h0 : 0 < n) (hn : n ≤ l.length) :
    Calls Tryd.prog 59 #[v, .int .i64 0, .int .i64 n] w fun e w' => ∃ v', e = .returned v' ∧ NL w' v' (l.drop n) ∧ v'.ownBlock = v.ownBlock ∧ Kept v.ownBlock.toList w w' := by
  rcases h with ⟨rfl, rfl⟩ | ⟨b, cap, f, rfl, hr, h1, h2, h3⟩
  · exact absurd hn (by simp; omega)
  · have hzl : (zs l).length = l.length := by simp [zs]
    have hm : maxLen = 9223372036854775807 := rfl
    refine (Tryd.slices_Delete_int_cells b 0 l.length cap 0 n (zs l) w (by omega) h1 (by omega) (by omega) (by omega) (fun j hj => ?_) (fun j _ => hr.frozen _)).mono ?_
    · rw [Nat.zero_add, hr.cell (by omega), h3 j (by omega), zs_getD]; rfl
    · rintro e w' ⟨rfl, q, hw⟩
      subst hw
      have hlen : (l.drop n).length = l.length - n := by simp
      refine ⟨_, rfl, .inr ⟨b, cap, _, ?_, row_setCells _ 0 _ _ (row_drewN hr q), by omega, h2, fun k hk => ?_⟩, rfl, kept_setCells _ _ ((Kept.refl _ w).drewN q) (fun _ => by simp [Value.ownBlock])⟩
      · rw [hlen, show n - 0 = n by omega]
      · rw [← hzl, List.take_length]
        have e1 : (List.take 0 (zs l) ++ List.drop n (zs l) ++ List.replicate (n - 0) (0 : Int)) = zs (l.drop n ++ List.replicate n 0) := by
          simp [zs]
        rw [e1, if_pos (by simp only [zs, List.length_map, List.length_append] at hk ⊢; omega), Nat.sub_zero]
        have e2 : (zs (l.drop n ++ List.replicate n 0)).map (Value.int .i64) = (l.drop n ++ List.replicate n 0).map iv := by unfold zs; rw [List.map_map]; rfl
        rw [e2, getD_map_iv _ _ (by simp only [List.length_append] at hk ⊢; omega)]
        congr 1
        rw [List.getD_eq_getElem?_getD, List.getD_eq_getElem?_getD, List.getElem?_append_left hk]
theorem clone_any {w : World} {v : Value} {l : List Nat} (n : Nat) (h : NL w v l) (hn : n ≤ l.length) (h0 : 0 < n) (hl : l.length ≤ 4096) {ao : Option Addr} {cap : Nat} (hv : v = .slice ao l.length cap) :
    Calls Tryd.prog 58 #[.slice ao n cap] w fun e w' => ∃ v', e = .returned v' ∧ NL w' v' (l.take n) ∧ (∀ b, v'.ownBlock = some b → w.heap.size ≤ b) ∧ Kept [] w w' := by
  rcases h with ⟨rfl, rfl⟩ | ⟨b, cp, f, rfl, hr, h1, h2, h3⟩
  · exact absurd hn (by simp; omega)
  · cases hv
    refine (Tryd.slices_Clone_int b 0 n cap (zs l) w (by simp [zs]; omega) (by omega) (fun j hj => ?_)).mono ?_
    · simp [zs] at hj
      rw [Nat.zero_add, hr.cell (by omega), h3 j hj, zs_getD]; rfl
    · rintro e w' ⟨v', rfl, hown, -, hb⟩
      refine ⟨v', rfl, NL.of_own (n := n) (by rw [show (l.take n).map iv = ((zs l).take n).map (Value.int .i64) by unfold zs; rw [← List.map_take, List.map_map]; rfl]; exact hown), fun b hb => ?_, Kept.of_below hb⟩
      rcases hown.2 with ⟨rfl, _⟩ | ⟨g, cap, cur, rfl, hb2, _⟩
      · cases hb
      · cases hb; exact hb2

structure CA (w : World) (t : TypeId) (p : Nat) (S : Nat → Value) (L : Nat → List Nat) : Prop where
  row : w.rowIs p t 4 S
  list : ∀ k, k < 4 → NL w (S k) (L k)
  np : ∀ k b, k < 4 → (S k).ownBlock = some b → b ≠ p
  apart : ∀ i j b, i < 4 → j < 4 → i ≠ j → (S i).ownBlock = some b → (S j).ownBlock ≠ some b
def foot (p : Nat) (S : Nat → Value) : List Nat := p :: (List.range 4).flatMap fun k => (S k).ownBlock.toList
theorem mem_foot {p : Nat} {S : Nat → Value} {b : Nat} : b ∈ foot p S ↔ b = p ∨ ∃ k, k < 4 ∧ (S k).ownBlock = some b := by
  unfold foot
  simp only [List.mem_cons, List.mem_flatMap, List.mem_range, Option.mem_toList]
def up {α : Type} (S : Nat → α) (k : Nat) (v : α) : Nat → α := fun j => if j = k then v else S j
section
variable {w : World} {t : TypeId} {p : Nat} {S : Nat → Value} {L : Nat → List Nat}
theorem CA.lt (h : CA w t p S L) {b : Nat} (hb : b ∈ foot p S) : b < w.heap.size := by
  rcases mem_foot.1 hb with rfl | ⟨k, hk, hb⟩
  · exact h.row.lt
  · exact (h.list k hk).lt hb
theorem CA.kept {w' : World} {F : List Nat} (h : CA w t p S L) (k : Kept F w w') (hF : ∀ b, b ∈ foot p S → b ∉ F) : CA w' t p S L :=
  ⟨k.row h.row (hF p (mem_foot.2 (.inl rfl))), fun j hj => (h.list j hj).kept k (fun b hb => hF b (mem_foot.2 (.inr ⟨j, hj, hb⟩))), h.np, h.apart⟩
theorem CA.kept0 {w' : World} (h : CA w t p S L) (k : Kept [] w w') : CA w' t p S L := h.kept k (fun _ _ => by simp)
/-- One list is another one. -/
theorem CA.swap (h : CA w t p S L) {k : Nat} (hk : k < 4) {w2 : World} {v : Value} {l : List Nat} (kp : Kept (S k).ownBlock.toList w w2) (hl : NL w2 v l) (hb : ∀ b, v.ownBlock = some b → (S k).ownBlock = some b ∨ w.heap.size ≤ b) :
    CA (w2.setCell ⟨p, k, none⟩ v) t p (up S k v) (up L k l) ∧ Kept (foot p S) w (w2.setCell ⟨p, k, none⟩ v) ∧ ∀ b, b ∈ foot p (up S k v) → b ∈ foot p S ∨ w.heap.size ≤ b := by
  have npk : p ∉ (S k).ownBlock.toList := fun hp => h.np k p hk (by simpa using hp) rfl
  have k2 : Kept [p] w2 (w2.setCell ⟨p, k, none⟩ v) := (Kept.refl [p] w2).setCell (fun _ => by simp) _
  have hlp := h.row.lt
  have hnv : ∀ b, v.ownBlock = some b → b ≠ p := fun b e1 => by
    rcases hb b e1 with e | e
    · exact h.np k b hk e
    · omega
  refine ⟨⟨?_, fun j hj => ?_, fun j b hj => ?_, fun i j b hi hj hij => ?_⟩, ?_, fun b hbf => ?_⟩
  · refine ((kp.row h.row npk).set k v).congr fun j _ => ?_
    unfold up
    by_cases e : j = k <;> simp [e]
  · unfold up
    by_cases e : j = k
    · rw [if_pos e, if_pos e]
      exact hl.kept k2 (fun b e1 => by simpa using hnv b e1)
    · rw [if_neg e, if_neg e]
      refine NL.kept ((h.list j hj).kept kp (fun b e1 hm => h.apart j k b hj hk e e1 (by simpa using hm))) k2 (fun b e1 => by simpa using h.np j b hj e1)
  · unfold up
    by_cases e : j = k
    · rw [if_pos e]; exact hnv b
    · rw [if_neg e]; exact h.np j b hj
  · unfold up
    by_cases e : i = k
    · have e' : j ≠ k := fun e2 => hij (e.trans e2.symm)
      rw [if_pos e, if_neg e']
      intro e1 e2
      rcases hb b e1 with e3 | e3
      · exact h.apart k j b hk hj (fun e4 => e' e4.symm) e3 e2
      · have := (h.list j hj).lt e2; omega
    · rw [if_neg e]
      by_cases e' : j = k
      · rw [if_pos e']
        intro e1 e2
        rcases hb b e2 with e3 | e3
        · exact h.apart i k b hi hk e e1 e3
        · have := (h.list i hi).lt e1; omega
      · rw [if_neg e']; exact h.apart i j b hi hj hij
  · refine (kp.mono (M := foot p S) (fun x hx _ => mem_foot.2 (.inr ⟨k, hk, by simpa using hx⟩))).setCell (p := ⟨p, k, none⟩) (fun _ => mem_foot.2 (.inl rfl)) _
  · rcases mem_foot.1 hbf with e | ⟨j, hj, e⟩
    · exact .inl (mem_foot.2 (.inl e))
    · unfold up at e
      by_cases e2 : j = k
      · rw [if_pos e2] at e
        rcases hb b e with e3 | e3
        · exact .inl (mem_foot.2 (.inr ⟨k, hk, e3⟩))
        · exact .inr e3
      · rw [if_neg e2] at e
        exact .inl (mem_foot.2 (.inr ⟨j, hj, e⟩))
theorem NL.pop {v : Value} {l : List Nat} {ao : Option Addr} {cap : Nat} (h : NL w v l) (hv : v = .slice ao l.length cap) {n : Nat} (hn : n ≤ l.length) (h0 : l ≠ []) : NL w (.slice ao n cap) (l.take n) ∧ (Value.slice ao n cap).ownBlock = v.ownBlock ∧ n ≤ cap := by
  rcases h with ⟨rfl, rfl⟩ | ⟨b, cp, f, rfl, hr, h1, h2, h3⟩
  · exact absurd rfl h0
  · cases hv
    refine ⟨.inr ⟨b, cap, f, by simp [Nat.min_eq_left hn], hr, by simp; omega, h2, fun i hi => ?_⟩, rfl, by omega⟩
    simp at hi
    rw [h3 i (by omega)]
    congr 1
    rw [List.getD_eq_getElem?_getD, List.getD_eq_getElem?_getD, List.getElem?_take, if_pos (by omega)]
end
end Go.Proofs.YtdgmfcnblaamcabDoor.Cc
