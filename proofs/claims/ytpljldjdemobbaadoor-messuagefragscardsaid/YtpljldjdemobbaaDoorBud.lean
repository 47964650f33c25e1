
/-
  No statement of the program: package buddy's small functions, over this seat's translation. 'Bud w p n tk L tb V': at p lies a buddy of n frames, whose row 'taken' (at tb) holds tk and whose eleven lists (the values V) are L.
-/
import Derived.Test.YtpljldjdemobbaaDoorBLists
import Derived.Deep.RegionHeld3
namespace Go.Proofs.YtpljldjdemobbaaDoor.By
open Go.RowKit

theorem NL.shape {w : World} {v : Value} {l : List Nat} (h : NL w v l) : ∃ ao n cap, v = .slice ao n cap := by
  obtain ⟨ao, cap, e, -⟩ := h.slice
  exact ⟨ao, _, cap, e⟩

structure Bud (w : World) (p n : Nat) (tk : Nat → Nat) (L : Nat → List Nat) (tb : Nat) (V : Nat → Value) : Prop where
  row : w.rowIs p 61 12 (fun i => if i = 0 then .slice (some ⟨tb, 0, none⟩) n n else V (i - 1))
  tab : w.rowIs tb 3 n (fun i => iv (tk i))
  list : ∀ j, j < 11 → NL w (V j) (L j)
  inj : ∀ i j b, i < 11 → j < 11 → (V i).ownBlock = some b → (V j).ownBlock = some b → i = j
  np : ∀ j, j < 11 → (V j).ownBlock ≠ some p
  nt : ∀ j, j < 11 → (V j).ownBlock ≠ some tb
  ne : p ≠ tb

def foot (p tb : Nat) (V : Nat → Value) : List Nat := p :: tb :: (List.range 11).filterMap (fun j => (V j).ownBlock)
theorem mem_foot {p tb x : Nat} {V : Nat → Value} : x ∈ foot p tb V ↔ x = p ∨ x = tb ∨ ∃ j, j < 11 ∧ (V j).ownBlock = some x := by
  unfold foot
  simp [List.mem_filterMap]
def Grew (N : Nat) (V V' : Nat → Value) : Prop := ∀ j b, j < 11 → (V' j).ownBlock = some b → (V j).ownBlock = some b ∨ N ≤ b
theorem Grew.refl (N : Nat) (V : Nat → Value) : Grew N V V := fun _ _ _ h => .inl h
theorem Grew.trans {N M : Nat} {A B C : Nat → Value} (h : Grew N A B) (k : Grew M B C) (hN : N ≤ M) : Grew N A C := fun j b hj hb => by
  rcases k j b hj hb with h1 | h1
  · exact h j b hj h1
  · exact .inr (Nat.le_trans hN h1)

theorem Bud.kept {w w' : World} {p n tb : Nat} {tk : Nat → Nat} {L : Nat → List Nat} {V : Nat → Value} {F : List Nat} (h : Bud w p n tk L tb V) (k : Kept F w w') (hF : ∀ x, x ∈ foot p tb V → x ∉ F) : Bud w' p n tk L tb V :=
  ⟨k.row h.row (hF _ (mem_foot.2 (.inl rfl))), k.row h.tab (hF _ (mem_foot.2 (.inr (.inl rfl)))), fun j hj => (h.list j hj).kept k (fun _ hb => hF _ (mem_foot.2 (.inr (.inr ⟨j, hj, hb⟩)))), h.inj, h.np, h.nt, h.ne⟩
theorem Bud.kept0 {w w' : World} {p n tb : Nat} {tk : Nat → Nat} {L : Nat → List Nat} {V : Nat → Value} (h : Bud w p n tk L tb V) (k : Kept [] w w') : Bud w' p n tk L tb V := h.kept k (fun _ _ => by simp)
theorem Bud.lt {w : World} {p n tb : Nat} {tk : Nat → Nat} {L : Nat → List Nat} {V : Nat → Value} (h : Bud w p n tk L tb V) : ∀ x, x ∈ foot p tb V → x < w.heap.size := by
  intro x hx
  rcases mem_foot.1 hx with rfl | rfl | ⟨j, hj, hb⟩
  · exact h.row.lt
  · exact h.tab.lt
  · exact (h.list j hj).lt hb
theorem Bud.cell {w : World} {p n tb : Nat} {tk : Nat → Nat} {L : Nat → List Nat} {V : Nat → Value} (h : Bud w p n tk L tb V) (j : Nat) (hj : j < 11) : w.cell? ⟨p, 1 + j, none⟩ = some (V j) := by
  rw [h.row.cell (by omega), if_neg (by omega), show 1 + j - 1 = j by omega]
theorem Bud.cell0 {w : World} {p n tb : Nat} {tk : Nat → Nat} {L : Nat → List Nat} {V : Nat → Value} (h : Bud w p n tk L tb V) : w.cell? ⟨p, 0, none⟩ = some (.slice (some ⟨tb, 0, none⟩) n n) := by
  rw [h.row.cell (by omega), if_pos rfl]

/-- A list of the buddy is another one now: behind a call that kept all but its row, and the store of its new value. -/
theorem Bud.swap {w w' : World} {p n tb : Nat} {tk : Nat → Nat} {L : Nat → List Nat} {V : Nat → Value} (h : Bud w p n tk L tb V) (o : Nat) (ho : o < 11) (v' : Value) (l' : List Nat)
    (hk : Kept (V o).ownBlock.toList w w') (hl : NL w' v' l') (hb : v'.ownBlock = (V o).ownBlock ∨ ∃ b, v'.ownBlock = some b ∧ w.heap.size ≤ b) :
    Bud (w'.setCell ⟨p, 1 + o, none⟩ v') p n tk (fun j => if j = o then l' else L j) tb (fun j => if j = o then v' else V j) := by
  have hown : ∀ x, x ∈ foot p tb V → (∀ b, (V o).ownBlock = some b → x ≠ b) → x ∉ (V o).ownBlock.toList := by
    intro x hx hne hm
    exact hne x (by simpa using hm) rfl
  have hpl := h.row.lt
  have htl := h.tab.lt
  have hvne : ∀ x, x ∈ foot p tb V → (∀ b, (V o).ownBlock = some b → x ≠ b) → v'.ownBlock ≠ some x := by
    intro x hx hne e
    rcases hb with hb | ⟨b, hb, hlt⟩
    · exact hne x (by rw [← hb]; exact e) rfl
    · rw [hb] at e; cases e; exact absurd (h.lt _ hx) (by omega)
  have pne : ∀ b, (V o).ownBlock = some b → p ≠ b := fun b hb e => h.np o ho (by rw [e]; exact hb)
  have tne : ∀ b, (V o).ownBlock = some b → tb ≠ b := fun b hb e => h.nt o ho (by rw [e]; exact hb)
  have hr1 : w'.rowIs p 61 12 _ := hk.row h.row (hown p (mem_foot.2 (.inl rfl)) pne)
  have hr2 : w'.rowIs tb 3 n _ := hk.row h.tab (hown tb (mem_foot.2 (.inr (.inl rfl))) tne)
  have jne : ∀ j, j < 11 → j ≠ o → ∀ x, (V j).ownBlock = some x → ∀ b, (V o).ownBlock = some b → x ≠ b := fun j hj hjo x hx b hb e => hjo (h.inj j o x hj ho hx (by rw [e]; exact hb))
  refine ⟨(hr1.set (1 + o) v').congr (fun i hi => ?_), hr2.setOther (by simpa using h.ne.symm) _, fun j hj => ?_, fun i j b hi hj h1 h2 => ?_, fun j hj => ?_, fun j hj => ?_, h.ne⟩
  · by_cases h0 : i = 0
    · subst h0; rw [if_neg (by omega), if_pos rfl, if_pos rfl]
    · by_cases h1 : i = 1 + o
      · subst h1
        simp
      · rw [if_neg h1, if_neg h0, if_neg h0, if_neg (by omega)]
  · by_cases hjo : j = o
    · subst hjo
      simp only [if_true]
      refine hl.of_block fun k hk2 => heap_setCell_other _ _ _ _ ?_
      intro e
      have e2 : v'.ownBlock = some p := by rw [hk2]; exact congrArg some e
      exact hvne p (mem_foot.2 (.inl rfl)) pne e2
    · simp only [if_neg hjo]
      have h3 : NL w' (V j) (L j) := (h.list j hj).kept hk (fun b hb hm => jne j hj hjo b hb b (by simpa using hm) rfl)
      refine h3.of_block fun k hk2 => heap_setCell_other _ _ _ _ ?_
      intro e
      exact h.np j hj (by rw [hk2]; exact congrArg some e)
  · by_cases hio : i = o
    · by_cases hjo : j = o
      · omega
      · simp only [if_pos hio, if_neg hjo] at h1 h2
        exact absurd h1 (hvne b (mem_foot.2 (.inr (.inr ⟨j, hj, h2⟩))) (jne j hj hjo b h2))
    · by_cases hjo : j = o
      · simp only [if_neg hio, if_pos hjo] at h1 h2
        exact absurd h2 (hvne b (mem_foot.2 (.inr (.inr ⟨i, hi, h1⟩))) (jne i hi hio b h1))
      · simp only [if_neg hio, if_neg hjo] at h1 h2
        exact h.inj i j b hi hj h1 h2
  · by_cases hjo : j = o
    · simp only [if_pos hjo]; exact hvne p (mem_foot.2 (.inl rfl)) pne
    · simp only [if_neg hjo]; exact h.np j hj
  · by_cases hjo : j = o
    · simp only [if_pos hjo]; exact hvne tb (mem_foot.2 (.inr (.inl rfl))) tne
    · simp only [if_neg hjo]; exact h.nt j hj

/-- A list with a number more, at its place. -/
def ins (x : Nat) (l : List Nat) : List Nat := l.take (l.countP (· < x)) ++ [x] ++ l.drop (l.countP (· < x))
def del (x : Nat) (l : List Nat) : List Nat := l.take (l.countP (· < x)) ++ l.drop (l.countP (· < x) + 1)
theorem ins_length (x : Nat) (l : List Nat) : (ins x l).length = l.length + 1 := by
  have := List.countP_le_length (p := (· < x)) (l := l)
  unfold ins; simp; omega
theorem mem_ins {x y : Nat} {l : List Nat} : y ∈ ins x l ↔ y = x ∨ y ∈ l := by
  unfold ins
  have : y ∈ l ↔ y ∈ l.take (l.countP (· < x)) ∨ y ∈ l.drop (l.countP (· < x)) := by
    rw [← List.mem_append, List.take_append_drop]
  rw [this]
  simp only [List.mem_append, List.mem_singleton]
  exact ⟨fun h => by rcases h with (h | h) | h <;> simp [h], fun h => by rcases h with h | h | h <;> simp [h]⟩
/-- Of a sorted list: what stands ahead of x's place is less, what stands from there on isn't. -/
theorem split_sorted (x : Nat) : ∀ (l : List Nat), l.Pairwise (· < ·) → (∀ y, y ∈ l.take (l.countP (· < x)) → y < x) ∧ (∀ y, y ∈ l.drop (l.countP (· < x)) → x ≤ y)
  | [], _ => by simp
  | a :: l, h => by
    have h' := List.pairwise_cons.1 h
    obtain ⟨i1, i2⟩ := split_sorted x l h'.2
    by_cases ha : a < x
    · rw [List.countP_cons_of_pos (by simpa using ha)]
      simp only [List.take_succ_cons, List.drop_succ_cons, List.mem_cons]
      exact ⟨fun y hy => hy.elim (fun e => by rw [e]; exact ha) (i1 y), i2⟩
    · have h0 : (a :: l).countP (· < x) = 0 := by
        rw [List.countP_eq_zero]
        intro y hy
        rcases List.mem_cons.1 hy with rfl | hy
        · simpa using ha
        · have := h'.1 y hy; simp; omega
      rw [h0]
      simp only [List.take_zero, List.drop_zero, List.mem_cons]
      exact ⟨fun y hy => by simp at hy, fun y hy => hy.elim (fun e => by omega) (fun hy => by have := h'.1 y hy; omega)⟩
theorem ins_sorted {x : Nat} {l : List Nat} (h : l.Pairwise (· < ·)) (hx : x ∉ l) : (ins x l).Pairwise (· < ·) := by
  obtain ⟨h1, h2⟩ := split_sorted x l h
  have h3 := h
  rw [← List.take_append_drop (l.countP (· < x)) l, List.pairwise_append] at h3
  unfold ins
  rw [List.append_assoc, List.pairwise_append]
  refine ⟨h3.1, ?_, fun a ha b hb => ?_⟩
  · rw [List.singleton_append, List.pairwise_cons]
    refine ⟨fun y hy => ?_, h3.2.1⟩
    have := h2 y hy
    have : y ≠ x := fun e => hx (by rw [← e]; exact List.mem_of_mem_drop hy)
    omega
  · rcases List.mem_cons.1 hb with rfl | hb
    · exact h1 a ha
    · exact h3.2.2 a ha b hb
theorem del_of_mem {x : Nat} {l : List Nat} (h : l.Pairwise (· < ·)) (hx : x ∈ l) : l.countP (· < x) < l.length ∧ l = l.take (l.countP (· < x)) ++ x :: l.drop (l.countP (· < x) + 1) := by
  obtain ⟨h1, h2⟩ := split_sorted x l h
  have hm : x ∈ l.drop (l.countP (· < x)) := by
    have : x ∈ l.take (l.countP (· < x)) ∨ x ∈ l.drop (l.countP (· < x)) := by rw [← List.mem_append, List.take_append_drop]; exact hx
    rcases this with h3 | h3
    · exact absurd (h1 x h3) (Nat.lt_irrefl _)
    · exact h3
  have hlt : l.countP (· < x) < l.length := by
    by_cases hlt : l.countP (· < x) < l.length
    · exact hlt
    · rw [List.drop_eq_nil_of_le (by omega)] at hm; simp at hm
  have hd := List.drop_eq_getElem_cons hlt
  have hs : (l.drop (l.countP (· < x))).Pairwise (· < ·) := h.sublist (List.drop_sublist _ _)
  have he : l[l.countP (· < x)] = x := by
    rw [hd] at hm hs
    rcases List.mem_cons.1 hm with e | e
    · exact e.symm
    · have h5 := (List.pairwise_cons.1 hs).1 x e
      have h6 := h2 l[l.countP (· < x)] (by rw [hd]; exact List.mem_cons_self)
      omega
  refine ⟨hlt, ?_⟩
  conv => lhs; rw [← List.take_append_drop (l.countP (· < x)) l, hd, he]
theorem del_length {x : Nat} {l : List Nat} (h : l.Pairwise (· < ·)) (hx : x ∈ l) : (del x l).length + 1 = l.length := by
  obtain ⟨h1, h2⟩ := del_of_mem h hx
  unfold del; simp; omega
theorem del_sorted {x : Nat} {l : List Nat} (h : l.Pairwise (· < ·)) (hx : x ∈ l) : (del x l).Pairwise (· < ·) := by
  obtain ⟨h1, h2⟩ := del_of_mem h hx
  refine h.sublist ?_
  unfold del
  conv => rhs; rw [h2]
  exact List.Sublist.append (List.Sublist.refl _) (List.sublist_cons_self _ _)
theorem mem_del {x y : Nat} {l : List Nat} (h : l.Pairwise (· < ·)) (hx : x ∈ l) : y ∈ del x l ↔ y ∈ l ∧ y ≠ x := by
  obtain ⟨h1, h2⟩ := del_of_mem h hx
  have h3 := h
  rw [h2, List.pairwise_append] at h3
  have h4 := List.pairwise_cons.1 h3.2.1
  have : y ∈ l ↔ y ∈ l.take (l.countP (· < x)) ∨ y = x ∨ y ∈ l.drop (l.countP (· < x) + 1) := by
    conv => lhs; rw [h2]
    simp only [List.mem_append, List.mem_cons]
  rw [this]
  unfold del
  rw [List.mem_append]
  constructor
  · rintro (h5 | h5)
    · exact ⟨.inl h5, fun e => by subst e; exact absurd (h3.2.2 y h5 y (by simp)) (Nat.lt_irrefl _)⟩
    · exact ⟨.inr (.inr h5), fun e => by subst e; exact absurd (h4.1 y h5) (Nat.lt_irrefl _)⟩
  · rintro ⟨h5 | h5 | h5, h6⟩
    · exact .inl h5
    · exact absurd h5 h6
    · exact .inr h5
set_option maxHeartbeats 1000000 in
theorem insert_ok {w : World} {p n tb : Nat} {tk : Nat → Nat} {L : Nat → List Nat} {V : Nat → Value} (x o : Nat) (h : Bud w p n tk L tb V) (ho : o < 11) (hs : (L o).Pairwise (· < ·)) (hl : (L o).length ≤ 2048) {xi oi : Int} (ex : xi = x) (eo : oi = o) :
    Calls Tryd.prog 32 #[.pointer (some ⟨p, 0, none⟩), .int .i64 xi, .int .i64 oi] w fun e w' => ∃ v V', e = .returned v ∧ Bud w' p n tk (fun j => if j = o then ins x (L j) else L j) tb V' ∧ Kept (foot p tb V) w w' ∧ Grew w.heap.size V V' := by
  subst ex eo
  have hc := h.cell o ho
  go_enter Tryd.func32, Tryd.ntmps32
  go_wp2_with fail
  refine (search_any x (h.list o ho) hs (by omega)).mono ?_
  rintro e w1 ⟨rfl, q, hw1⟩
  have h1 : Bud w1 p n tk L tb V := by rw [hw1]; exact h.kept0 ((Kept.refl [] w).drewN q)
  have hk1 : Kept [] w w1 := by rw [hw1]; exact (Kept.refl [] w).drewN q
  have hc1 := h1.cell o ho
  have H1 := hide h1
  have H := hide h
  have K1 := hide hk1
  clear hw1 h1 h hk1 hc
  go_wp2_with fail
  have hb1 : (0 : Int) ≤ (o : Int) := by omega
  have hb2 : (o : Int) < 11 := by omega
  have hcnt := List.countP_le_length (p := (· < x)) (l := L o)
  obtain ⟨c, hcE⟩ : ∃ c, c = (L o).countP (· < x) := ⟨_, rfl⟩
  rw [← hcE]
  rw [← hcE] at hcnt
  have hcH := hide hcE
  clear hcE
  have hne1 : ∀ b, (V o).ownBlock = some b → b ≠ w1.heap.size := fun b hb e => by have := H1.out.lt b (mem_foot.2 (.inr (.inr ⟨o, ho, hb⟩))); omega
  have npo := H1.out.np o ho
  have hfz : ∀ i, w1.frozen? ⟨p, i, none⟩ = false := fun i => H1.out.row.frozen i
  have hplt := H1.out.row.lt
  have hrowN : (w1.alloc (.cells #[.int .i64 x] 3)).rowIs w1.heap.size 3 1 (fun _ => iv x) := World.rowIs_alloc w1 #[.int .i64 x] 3 (fun _ => iv x) (fun i hi => by
    have : i = 0 := by simpa using hi
    subst this; rfl)
  have HR := hide hrowN
  clear hrowN
  go_region_with ((go_at_call 41; refine (insert_any c x w1.heap.size (NL.kept (F := []) (H1.out.list o ho) (by first | exact (Kept.refl [] w1).alloc _ | exact ((Kept.refl [] w1).alloc _).drew | exact ((Kept.refl [] w1).drew.alloc _)) (by simp)) hcnt (by omega) (by exact HR.out) (fun e => hne1 _ e rfl)).mono ?_; rintro e w2 ⟨v', rfl, hl2, hb2', hk2⟩; obtain ⟨ao2, n2, cp2, hv2⟩ := hl2.shape; subst hv2; have s1 : w2.cell? ⟨p, 1 + o, none⟩ = some (V o) := hk2.cell (((Kept.refl [] w1).alloc (.cells #[.int .i64 x] 3)).cell hc1 (by simp)) (by simpa using npo); have s2 : w2.frozen? ⟨p, 1 + o, none⟩ = false := (hk2.row (((Kept.refl [] w1).alloc (.cells #[.int .i64 x] 3)).row H1.out.row (by simp)) (by simpa using npo)).frozen _))
  all_goals go_end0
  all_goals
    have hkA : Kept (V o).ownBlock.toList w1 w2 := (((Kept.refl _ w1).alloc (.cells #[.int .i64 x] 3)).drew).trans hk2 (fun _ h _ => h)
    refine ⟨_, _, rfl, cast (by congr 1; funext j; by_cases hj : j = o <;> simp [hj, ins, ← hcH.out]) (H1.out.swap o ho _ _ hkA hl2 (hb2'.imp id (fun e => ⟨_, e, by simp [World.drew]⟩))), ?_, ?_⟩
    · exact ((K1.out.mono (fun _ h => by simp at h)).trans hkA (fun y hy _ => mem_foot.2 (.inr (.inr ⟨o, ho, by simpa using hy⟩)))).setCell (p := ⟨p, 1 + o, none⟩) (fun _ => mem_foot.2 (.inl rfl)) _
    · intro j b hj hb
      by_cases hjo : j = o
      · subst hjo
        simp only [if_true] at hb
        rcases hb2' with e | e
        · exact .inl (by rw [← e]; exact hb)
        · rw [e] at hb
          cases hb
          exact .inr (by have := K1.out.size; simp [World.drew]; omega)
      · simp only [if_neg hjo] at hb
        exact .inl hb
set_option maxHeartbeats 1000000 in
theorem remove_no {w : World} {p n tb : Nat} {tk : Nat → Nat} {L : Nat → List Nat} {V : Nat → Value} (x o : Nat) (h : Bud w p n tk L tb V) (ho : o < 11) (hs : (L o).Pairwise (· < ·)) (hl : (L o).length ≤ 2048) (hx : x ∉ L o) {xi oi : Int} (ex : xi = x) (eo : oi = o) :
    Calls Tryd.prog 31 #[.pointer (some ⟨p, 0, none⟩), .int .i64 xi, .int .i64 oi] w fun e w' => e = .returned (.bool false) ∧ Kept [] w w' := by
  subst ex eo
  have hc := h.cell o ho
  go_enter Tryd.func31, Tryd.ntmps31
  go_wp2_with fail
  refine (search_any x (h.list o ho) hs (by omega)).mono ?_
  rintro e w1 ⟨rfl, q, hw1⟩
  have K1 := hide (show Kept [] w w1 by rw [hw1]; exact (Kept.refl [] w).drewN q)
  clear hw1 h hc
  go_wp2
  go_ret
  exact ⟨rfl, K1.out⟩

set_option maxHeartbeats 1000000 in
theorem remove_ok {w : World} {p n tb : Nat} {tk : Nat → Nat} {L : Nat → List Nat} {V : Nat → Value} (x o : Nat) (h : Bud w p n tk L tb V) (ho : o < 11) (hs : (L o).Pairwise (· < ·)) (hl : (L o).length ≤ 2048) (hx : x ∈ L o) {xi oi : Int} (ex : xi = x) (eo : oi = o) :
    Calls Tryd.prog 31 #[.pointer (some ⟨p, 0, none⟩), .int .i64 xi, .int .i64 oi] w fun e w' => ∃ V', e = .returned (.bool true) ∧ Bud w' p n tk (fun j => if j = o then del x (L j) else L j) tb V' ∧ Kept (foot p tb V) w w' ∧ Grew w.heap.size V V' := by
  subst ex eo
  have hc := h.cell o ho
  go_enter Tryd.func31, Tryd.ntmps31
  go_wp2_with fail
  refine (search_any x (h.list o ho) hs (by omega)).mono ?_
  rintro e w1 ⟨rfl, q, hw1⟩
  have h1 : Bud w1 p n tk L tb V := by rw [hw1]; exact h.kept0 ((Kept.refl [] w).drewN q)
  have hk1 : Kept [] w w1 := by rw [hw1]; exact (Kept.refl [] w).drewN q
  have hc1 := h1.cell o ho
  have hcnt := (del_of_mem hs hx).1
  obtain ⟨c, hcE⟩ : ∃ c, c = (L o).countP (· < x) := ⟨_, rfl⟩
  rw [← hcE]
  rw [← hcE] at hcnt
  have hcH := hide hcE
  have H1 := hide h1
  have K1 := hide hk1
  clear hw1 h1 h hk1 hc hcE
  have hb1 : (0 : Int) ≤ (o : Int) := by omega
  have hb2 : (o : Int) < 11 := by omega
  have npo := H1.out.np o ho
  have hfz : ∀ i, w1.frozen? ⟨p, i, none⟩ = false := fun i => H1.out.row.frozen i
  go_wp2
  go_region_with ((go_at_call 40; refine (delete_any c (NL.kept (F := []) (H1.out.list o ho) (by first | exact Kept.refl [] w1 | exact (Kept.refl [] w1).drew) (by simp)) hcnt (by rw [IntKind.wrap_i64]; omega)).mono ?_; rintro e w2 ⟨v', rfl, hl2, hb2', hk2⟩; obtain ⟨ao2, n2, cp2, hv2⟩ := hl2.shape; subst hv2; have s1 : w2.cell? ⟨p, 1 + o, none⟩ = some (V o) := hk2.cell hc1 (by simpa using npo); have s2 : w2.frozen? ⟨p, 1 + o, none⟩ = false := (hk2.row H1.out.row (by simpa using npo)).frozen _))
  all_goals go_wp2
  all_goals go_ret
  all_goals
    have hkA : Kept (V o).ownBlock.toList w1 w2 := ((Kept.refl _ w1).drew).trans hk2 (fun _ h _ => h)
    refine ⟨_, rfl, cast (by congr 1; funext j; by_cases hj : j = o <;> simp [hj, del, ← hcH.out]) (H1.out.swap o ho _ _ hkA hl2 (.inl hb2')), ?_, ?_⟩
    · exact ((K1.out.mono (fun _ h => by simp at h)).trans hkA (fun y hy _ => mem_foot.2 (.inr (.inr ⟨o, ho, by simpa using hy⟩)))).setCell (p := ⟨p, 1 + o, none⟩) (fun _ => mem_foot.2 (.inl rfl)) _
    · intro j b hj hb
      by_cases hjo : j = o
      · subst hjo
        simp only [if_true] at hb
        exact .inl (by rw [← hb2']; exact hb)
      · simp only [if_neg hjo] at hb
        exact .inl hb
end Go.Proofs.YtpljldjdemobbaaDoor.By
