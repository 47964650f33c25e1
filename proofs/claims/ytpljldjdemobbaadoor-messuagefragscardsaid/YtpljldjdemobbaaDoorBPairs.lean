
/-
  No statement of the program: a buddy and a row of the runs that are taken from it, over this seat's translation.
-/
import Derived.Test.YtpljldjdemobbaaDoorOwn2
namespace Go.Proofs.YtpljldjdemobbaaDoor.By
open Go.ChangeShapes Go.WideShapes Go.ChangeAt Go.RowKit
def flat (l : List (Nat × Nat)) : List Value := l.flatMap (fun p => [iv p.1, iv p.2])
theorem flat_nil : flat [] = [] := rfl
theorem flat_cons (p : Nat × Nat) (l : List (Nat × Nat)) : flat (p :: l) = iv p.1 :: iv p.2 :: flat l := rfl
theorem flat_append (l m : List (Nat × Nat)) : flat (l ++ m) = flat l ++ flat m := by simp [flat]
theorem flat_length : ∀ l : List (Nat × Nat), (flat l).length = l.length * 2
  | [] => rfl
  | p :: l => by rw [flat_cons, List.length_cons, List.length_cons, flat_length l, List.length_cons]; omega
theorem flat_get : ∀ (l : List (Nat × Nat)) (k : Nat), k < l.length → (flat l)[k * 2]? = some (iv (l.getD k (0, 0)).1) ∧ (flat l)[k * 2 + 1]? = some (iv (l.getD k (0, 0)).2)
  | p :: l, 0, _ => ⟨rfl, rfl⟩
  | p :: l, k + 1, h => by
    have ih := flat_get l k (by simpa using h)
    rw [flat_cons, show (k + 1) * 2 = k * 2 + 1 + 1 by omega]
    exact ih
theorem flat_take : ∀ (l : List (Nat × Nat)) (k : Nat), flat (l.take k) = (flat l).take (k * 2)
  | _, 0 => by simp [flat]
  | [], k + 1 => by simp [flat]
  | p :: l, k + 1 => by rw [List.take_succ_cons, flat_cons, flat_cons, flat_take l k, show (k + 1) * 2 = k * 2 + 1 + 1 by omega]; rfl
theorem flat_drop : ∀ (l : List (Nat × Nat)) (k : Nat), flat (l.drop k) = (flat l).drop (k * 2)
  | _, 0 => by simp
  | [], k + 1 => by simp [flat]
  | p :: l, k + 1 => by rw [List.drop_succ_cons, flat_cons, flat_drop l k, show (k + 1) * 2 = k * 2 + 1 + 1 by omega]; rfl
theorem one_flat (l : List (Nat × Nat)) : ∀ u, u ∈ flat l → u.oneCell' = true := by
  intro u hu
  simp only [flat, List.mem_flatMap] at hu
  obtain ⟨p, -, h⟩ := hu
  rcases List.mem_cons.1 h with rfl | h
  · rfl
  · rw [List.mem_singleton.1 h]; rfl
theorem info45 : (Tryd.prog.info? 49).map (fun i => (i.zero, i.size, i.bytes)) = some (some (.agg #[.int .i64 0, .int .i64 0]), 2, 16) := by kernel_rfl
theorem hi45e : ∃ i, Tryd.prog.info? 49 = some i ∧ i.zero = some (.agg #[.int .i64 0, .int .i64 0]) ∧ i.size = 2 ∧ i.bytes = 16 := by
  have := info45
  obtain ⟨i, h1, h2⟩ := Option.map_eq_some_iff.1 this
  simp only [Prod.mk.injEq] at h2
  exact ⟨i, h1, h2.1, h2.2.1, h2.2.2⟩
/-- A buddy of which the runs t are taken; l lies in v. -/
structure BW (w wr : World) (p K : Nat) (u : Nat → Bool) (tk : Nat → Nat) (f : Nat) (F : List Nat) (t l : List (Nat × Nat)) (v : Value) : Prop where
  bs : BS wr p K u tk f F
  tkt : ∀ A o, A < 2 ^ K → (tk A = o + 1 ↔ (A, o) ∈ t)
  nd : t.Nodup
  lt : ∀ A o, (A, o) ∈ t → A < 2 ^ K ∧ o ≤ 10
  new : ∀ x, x ∈ F → w.heap.size ≤ x
  kept : Kept [] w wr
  own : wr.ownsRow w.heap.size 49 2 v l.length (flat l)
  far : ∀ g, v.ownBlock = some g → g ∉ F
namespace BW
variable {w wr w' : World} {p K f : Nat} {u : Nat → Bool} {tk : Nat → Nat} {F : List Nat} {t t' l l' : List (Nat × Nat)} {v v' : Value}
theorem next (h : BW w wr p K u tk f F t l v) (hk : Kept [] wr w') : BW w w' p K u tk f F t l v :=
  ⟨h.bs.kept0 hk, h.tkt, h.nd, h.lt, h.new, h.kept.next hk, own_kept h.own hk (fun x hx => by simp at hx), h.far⟩
/-- A call that changed nothing old but one block of its own, which is none of the buddy's and not the row's. -/
theorem side (h : BW w wr p K u tk f F t l v) {b : Nat} (hk : Kept [b] wr w') (hb : w.heap.size ≤ b) (hF : b ∉ F) (hv : v.ownBlock ≠ some b) : BW w w' p K u tk f F t l v :=
  ⟨h.bs.kept hk (fun x hx hm => hF (by have := List.mem_singleton.1 hm; rw [← this]; exact hx)), h.tkt, h.nd, h.lt, h.new, h.kept.trans hk (fun x hx hl => by have := List.mem_singleton.1 hx; omega), own_far h.own hk (fun g hg hm => hv (by rw [hg]; have := List.mem_singleton.1 hm; rw [this])), h.far⟩
theorem put {w3 w4 : World} (h : BW w wr p K u tk f F t l v) (hk : Kept [] wr w3) (hg : w3.grownBy w4 v.ownBlock) (hb : v'.ownBlock = v.ownBlock ∨ v'.ownBlock = some w3.heap.size) (ho : w4.ownsRow w.heap.size 49 2 v' l'.length (flat l')) : BW w w4 p K u tk f F t l' v' := by
  have h3 := h.next hk
  have hk4 : Kept v.ownBlock.toList w3 w4 := Kept.of_grownBy hg (fun k hk _ => by simp [hk])
  refine ⟨h3.bs.kept hk4 (fun x hx hm => h3.far x (by simpa using hm) hx), h.tkt, h.nd, h.lt, h.new, own_grown h3.own hg w h3.kept (Nat.le_refl _), ho, fun g hg' hF => ?_⟩
  rcases hb with e | e
  · exact h.far g (by rw [← e]; exact hg') hF
  · rw [e] at hg'
    obtain rfl := Option.some.inj hg'
    exact Nat.lt_irrefl _ (h3.bs.lt _ hF)
theorem swap {w6 : World} (h : BW w wr p K u tk f F t l v) (hk : Kept [] wr w6) (ho : w6.ownsRow wr.heap.size 49 2 v' l'.length (flat l')) : BW w w6 p K u tk f F t l' v' :=
  ⟨h.bs.kept0 hk, h.tkt, h.nd, h.lt, h.new, h.kept.next hk, own_base ho h.kept.size, fun g hg hF => by
    have := (ho.lt g hg).1
    have := h.bs.lt g hF
    omega⟩
theorem take (h : BW w wr p K u tk f F t l v) (o A : Nat) (ho : o ≤ 10) (hA : Finds u o A) {oi : Int} (eo : oi = o) :
    Calls Tryd.prog 18 #[.pointer (some ⟨p, 0, none⟩), .int .i64 oi] wr fun e w' => ∃ f' F', e = .returned (.tuple #[.int .i64 A, .int .i64 0]) ∧ BW w w' p K (upd u (A / 2 ^ o) o true) (fun i => if i = A then o + 1 else tk i) f' F' (t ++ [(A, o)]) l v ∧ Kept F wr w' ∧ ∀ x, x ∈ F' → x ∈ F ∨ wr.heap.size ≤ x := by
  obtain ⟨a1, a2, a3, a4, a5⟩ := h.bs.at_ hA
  refine (bs_takeA o A h.bs hA eo).mono ?_
  rintro e w' ⟨f', F', rfl, hf', hB, hk, hF⟩
  have hnot : ∀ o', (A, o') ∉ t := fun o' hm => by have := (h.tkt A o' a1).2 hm; omega
  refine ⟨f', F', rfl, ⟨hB, fun B o' hB' => ?_, ?_, fun B o' hm => ?_, fun x hx => ?_, h.kept.trans hk (fun x hx hl => by have := h.new x hx; omega), own_far h.own hk (fun g hg hm => h.far g hg hm), fun g hg hm => ?_⟩, hk, hF⟩
  · rw [List.mem_append, List.mem_singleton]
    by_cases hBA : B = A
    · subst hBA
      simp only [if_true]
      constructor
      · intro e; exact .inr (by rw [show o' = o by omega])
      · rintro (h1 | h1)
        · exact absurd h1 (hnot o')
        · have := congrArg Prod.snd h1; simp at this; omega
    · simp only [if_neg hBA]
      rw [h.tkt B o' hB']
      exact ⟨.inl, fun h1 => h1.elim id (fun h2 => absurd (congrArg Prod.fst h2) hBA)⟩
  · rw [List.nodup_append]
    exact ⟨h.nd, by simp, fun a ha b hb => by have := List.mem_singleton.1 hb; subst this; exact fun e => hnot o (e ▸ ha)⟩
  · rcases List.mem_append.1 hm with h1 | h1
    · exact h.lt B o' h1
    · have := List.mem_singleton.1 h1
      cases this
      exact ⟨a1, ho⟩
  · exact (hF x hx).elim (h.new x) (fun h1 => Nat.le_trans h.kept.size h1)
  · rcases hF g hm with h1 | h1
    · exact h.far g hg h1
    · have := (h.own.lt g hg).2; omega
theorem nun (h : BW w wr p K u tk f F t l v) (o : Nat) (ho : o ≤ 10) (hn : Nun u o) {oi : Int} (eo : oi = o) :
    Calls Tryd.prog 18 #[.pointer (some ⟨p, 0, none⟩), .int .i64 oi] wr fun e w' => e = .returned (.tuple #[.int .i64 0, .int .i64 5]) ∧ w' = wr := bs_none o h.bs ho hn eo
theorem give (h : BW w wr p K u tk f F t l v) (A o : Nat) (hm : (A, o) ∈ t) (hn : t'.Nodup) (ht : ∀ y, y ∈ t' ↔ y ∈ t ∧ y ≠ (A, o)) {ai oi : Int} (ea : ai = A) (eo : oi = o) :
    Calls Tryd.prog 20 #[.pointer (some ⟨p, 0, none⟩), .int .i64 ai, .int .i64 oi] wr fun e w' => ∃ u' tk' f' F', e = .returned (.int .i64 0) ∧ BW w w' p K u' tk' f' F' t' l v := by
  obtain ⟨a1, a2⟩ := h.lt A o hm
  have hta := (h.tkt A o a1).2 hm
  refine (bs_give A o h.bs a1 hta ea eo).mono ?_
  rintro e w' ⟨F', rfl, hB, hk, hF⟩
  refine ⟨_, _, _, F', rfl, ⟨hB, fun B o' hB' => ?_, hn, fun B o' hm => h.lt B o' ((ht _).1 hm).1, fun x hx => ?_, h.kept.trans hk (fun x hx hl => by have := h.new x hx; omega), own_far h.own hk (fun g hg hm => h.far g hg hm), fun g hg hm => ?_⟩⟩
  · rw [ht]
    by_cases hBA : B = A
    · subst hBA
      simp only [if_true]
      constructor
      · intro e; omega
      · rintro ⟨h1, h2⟩
        have := (h.tkt B o' hB').2 h1
        exact absurd (show (B, o') = (B, o) by rw [show o' = o by omega]) h2
    · simp only [if_neg hBA]
      rw [h.tkt B o' hB']
      exact ⟨fun h1 => ⟨h1, fun e => hBA (congrArg Prod.fst e)⟩, fun h1 => h1.1⟩
  · exact (hF x hx).elim (h.new x) (fun h1 => Nat.le_trans h.kept.size h1)
  · rcases hF g hm with h1 | h1
    · exact h.far g hg h1
    · have := (h.own.lt g hg).2; omega
theorem give_no (h : BW w wr p K u tk f F t l v) (A o : Nat) (ho : o ≤ 10) (hm : (A, o) ∉ t) {ai oi : Int} (ea : ai = A) (eo : oi = o) :
    Calls Tryd.prog 20 #[.pointer (some ⟨p, 0, none⟩), .int .i64 ai, .int .i64 oi] wr fun e w' => e = .returned (.int .i64 6) ∧ BW w w' p K u tk f F t l v := by
  refine (bs_bad o h.bs ho eo (fun a ha hlt e => hm ?_)).mono ?_
  · have : a = A := by omega
    subst this
    exact (h.tkt a o hlt).1 e
  · rintro e w' ⟨rfl, hk⟩
    exact ⟨rfl, h.next hk⟩
end BW
theorem drop_two {l : List (Nat × Nat)} (hn : l.Nodup) {k : Nat} (hk : k < l.length) : (l.take k ++ l.drop (k + 1)).Nodup ∧ (∀ y, y ∈ l.take k ++ l.drop (k + 1) ↔ y ∈ l ∧ y ≠ l.getD k (0, 0)) ∧ l.getD k (0, 0) ∈ l ∧ l.getD k (0, 0) ∉ l.take k ++ l.drop (k + 1) ∧ (l.take k ++ l.drop (k + 1)).length + 1 = l.length := by
  have hd := List.drop_eq_getElem_cons hk
  have e : l.getD k (0, 0) = l[k] := by simp [hk]
  rw [e]
  have hl : l = l.take k ++ l[k] :: l.drop (k + 1) := by rw [← hd, List.take_append_drop]
  have hn2 := hn
  rw [hl, List.nodup_append] at hn2
  obtain ⟨n1, n2, n3⟩ := hn2
  have n4 := List.nodup_cons.1 n2
  have hmem : ∀ y, y ∈ l ↔ y ∈ l.take k ∨ y = l[k] ∨ y ∈ l.drop (k + 1) := fun y => by
    conv => lhs; rw [hl]
    simp only [List.mem_append, List.mem_cons]
  have hxn : l[k] ∉ l.take k ++ l.drop (k + 1) := fun h => by
    rcases List.mem_append.1 h with h | h
    · exact n3 _ h _ List.mem_cons_self rfl
    · exact n4.1 h
  refine ⟨?_, fun y => ?_, List.getElem_mem hk, hxn, by simp; omega⟩
  · rw [List.nodup_append]
    exact ⟨n1, n4.2, fun a ha b hb => n3 a ha b (List.mem_cons_of_mem _ hb)⟩
  · rw [hmem]
    constructor
    · intro h
      refine ⟨?_, fun e => hxn (e ▸ h)⟩
      rcases List.mem_append.1 h with h | h
      · exact .inl h
      · exact .inr (.inr h)
    · rintro ⟨h | h | h, hne⟩
      · exact List.mem_append.2 (.inl h)
      · exact absurd h hne
      · exact List.mem_append.2 (.inr h)
/-- In the first loop: 'used' lies at ub. -/
def Sta (w wr : World) (p K n ub : Nat) (l : List (Nat × Nat)) (v : Value) : Prop :=
  ∃ u tk f F, BW w wr p K u tk f F l l v ∧ wr.rowIs ub 4 n (fun i => .bool (u i)) ∧ ub ∉ F ∧ v.ownBlock ≠ some ub ∧ w.heap.size ≤ ub
/-- In its inner loop: the run at A is taken, and 'used' says so up to j. -/
def Stb (w wr : World) (p K n ub A y j : Nat) (t l : List (Nat × Nat)) (v : Value) : Prop :=
  ∃ u tk f F, BW w wr p K u tk f F t l v ∧ wr.rowIs ub 4 n (fun i => .bool (if A ≤ i ∧ i < A + y then decide (i < j) else u i)) ∧ ub ∉ F ∧ v.ownBlock ≠ some ub ∧ w.heap.size ≤ ub ∧ (∀ i, A ≤ i → i < A + y → u i = true)
theorem Sta.kept {w wr : World} {p K n ub : Nat} {l : List (Nat × Nat)} {v : Value} (h : Sta w wr p K n ub l v) : Kept [] w wr := by
  obtain ⟨u, tk, f, F, h, -⟩ := h
  exact h.kept
theorem Sta.call {w wr : World} {p K n ub : Nat} {l : List (Nat × Nat)} {v : Value} (h : Sta w wr p K n ub l v) (hn : n = 2 ^ K) (o : Nat) (ho : o ≤ 4) :
    (∃ A, A % 2 ^ o = 0 ∧ A + 2 ^ o ≤ n ∧ ∀ {oi : Int}, oi = o → Calls Tryd.prog 18 #[.pointer (some ⟨p, 0, none⟩), .int .i64 oi] wr fun e w' => e = .returned (.tuple #[.int .i64 A, .int .i64 0]) ∧ Stb w w' p K n ub A (2 ^ o) A (l ++ [(A, o)]) l v) ∨
    (∀ {oi : Int}, oi = o → Calls Tryd.prog 18 #[.pointer (some ⟨p, 0, none⟩), .int .i64 oi] wr fun e w' => e = .returned (.tuple #[.int .i64 0, .int .i64 5]) ∧ w' = wr) := by
  obtain ⟨u, tk, f, F, hB, hr, hF, hv, hub⟩ := h
  rcases hB.bs.finds o with ⟨A, hA⟩ | hno
  · obtain ⟨a1, a2, a3, a4, a5⟩ := hB.bs.at_ hA
    refine .inl ⟨A, ?_, ?_, fun {oi} eo => ?_⟩
    · rw [← a5, Nat.mul_mod_left]
    · rw [Nat.add_mul, a5, Nat.one_mul, ← hn] at a4; exact a4
    · refine (hB.take o A (by omega) hA eo).mono ?_
      rintro e w' ⟨f', F', rfl, hB', hk, hF'⟩
      have hul := hr.lt
      have hblk : ∀ i, A ≤ i → i < A + 2 ^ o → i / 2 ^ o = A / 2 ^ o := fun i h1 h2 => blk_iff.2 (by rw [a5]; exact ⟨h1, h2⟩)
      refine ⟨rfl, _, _, f', F', hB', (hk.row hr hF).congr (fun i hi => ?_), fun hm => ?_, hv, hub, fun i h1 h2 => upd_in (hblk i h1 h2)⟩
      · by_cases h1 : A ≤ i ∧ i < A + 2 ^ o
        · rw [if_pos h1, a3 i (hblk i h1.1 h1.2)]
          congr 1; simp; omega
        · rw [if_neg h1, upd_out (fun e => h1 (by have := blk_iff.1 e; rw [a5] at this; exact this))]
      · rcases hF' ub hm with h1 | h1
        · exact hF h1
        · omega
  · exact .inr fun {oi} eo => hB.nun o (by omega) hno eo
theorem Stb.cell {w wr : World} {p K n ub A y j : Nat} {t l : List (Nat × Nat)} {v : Value} (h : Stb w wr p K n ub A y j t l v) (h1 : A ≤ j) (h2 : j < A + y) (h3 : A + y ≤ n) : wr.cell? ⟨ub, j, none⟩ = some (.bool false) ∧ wr.frozen? ⟨ub, j, none⟩ = false ∧
    Stb w (wr.setCell ⟨ub, j, none⟩ (.bool true)) p K n ub A y (j + 1) t l v := by
  obtain ⟨u, tk, f, F, hB, hr, hF, hv, hub, hu⟩ := h
  refine ⟨?_, hr.frozen j, u, tk, f, F, hB.side ((Kept.refl [ub] wr).setCell (p := ⟨ub, j, none⟩) (fun _ => by simp) _) hub hF hv, (hr.set j (.bool true)).congr (fun i hi => ?_), hF, hv, hub, hu⟩
  · rw [hr.cell (by omega), if_pos ⟨h1, h2⟩]; simp
  · by_cases hij : i = j
    · subst hij; simp [h1, h2]
    · rw [if_neg hij]
      by_cases h4 : A ≤ i ∧ i < A + y
      · rw [if_pos h4, if_pos h4]; congr 1; simp; omega
      · rw [if_neg h4, if_neg h4]
theorem Stb.done {w wr w3 w4 : World} {p K n ub A y : Nat} {t l : List (Nat × Nat)} {v v' : Value} (h : Stb w wr p K n ub A y (A + y) t l v) (hk : Kept [] wr w3) (hg : w3.grownBy w4 v.ownBlock) (hb : v'.ownBlock = v.ownBlock ∨ v'.ownBlock = some w3.heap.size) (ho : w4.ownsRow w.heap.size 49 2 v' t.length (flat t)) : Sta w w4 p K n ub t v' := by
  obtain ⟨u, tk, f, F, hB, hr, hF, hv, hub, hu⟩ := h
  have hk4 : Kept v.ownBlock.toList w3 w4 := Kept.of_grownBy hg (fun k hk _ => by simp [hk])
  have hr3 := hk.row hr (by simp)
  refine ⟨u, tk, f, F, hB.put hk hg hb ho, (hk4.row hr3 (fun hm => hv (by simpa using hm))).congr (fun i hi => ?_), hF, fun e => ?_, hub⟩
  · by_cases h4 : A ≤ i ∧ i < A + y
    · rw [if_pos h4, hu i h4.1 h4.2]; congr 1; simp; omega
    · rw [if_neg h4]
  · rcases hb with h1 | h1
    · exact hv (by rw [← h1]; exact e)
    · rw [h1] at e
      have := hr3.lt
      have := Option.some.inj e
      omega
theorem Stb.own {w wr : World} {p K n ub A y j : Nat} {t l : List (Nat × Nat)} {v : Value} (h : Stb w wr p K n ub A y j t l v) : wr.ownsRow w.heap.size 49 2 v l.length (flat l) ∧ Kept [] w wr := by
  obtain ⟨u, tk, f, F, hB, -⟩ := h
  exact ⟨hB.own, hB.kept⟩
theorem news_two {w : World} {a b : Value} {t : TypeId} : ∀ j u, [a, b][j]? = some u → (w.alloc (.cells #[a, b] t)).cell? ((⟨w.heap.size, 0, none⟩ : Addr).add j) = some u := by
  intro j u hu
  have := getElem?_lt hu
  rcases (show j = 0 ∨ j = 1 by simp at this; omega) with rfl | rfl
  · rw [add_plain, World.cell?_alloc_mark]; simpa using hu
  · rw [add_plain, World.cell?_alloc_mark]; simpa using hu
end Go.Proofs.YtpljldjdemobbaaDoor.By
