
/-
  No statement of the program: a buddy and the document's buddy, side by side, over this seat's translation.
-/
import Derived.Test.YtpljldjdemobbaaDoorBRef4
namespace Go.Proofs.YtpljldjdemobbaaDoor.By
open Go.ChangeShapes Go.WideShapes Go.ChangeAt Go.RowKit
theorem cnt_congr {n : Nat} {u v : Nat → Bool} (h : ∀ i, i < n → u i = v i) : cnt n u = cnt n v := by
  induction n with
  | zero => rfl
  | succ n ih => rw [cnt_succ, cnt_succ, ih (fun i hi => h i (by omega)), h n (by omega)]
theorem cnt_point {n i0 : Nat} {u v : Nat → Bool} (h0 : i0 < n) (hu : u i0 = false) (hv : v i0 = true) (h : ∀ i, i ≠ i0 → u i = v i) : cnt n u = cnt n v + 1 := by
  induction n with
  | zero => omega
  | succ n ih =>
    rw [cnt_succ, cnt_succ]
    by_cases e : i0 = n
    · subst e
      rw [hu, hv, cnt_congr (n := i0) (fun i hi => h i (by omega))]; simp
    · rw [ih (by omega), h n (fun x => e x.symm)]; split <;> omega
theorem cnt_block {n a : Nat} : ∀ (y : Nat) (u : Nat → Bool), a + y ≤ n → cnt n (fun i => if a ≤ i ∧ i < a + y then false else u i) = cnt n (fun i => if a ≤ i ∧ i < a + y then true else u i) + y
  | 0, u, _ => by
    have e : ∀ b : Bool, (fun i => if a ≤ i ∧ i < a + 0 then b else u i) = u := fun b => by
      funext i
      rw [if_neg (by omega)]
    rw [e, e]; rfl
  | y + 1, u, h => by
    have ih := cnt_block (n := n) (a := a) y (fun i => if i = a + y then false else u i) (by omega)
    have e1 : cnt n (fun i => if a ≤ i ∧ i < a + (y + 1) then false else u i) = cnt n (fun i => if a ≤ i ∧ i < a + y then false else (fun i => if i = a + y then false else u i) i) := cnt_congr (fun i _ => by
      by_cases h1 : a ≤ i ∧ i < a + y
      · rw [if_pos h1, if_pos (by omega)]
      · rw [if_neg h1]
        show _ = if i = a + y then false else u i
        by_cases h2 : i = a + y
        · rw [if_pos h2, if_pos (by omega)]
        · rw [if_neg h2, if_neg (by omega)])
    have e2 : cnt n (fun i => if a ≤ i ∧ i < a + y then true else (fun i => if i = a + y then false else u i) i) = cnt n (fun i => if a ≤ i ∧ i < a + (y + 1) then true else u i) + 1 := by
      refine cnt_point (i0 := a + y) (by omega) ?_ ?_ (fun i hi => ?_)
      · simp
      · simp
      · by_cases h1 : a ≤ i ∧ i < a + y
        · rw [if_pos h1, if_pos (by omega)]
        · rw [if_neg h1, if_neg (by omega)]; simp [hi]
    rw [e1, ih, e2]; omega
theorem cnt_upd {n q o : Nat} {u : Nat → Bool} (hin : (q + 1) * 2 ^ o ≤ n) : cnt n (upd u q o false) = cnt n (upd u q o true) + 2 ^ o := by
  have e : ∀ b, upd u q o b = fun i => if q * 2 ^ o ≤ i ∧ i < q * 2 ^ o + 2 ^ o then b else u i := fun b => by
    funext i
    unfold upd
    by_cases h1 : i / 2 ^ o = q
    · rw [if_pos h1, if_pos (blk_iff.1 h1)]
    · rw [if_neg h1, if_neg (fun h2 => h1 (blk_iff.2 h2))]
  rw [e, e]
  exact cnt_block (2 ^ o) u (by rw [Nat.add_mul, Nat.one_mul] at hin; exact hin)
theorem upd_same {u : Nat → Bool} {q o : Nat} {b : Bool} (h : ∀ i, i / 2 ^ o = q → u i = b) : upd u q o b = u := by
  funext i
  by_cases h1 : i / 2 ^ o = q
  · rw [upd_in h1, h i h1]
  · rw [upd_out h1]
theorem cnt_take {n q o : Nat} {u : Nat → Bool} (hin : (q + 1) * 2 ^ o ≤ n) (hf : Fr u q o) : cnt n u = cnt n (upd u q o true) + 2 ^ o := by
  have := cnt_upd (u := u) hin
  rw [upd_same hf] at this
  exact this
theorem cnt_give {n q o : Nat} {u : Nat → Bool} (hin : (q + 1) * 2 ^ o ≤ n) (hf : Full u q o) : cnt n (upd u q o false) = cnt n u + 2 ^ o := by
  have := cnt_upd (u := u) hin
  rw [upd_same (b := true) hf] at this
  exact this
/-- A buddy and the document's buddy, side by side: t1 is what is taken of the one, t2 of the other. -/
structure BA (w wr : World) (p K n r ub base : Nat) (u1 : Nat → Bool) (tk : Nat → Nat) (F : List Nat) (t1 : List (Nat × Nat)) (u2 : Nat → Bool) (tv : Value) (t2 : List (Nat × Nat)) : Prop where
  bs : BS wr p K u1 tk (cnt n u1) F
  rb : RB wr r ub n base u2 tv t2
  tkt : ∀ A o, A < 2 ^ K → (tk A = o + 1 ↔ (A, o) ∈ t1)
  nd : t1.Nodup
  lt : ∀ A o, (A, o) ∈ t1 → A < 2 ^ K ∧ o ≤ 10
  newF : ∀ x, x ∈ F → w.heap.size ≤ x
  newR : ∀ x, x ∈ rfoot r ub tv → w.heap.size ≤ x
  ap : ∀ x, x ∈ F → x ∉ rfoot r ub tv
  kept : Kept [] w wr
  bl : base ≤ wr.heap.size
namespace BA
variable {w wr w' : World} {p K n r ub base : Nat} {u1 u2 : Nat → Bool} {tk : Nat → Nat} {F : List Nat} {t1 t2 : List (Nat × Nat)} {tv : Value}
theorem next (h : BA w wr p K n r ub base u1 tk F t1 u2 tv t2) (hk : Kept [] wr w') : BA w w' p K n r ub base u1 tk F t1 u2 tv t2 :=
  ⟨h.bs.kept0 hk, h.rb.kept0 hk, h.tkt, h.nd, h.lt, h.newF, h.newR, h.ap, h.kept.next hk, Nat.le_trans h.bl hk.size⟩
theorem take (h : BA w wr p K n r ub base u1 tk F t1 u2 tv t2) (hn : n = 2 ^ K) (o A : Nat) (ho : o ≤ 10) (hA : Finds u1 o A) {oi : Int} (eo : oi = o) :
    Calls Tryd.prog 18 #[.pointer (some ⟨p, 0, none⟩), .int .i64 oi] wr fun e w' => ∃ tk' F', e = .returned (.tuple #[.int .i64 A, .int .i64 0]) ∧ BA w w' p K n r ub base (upd u1 (A / 2 ^ o) o true) tk' F' (t1 ++ [(A, o)]) u2 tv t2 ∧ Kept F wr w' := by
  obtain ⟨a1, a2, a3, a4, a5⟩ := h.bs.at_ hA
  refine (bs_takeA o A h.bs hA eo).mono ?_
  rintro e w' ⟨f', F', rfl, hf', hB, hk, hF⟩
  have hnot : ∀ o', (A, o') ∉ t1 := fun o' hm => by have := (h.tkt A o' a1).2 hm; omega
  have hc : f' = cnt n (upd u1 (A / 2 ^ o) o true) := by
    have := cnt_take (n := n) (by rw [hn]; exact a4) a3
    omega
  rw [hc] at hB
  refine ⟨_, F', rfl, ⟨hB, h.rb.kept hk (fun x hx hm => h.ap x hm hx), fun B o' hB' => ?_, ?_, fun B o' hm => ?_, fun x hx => ?_, h.newR, fun x hx hm => ?_, h.kept.trans hk (fun x hx hl => by have := h.newF x hx; omega), Nat.le_trans h.bl hk.size⟩, hk⟩
  · rw [List.mem_append, List.mem_singleton]
    by_cases hBA : B = A
    · subst hBA
      simp only [if_true]
      constructor
      · intro e; exact .inr (by rw [show o' = o by omega])
      · rintro (h1 | h1)
        · exact absurd h1 (hnot o')
        · have := congrArg Prod.snd h1; simp at this; omega
    · simp only [if_neg hBA]
      rw [h.tkt B o' hB']
      exact ⟨.inl, fun h1 => h1.elim id (fun h2 => absurd (congrArg Prod.fst h2) hBA)⟩
  · rw [List.nodup_append]
    exact ⟨h.nd, by simp, fun a ha b hb => by have := List.mem_singleton.1 hb; subst this; exact fun e => hnot o (e ▸ ha)⟩
  · rcases List.mem_append.1 hm with h1 | h1
    · exact h.lt B o' h1
    · have := List.mem_singleton.1 h1
      cases this
      exact ⟨a1, ho⟩
  · exact (hF x hx).elim (h.newF x) (fun h1 => Nat.le_trans h.kept.size h1)
  · rcases hF x hx with h1 | h1
    · exact h.ap x h1 hm
    · have := h.rb.lt x hm; omega
theorem take2 (h : BA w wr p K n r ub base u1 tk F t1 u2 tv t2) (hn : n ≤ 1024) (hout : ∀ i, n ≤ i → u2 i = true) (hl : t2.length ≤ 1024) (o A : Nat) (hA : Finds u2 o A) {oi : Int} (eo : oi = o) :
    Calls Tryd.prog 27 #[.pointer (some ⟨r, 0, none⟩), .int .i64 oi] wr fun e w' => ∃ tv', e = .returned (.tuple #[.int .i64 A, .int .i64 0]) ∧ BA w w' p K n r ub base u1 tk F t1 (upd u2 (A / 2 ^ o) o true) tv' (t2 ++ [(A, o)]) ∧ Kept (rfoot r ub tv) wr w' := by
  refine (rtake_ok h.rb hn hout h.bl hl o A hA eo).mono ?_
  rintro e w' ⟨tv', rfl, hR, hk, hB⟩
  have hmem : ∀ x, x ∈ rfoot r ub tv' → x ∈ rfoot r ub tv ∨ wr.heap.size ≤ x := fun x hx => by
    rcases mem_rfoot.1 hx with e | e | e
    · exact .inl (mem_rfoot.2 (.inl e))
    · exact .inl (mem_rfoot.2 (.inr (.inl e)))
    · exact (hB x e).imp (fun h => mem_rfoot.2 (.inr (.inr h))) id
  refine ⟨tv', rfl, ⟨h.bs.kept hk h.ap, hR, h.tkt, h.nd, h.lt, h.newF, fun x hx => ?_, fun x hx hm => ?_, h.kept.trans hk (fun x hx hl => by have := h.newR x hx; omega), Nat.le_trans h.bl hk.size⟩, hk⟩
  · exact (hmem x hx).elim (h.newR x) (fun h1 => Nat.le_trans h.kept.size h1)
  · rcases hmem x hm with h1 | h1
    · exact h.ap x hx h1
    · have := h.bs.lt x hx; omega
theorem give (h : BA w wr p K n r ub base u1 tk F t1 u2 tv t2) (hn : n = 2 ^ K) (A o : Nat) (hm : (A, o) ∈ t1) {t' : List (Nat × Nat)} (hnd : t'.Nodup) (ht : ∀ y, y ∈ t' ↔ y ∈ t1 ∧ y ≠ (A, o)) {ai oi : Int} (ea : ai = A) (eo : oi = o) :
    Calls Tryd.prog 20 #[.pointer (some ⟨p, 0, none⟩), .int .i64 ai, .int .i64 oi] wr fun e w' => ∃ tk' F', e = .returned (.int .i64 0) ∧ BA w w' p K n r ub base (upd u1 (A / 2 ^ o) o false) tk' F' t' u2 tv t2 ∧ Kept F wr w' := by
  obtain ⟨a1, a2⟩ := h.lt A o hm
  have hta := (h.tkt A o a1).2 hm
  obtain ⟨k1, k2, k3, k4⟩ := h.bs.tok.ok A o a1 hta
  refine (bs_give A o h.bs a1 hta ea eo).mono ?_
  rintro e w' ⟨F', rfl, hB, hk, hF⟩
  rw [← cnt_give (n := n) (by rw [hn]; exact k4) k3] at hB
  refine ⟨_, F', rfl, ⟨hB, h.rb.kept hk (fun x hx hm => h.ap x hm hx), fun B o' hB' => ?_, hnd, fun B o' hm => h.lt B o' ((ht _).1 hm).1, fun x hx => ?_, h.newR, fun x hx hm => ?_, h.kept.trans hk (fun x hx hl => by have := h.newF x hx; omega), Nat.le_trans h.bl hk.size⟩, hk⟩
  · rw [ht]
    by_cases hBA : B = A
    · subst hBA
      simp only [if_true]
      constructor
      · intro e; omega
      · rintro ⟨h1, h2⟩
        have := (h.tkt B o' hB').2 h1
        exact absurd (show (B, o') = (B, o) by rw [show o' = o by omega]) h2
    · simp only [if_neg hBA]
      rw [h.tkt B o' hB']
      exact ⟨fun h1 => ⟨h1, fun e => hBA (congrArg Prod.fst e)⟩, fun h1 => h1.1⟩
  · exact (hF x hx).elim (h.newF x) (fun h1 => Nat.le_trans h.kept.size h1)
  · rcases hF x hx with h1 | h1
    · exact h.ap x h1 hm
    · have := h.rb.lt x hm; omega
theorem give2 (h : BA w wr p K n r ub base u1 tk F t1 u2 tv t2) (hn : n ≤ 1024) (hl : t2.length ≤ 1024) (A o k : Nat) (hk : k < t2.length) (hkE : t2.getD k (0, 0) = (A, o)) (hkm : ∀ j, j < k → t2.getD j (0, 0) ≠ (A, o)) (ho : o ≤ 10) (hA : A / 2 ^ o * 2 ^ o = A) (hin : (A / 2 ^ o + 1) * 2 ^ o ≤ n) {ai oi : Int} (ea : ai = A) (eo : oi = o) :
    Calls Tryd.prog 26 #[.pointer (some ⟨r, 0, none⟩), .int .i64 ai, .int .i64 oi] wr fun e w' => ∃ tv', e = .returned (.int .i64 0) ∧ BA w w' p K n r ub base u1 tk F t1 (upd u2 (A / 2 ^ o) o false) tv' (t2.take k ++ t2.drop (k + 1)) ∧ Kept (rfoot r ub tv) wr w' := by
  refine (rgive_ok h.rb hn h.bl hl A o k hk hkE hkm ho hA hin ea eo).mono ?_
  rintro e w' ⟨tv', rfl, hR, hk, hB⟩
  have hmem : ∀ x, x ∈ rfoot r ub tv' → x ∈ rfoot r ub tv ∨ wr.heap.size ≤ x := fun x hx => by
    rcases mem_rfoot.1 hx with e | e | e
    · exact .inl (mem_rfoot.2 (.inl e))
    · exact .inl (mem_rfoot.2 (.inr (.inl e)))
    · exact (hB x e).imp (fun h => mem_rfoot.2 (.inr (.inr h))) id
  refine ⟨tv', rfl, ⟨h.bs.kept hk h.ap, hR, h.tkt, h.nd, h.lt, h.newF, fun x hx => ?_, fun x hx hm => ?_, h.kept.trans hk (fun x hx hl => by have := h.newR x hx; omega), Nat.le_trans h.bl hk.size⟩, hk⟩
  · exact (hmem x hx).elim (h.newR x) (fun h1 => Nat.le_trans h.kept.size h1)
  · rcases hmem x hm with h1 | h1
    · exact h.ap x hx h1
    · have := h.bs.lt x hx; omega
end BA
end Go.Proofs.YtpljldjdemobbaaDoor.By
