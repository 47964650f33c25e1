
/-
  No statement of the program: package buddy's New and Take, over this seat's translation; blocks that are halved and put together, as plain numbers.
-/
import Derived.Test.YtpljldjdemobbaaDoorBud3
namespace Go.Proofs.YtpljldjdemobbaaDoor.By
open Go.RowKit
theorem info3 : (Tryd.prog.info? 3).map (fun i => (i.zero, i.size, i.bytes)) = some (some (.int .i64 0), 1, 8) := by kernel_rfl
set_option maxHeartbeats 1000000 in
theorem new_ok (k n : Nat) (hk : k ≤ 10) (hn : n = 2 ^ k) {w : World} (hT : Tab w) :
    Calls Tryd.prog 19 #[.int .i64 n] w fun e w' => ∃ p tb V, e = .returned (.tuple #[.pointer (some ⟨p, 0, none⟩), .int .i64 0]) ∧ Bud w' p n (fun _ => 0) (fun j => if j = k then [0] else []) tb V ∧ (∀ x, x ∈ foot p tb V → w.heap.size ≤ x) ∧ Kept [] w w' := by
  have hn2 : n ≤ 1024 := by rw [hn]; exact Nat.pow_le_pow_right (n := 2) (by decide) hk
  have hn1 : 1 ≤ n := by rw [hn]; exact two_pos k
  have hpop : popF (n : Int) = 1 := by rw [hn]; exact popF_two k hk
  have hmk := run_make_row' (P := Tryd.prog) 47 3 (.int .i64 0) 8 Tryd.underlying47 info3 rfl .i64 .i64 n (by omega) (by omega)
  have T := hide hT
  have HP := hide hpop
  have HN := hide hn
  clear hT hpop hn
  go_enter Tryd.func19, Tryd.ntmps19
  go_wp2_with (first | (go_at_call 33; refine (ones_any n _).mono ?_; rintro e w' ⟨rfl, hw⟩; subst w'; rw [HP.out]))
  refine (tz_any _ ?_ k hk n HN.out).mono ?_
  · exact T.out.kept (F := []) (((Kept.refl [] w).alloc _).alloc _) (by simp)
  rintro e w1 ⟨rfl, hw1'⟩
  have hB : Bud w1 (w.heap.size + 1) n (fun _ => 0) (fun _ => []) w.heap.size (fun _ => .slice none 0 0) := by
    rw [hw1']
    refine ⟨?_, ?_, fun j _ => .inl ⟨rfl, rfl⟩, fun i j b _ _ h => (by cases h), fun j _ h => (by cases h), fun j _ h => (by cases h), by omega⟩
    · have := World.rowIs_alloc (w.alloc (.cells (madeCells #[.int .i64 0] n) 3)) #[Value.slice (some { block := w.heap.size, off := 0 }) n n, Value.slice none 0 0, Value.slice none 0 0, Value.slice none 0 0, Value.slice none 0 0, Value.slice none 0 0, Value.slice none 0 0, Value.slice none 0 0, Value.slice none 0 0, Value.slice none 0 0, Value.slice none 0 0, Value.slice none 0 0] 61 (fun i => if i = 0 then .slice (some ⟨w.heap.size, 0, none⟩) n n else .slice none 0 0) (fun i hi => by
        have hi12 : i < 12 := hi
        rcases (show i = 0 ∨ i = 1 ∨ i = 2 ∨ i = 3 ∨ i = 4 ∨ i = 5 ∨ i = 6 ∨ i = 7 ∨ i = 8 ∨ i = 9 ∨ i = 10 ∨ i = 11 by omega) with e | e | e | e | e | e | e | e | e | e | e | e <;> (subst e; rfl))
      simpa using this
    · exact (World.rowIs_made w (.int .i64 0) n 3).alloc _
  have K1 := hide (show Kept [] w w1 by rw [hw1']; exact ((Kept.refl [] w).alloc _).alloc _)
  have B1 := hide hB
  clear hB hw1' hmk HP
  go_wp2_with fail
  refine (insert_ok 0 k B1.out (by omega) (by simp) (by simp) rfl rfl).mono ?_
  rintro e w2 ⟨v, V', rfl, hB2, hk2, hg2⟩
  have hsz := K1.out.size
  have hft : ∀ x, x ∈ foot (w.heap.size + 1) w.heap.size V' → w.heap.size ≤ x := by
    intro x hx
    rcases mem_foot.1 hx with rfl | rfl | ⟨j, hj, hb⟩
    · omega
    · omega
    · rcases hg2 j x hj hb with h1 | h1
      · cases h1
      · omega
  have hK2 : Kept [] w w2 := K1.out.trans hk2 (fun x hx hl => by
    rcases mem_foot.1 hx with rfl | rfl | ⟨j, hj, hb⟩
    · omega
    · omega
    · cases hb)
  have R := hide (show Bud w2 (w.heap.size + 1) n (fun _ => 0) (fun j => if j = k then [0] else []) w.heap.size V' ∧ (∀ x, x ∈ foot (w.heap.size + 1) w.heap.size V' → w.heap.size ≤ x) ∧ Kept [] w w2 from ⟨hB2, hft, hK2⟩)
  clear hB2 hk2 hg2 hft hK2 B1 K1
  go_wp2
  go_ret2
  exact ⟨_, _, V', rfl, R.out⟩
theorem Bud.mark {w : World} {p n tb : Nat} {tk : Nat → Nat} {L : Nat → List Nat} {V : Nat → Value} (h : Bud w p n tk L tb V) (a x : Nat) : Bud (w.setCell ⟨tb, a, none⟩ (iv x)) p n (fun i => if i = a then x else tk i) L tb V :=
  ⟨h.row.setOther (by simpa using h.ne) _, (h.tab.set a (iv x)).congr (fun i _ => by by_cases e : i = a <;> simp [e]), fun j hj => (h.list j hj).of_block (fun k hk => heap_setCell_other _ _ _ _ (fun e => h.nt j hj (by rw [hk]; exact congrArg some e))), h.inj, h.np, h.nt, h.ne⟩
theorem Bud.congr {w : World} {p n tb : Nat} {tk tk' : Nat → Nat} {L L' : Nat → List Nat} {V : Nat → Value} (h : Bud w p n tk L tb V) (e : ∀ i, i < n → tk i = tk' i) (eL : ∀ j, j < 11 → L j = L' j) : Bud w p n tk' L' tb V :=
  ⟨h.row, h.tab.congr (fun i hi => by rw [e i hi]), fun j hj => by rw [← eL j hj]; exact h.list j hj, h.inj, h.np, h.nt, h.ne⟩
theorem foot_kept {p tb : Nat} {V V' : Nat → Value} {w a b : World} (hk : Kept (foot p tb V) w a) (hg : Grew w.heap.size V V') (hk2 : Kept (foot p tb V') a b) : Kept (foot p tb V) w b :=
  hk.trans hk2 (fun x hx hl => by
    rcases mem_foot.1 hx with e | e | ⟨j, hj, hb⟩
    · exact mem_foot.2 (.inl e)
    · exact mem_foot.2 (.inr (.inl e))
    · rcases hg j x hj hb with h1 | h1
      · exact mem_foot.2 (.inr (.inr ⟨j, hj, h1⟩))
      · omega)
theorem del_head {a : Nat} {r : List Nat} (h : (a :: r).Pairwise (· < ·)) : del a (a :: r) = r := by
  have h' := List.pairwise_cons.1 h
  have h0 : (a :: r).countP (· < a) = 0 := by
    rw [List.countP_eq_zero]
    intro y hy
    rcases List.mem_cons.1 hy with rfl | hy
    · simp
    · have := h'.1 y hy; simp; omega
  unfold del
  rw [h0]; rfl
/-- The lists behind h - o halvings. -/
def Lh (L : Nat → List Nat) (o k at_ : Nat) (r : List Nat) (h : Nat) (j : Nat) : List Nat := if j = k then r else if o ≤ j ∧ j < h then [at_ + 2 ^ j] else L j

set_option maxRecDepth 20000 in
set_option maxHeartbeats 2000000 in
theorem take_walk {w : World} {p n tb : Nat} {tk : Nat → Nat} {L : Nat → List Nat} {V : Nat → Value} (o k at_ : Nat) (r : List Nat) (h : Bud w p n tk L tb V) (hn : n ≤ 1024) (hok : o ≤ k) (hk : k ≤ 10) (hl : L k = at_ :: r) (hemp : ∀ j, o ≤ j → j < k → L j = []) (hs : (at_ :: r).Pairwise (· < ·)) (hlen : r.length ≤ 1024) (hat : at_ < n) {oi : Int} (eo : oi = o) :
    Calls Tryd.prog 18 #[.pointer (some ⟨p, 0, none⟩), .int .i64 oi] w fun e w' => ∃ V', e = .returned (.tuple #[.int .i64 at_, .int .i64 0]) ∧ Bud w' p n (fun i => if i = at_ then o + 1 else tk i) (Lh L o k at_ r k) tb V' ∧ Kept (foot p tb V) w w' ∧ Grew w.heap.size V V' := by
  subst eo
  have hb0 : (0 : Int) ≤ o := by omega
  have hb1 : (o : Int) ≤ 10 := by omega
  have HL := hide (least_ok o k h hok (by omega) (by rw [hl]; simp) hemp rfl)
  obtain ⟨ao, cap, hv, hcs⟩ := (h.list k (by omega)).slice
  have hck := h.cell k (by omega)
  rw [hl] at hv hcs
  obtain ⟨lb, rfl, hc0⟩ := hcs 0 (by simp)
  rw [hv] at hck
  have hc0' : w.cell? ⟨lb, 0, none⟩ = some (.int .i64 at_) := hc0
  have hln : (at_ :: r).length = r.length + 1 := rfl
  rw [hln] at hck
  have hkk : (k : Int) < 11 := by omega
  have HRM := hide (remove_ok at_ k h (by omega) (by rw [hl]; exact hs) (by rw [hl]; simp; omega) (by rw [hl]; simp) rfl rfl)
  have HE := hide hemp
  have HLk := hide hl
  have HS := hide hs
  clear hemp hl hv hcs hc0 hs hln
  go_enter Tryd.func18, Tryd.ntmps18
  go_wp2_with (first | (go_at_call 29; refine (isOrder_yes hb0 hb1 _).mono ?_; rintro e w' ⟨rfl, hw⟩; subst w') | (go_at_call 30; refine HL.out.mono ?_; rintro e w' ⟨rfl, hw⟩; subst w') | (go_at_call 31; refine HRM.out.mono ?_; rintro e w1 ⟨V1, rfl, hB1, hk1, hg1⟩; have hcT := hB1.cell0; have hcA := hB1.tab.cell hat; have hfA := hB1.tab.frozen at_))
  have hB2 : Bud (w1.setCell ⟨tb, at_, none⟩ (.int .i64 ((o : Int) + 1))) p n (fun i => if i = at_ then o + 1 else tk i) (Lh L o k at_ r o) tb V1 :=
    (hB1.mark at_ (o + 1)).congr (fun _ _ => rfl) (fun j _ => by
      unfold Lh
      by_cases hj : j = k
      · rw [if_pos hj, if_pos hj, hj, HLk.out, del_head HS.out]
      · rw [if_neg hj, if_neg hj, if_neg (by omega)])
  have hk2 : Kept (foot p tb V) w (w1.setCell ⟨tb, at_, none⟩ (.int .i64 ((o : Int) + 1))) := hk1.setCell (p := ⟨tb, at_, none⟩) (fun _ => mem_foot.2 (.inr (.inl rfl))) _
  have B2 := hide hB2
  have K2 := hide hk2
  have G2 := hide hg1
  clear hB1 hB2 hk1 hk2 hg1 hcT hcA hfA HRM HL hck hc0' h HLk HS
  generalize w1.setCell ⟨tb, at_, none⟩ (.int .i64 ((o : Int) + 1)) = w2 at B2 K2 ⊢
  go_loopw [9] (fun v wr => ∃ (j : Nat) (V' : Nat → Value), o ≤ j ∧ j ≤ k ∧ v = .int .i64 j ∧ Bud wr p n (fun i => if i = at_ then o + 1 else tk i) (Lh L o k at_ r j) tb V' ∧ Kept (foot p tb V) w wr ∧ Grew w.heap.size V V') (fun v _ => 11 - (intOf v).toNat)
  case atStart => exact ⟨o, V1, Nat.le_refl _, hok, rfl, B2.out, K2.out, G2.out⟩
  case round =>
    obtain ⟨j, V', h1, h2, rfl, hB, hK, hG⟩ := hrel
    have B := hide hB
    have K := hide hK
    have G := hide hG
    clear hB hK hG B2 K2 G2
    by_cases hjk : j < k
    · have hjk' : (j : Int) < k := by omega
      have hp : 2 ^ j ≤ 2 ^ 10 := Nat.pow_le_pow_right (by decide) (by omega)
      have hLj : Lh L o k at_ r j j = [] := by unfold Lh; rw [if_neg (by omega), if_neg (by omega)]; exact HE.out j h1 hjk
      have HX := hide (show wrap64 ((at_ : Int) + wrap64 (2 ^ j)) = ((at_ + 2 ^ j : Nat) : Int) by
        have e1 : (2 : Int) ^ j = ((2 ^ j : Nat) : Int) := by simp
        rw [e1]
        generalize 2 ^ j = y at hp ⊢
        have hp2 : y ≤ 1024 := hp
        rw [IntWalk.wrap64_in (y : Int) ⟨by omega, by omega⟩, IntWalk.wrap64_in _ ⟨by omega, by omega⟩]; omega)
      have HI := hide (insert_ok (at_ + 2 ^ j) j B.out (by omega) (by rw [hLj]; simp) (by rw [hLj]; simp) rfl rfl)
      have HLj := hide hLj
      clear hLj hp
      go_wp2_with fail
      rw [HX.out]
      refine HI.out.mono ?_
      rintro e w3 ⟨v, V3, rfl, hB3, hk3, hg3⟩
      have R := hide (show Bud w3 p n (fun i => if i = at_ then o + 1 else tk i) (Lh L o k at_ r (j + 1)) tb V3 ∧ Kept (foot p tb V) w w3 ∧ Grew w.heap.size V V3 from
        ⟨hB3.congr (fun _ _ => rfl) (fun i _ => by
          by_cases hi : i = j
          · subst hi
            rw [if_pos rfl, HLj.out]
            unfold Lh ins
            rw [if_neg (by omega), if_pos (by omega)]; rfl
          · rw [if_neg hi]
            unfold Lh
            by_cases hik : i = k
            · rw [if_pos hik, if_pos hik]
            · rw [if_neg hik, if_neg hik]
              by_cases hij : o ≤ i ∧ i < j
              · rw [if_pos hij, if_pos (by omega)]
              · rw [if_neg hij, if_neg (by omega)]), foot_kept K.out G.out hk3, G.out.trans hg3 K.out.size⟩)
      clear hB3 hk3 hg3 B K G HI HX HLj
      go_wp2
      go_roundw
      case rel => exact ⟨j + 1, V3, by omega, by omega, by go_num, R.out⟩
      case measure => simp [intOf]; omega
    · have e : j = k := by omega
      subst e
      go_wp2
      go_ret2
      exact ⟨V', rfl, B.out, K.out, G.out⟩
theorem sorted_len : ∀ (l : List Nat) (m n : Nat), l.Pairwise (· < ·) → (∀ x, x ∈ l → m ≤ x ∧ x < n) → l.length ≤ n - m
  | [], _, _, _, _ => by simp
  | a :: l, m, n, h, hb => by
    have h' := List.pairwise_cons.1 h
    have h1 := hb a (by simp)
    have ih := sorted_len l (a + 1) n h'.2 (fun x hx => ⟨h'.1 x hx, (hb x (by simp [hx])).2⟩)
    simp only [List.length_cons]
    omega
theorem Lo.lt {u : Nat → Bool} {n j : Nat} {l : List Nat} (h : Lo u j l) (ho : ∀ i, n ≤ i → u i = true) {x : Nat} (hx : x ∈ l) : x < n := by
  obtain ⟨q, rfl, ht⟩ := (h.mem x).1 hx
  have h1 := ht.1 (q * 2 ^ j) (mul_div q j)
  by_cases hl : q * 2 ^ j < n
  · exact hl
  · rw [ho _ (by omega)] at h1; cases h1
theorem Lo.len {u : Nat → Bool} {n j : Nat} {l : List Nat} (h : Lo u j l) (ho : ∀ i, n ≤ i → u i = true) : l.length ≤ n := by
  have := sorted_len l 0 n h.sorted (fun x hx => ⟨Nat.zero_le _, h.lt ho hx⟩)
  omega
theorem sumTo_congr {L L' : Nat → List Nat} : ∀ (k : Nat), (∀ j, j < k → (L j).length = (L' j).length) → sumTo L k = sumTo L' k
  | 0, _ => rfl
  | k + 1, h => by
    show sumTo L k + (L k).length * 2 ^ k = sumTo L' k + (L' k).length * 2 ^ k
    rw [sumTo_congr k (fun j hj => h j (by omega)), h k (by omega)]
theorem sumTo_add {L L' : Nat → List Nat} {o : Nat} (hl : (L' o).length = (L o).length + 1) (he : ∀ j, j ≠ o → (L' j).length = (L j).length) : ∀ (k : Nat), o < k → sumTo L' k = sumTo L k + 2 ^ o
  | 0, h => absurd h (Nat.not_lt_zero _)
  | k + 1, h => by
    show sumTo L' k + (L' k).length * 2 ^ k = sumTo L k + (L k).length * 2 ^ k + 2 ^ o
    by_cases hk : k = o
    · subst hk
      rw [sumTo_congr k (L := L') (L' := L) (fun j hj => he j (by omega)), hl, Nat.add_mul]
      omega
    · rw [sumTo_add hl he k (by omega), he k hk]
      omega
/-- The two halves of a block. -/
theorem halves_of {i a o : Nat} (h : i / 2 ^ (o + 1) = a / 2) : i / 2 ^ o = a ∨ i / 2 ^ o = sib a := by
  rw [← div_one] at h
  unfold sib
  split <;> omega
theorem merge_full {u : Nat → Bool} {a o : Nat} (hf : Full u a o) : Full (upd u (sib a) o true) (a / 2) (o + 1) := by
  intro i hi
  rcases halves_of hi with h | h
  · by_cases h2 : i / 2 ^ o = sib a
    · exact upd_in h2
    · rw [upd_out h2]; exact hf i h
  · exact upd_in h
theorem merge_upd {u : Nat → Bool} {a o : Nat} (hs : Fr u (sib a) o) : upd (upd u (sib a) o true) (a / 2) (o + 1) false = upd u a o false := by
  funext i
  by_cases h : i / 2 ^ (o + 1) = a / 2
  · rw [upd_in h]
    rcases halves_of h with h2 | h2
    · rw [upd_in h2]
    · rw [upd_out (by rw [h2]; exact sib_ne a), hs i h2]
  · have h1 : ¬ i / 2 ^ o = a := fun e => h (by rw [← div_one, e])
    have h2 : ¬ i / 2 ^ o = sib a := fun e => h (by rw [← div_one, e, sib_div])
    rw [upd_out h, upd_out h2, upd_out h1]
theorem sib_top {u : Nat → Bool} {a o : Nat} (hf : Full u a o) (hs : Fr u (sib a) o) : Top u o (sib a) :=
  ⟨hs, fun h => (show Fr u a o from fun i hi => h i (by rw [← div_one, hi, sib_div])).not_full hf⟩
/-- A free block of a machine of 2 ^ K frames lies in it. -/
theorem block_in {u : Nat → Bool} {K a o : Nat} (ho : ∀ i, 2 ^ K ≤ i → u i = true) (h : Fr u a o) : (a + 1) * 2 ^ o ≤ 2 ^ K := by
  have h1 := h ((a + 1) * 2 ^ o - 1) (by
    have := two_pos o
    rw [show (a + 1) * 2 ^ o - 1 = (2 ^ o - 1) + a * 2 ^ o by rw [Nat.add_mul]; omega, Nat.add_mul_div_right _ _ this, Nat.div_eq_of_lt (by omega)]
    omega)
  have h3 : 0 < (a + 1) * 2 ^ o := Nat.mul_pos (by omega) (two_pos o)
  by_cases hl : (a + 1) * 2 ^ o ≤ 2 ^ K
  · exact hl
  · rw [ho _ (by omega)] at h1; cases h1
theorem order_in {K a o : Nat} (h : (a + 1) * 2 ^ o ≤ 2 ^ K) : o ≤ K := by
  have h1 : 2 ^ o ≤ 2 ^ K := Nat.le_trans (Nat.le_mul_of_pos_left _ (by omega)) h
  exact (Nat.pow_le_pow_iff_right (by decide)).1 h1
theorem parent_in {K a o : Nat} (h1 : (a + 1) * 2 ^ o ≤ 2 ^ K) (h2 : (sib a + 1) * 2 ^ o ≤ 2 ^ K) : (a / 2 + 1) * 2 ^ (o + 1) ≤ 2 ^ K := by
  have e : (a / 2 + 1) * 2 ^ (o + 1) = (2 * (a / 2) + 2) * 2 ^ o := by
    rw [Nat.pow_succ, show 2 * (a / 2) + 2 = 2 * (a / 2 + 1) by omega, Nat.mul_comm (2 ^ o) 2, ← Nat.mul_assoc, Nat.mul_comm (a / 2 + 1) 2]
  rw [e]
  have : 2 * (a / 2) + 2 = a + 1 ∨ 2 * (a / 2) + 2 = sib a + 1 := by unfold sib; split <;> omega
  rcases this with h | h
  · rw [h]; exact h1
  · rw [h]; exact h2
theorem bits_xor : ∀ o, o < 11 → ∀ a, a < 1024 → (a + 1) * 2 ^ o ≤ 1024 → bits .xor .i64 ((a * 2 ^ o : Nat) : Int) ((2 ^ o : Nat) : Int) = ((sib a * 2 ^ o : Nat) : Int) := by decide +kernel
theorem bits_clr : ∀ o, o < 11 → ∀ a, a < 1024 → (a + 1) * 2 ^ o ≤ 1024 → bits .andNot .i64 ((a * 2 ^ o : Nat) : Int) ((2 ^ o : Nat) : Int) = (((a / 2) * 2 ^ (o + 1) : Nat) : Int) := by decide +kernel
end Go.Proofs.YtpljldjdemobbaaDoor.By
