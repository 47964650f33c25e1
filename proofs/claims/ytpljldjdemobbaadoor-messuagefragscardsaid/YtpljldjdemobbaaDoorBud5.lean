
/-
  No statement of the program: package buddy's Give, and what Take and Give answer where they refuse, over this seat's translation.
-/
import Derived.Test.YtpljldjdemobbaaDoorBud4
namespace Go.Proofs.YtpljldjdemobbaaDoor.By
open Go.RowKit
/-- Midway in Give: block a of order o is still used, all else is as it shall be. -/
structure Mid (K : Nat) (u' : Nat → Bool) (S : Nat) (uc : Nat → Bool) (Lc : Nat → List Nat) (a o : Nat) : Prop where
  lo : ∀ j, j < 11 → Lo uc j (Lc j)
  full : Full uc a o
  done : upd uc a o false = u'
  sum : sumTo Lc 11 + 2 ^ o = S
  bound : (a + 1) * 2 ^ o ≤ 2 ^ K
  out : ∀ i, 2 ^ K ≤ i → uc i = true
theorem Mid.merge {K S a o : Nat} {u' uc : Nat → Bool} {Lc : Nat → List Nat} (h : Mid K u' S uc Lc a o) (hK : K ≤ 10) (hx : sib a * 2 ^ o ∈ Lc o) : Mid K u' S (upd uc (sib a) o true) (fun j => if j = o then del (sib a * 2 ^ o) (Lc j) else Lc j) (a / 2) (o + 1) ∧ o + 1 ≤ 10 := by
  have ho : o < 11 := by have := order_in h.bound; omega
  obtain ⟨q, hq, ht⟩ := ((h.lo o ho).mem _).1 hx
  have hq2 := mul_inj hq
  subst hq2
  have hp := parent_in h.bound (block_in h.out ht.1)
  have hlen := del_length (h.lo o ho).sorted hx
  have hsum : sumTo Lc 11 = sumTo (fun j => if j = o then del (sib a * 2 ^ o) (Lc j) else Lc j) 11 + 2 ^ o :=
    sumTo_add (by simp only [if_true]; omega) (fun j hj => by simp only [if_neg hj]) 11 ho
  refine ⟨⟨fun j hj => ?_, merge_full h.full, (merge_upd ht.1).trans h.done, ?_, hp, fun i hi => ?_⟩, ?_⟩
  · by_cases hjo : j = o
    · subst hjo
      simp only [if_true]
      exact (h.lo j ho).cut ht (del_sorted (h.lo j ho).sorted hx) (fun x => mem_del (h.lo j ho).sorted hx)
    · simp only [if_neg hjo]
      exact (Lo.cut_other ht hjo).2 (h.lo j hj)
  · have := h.sum
    rw [Nat.pow_succ]
    omega
  · by_cases h2 : i / 2 ^ o = sib a
    · exact upd_in h2
    · rw [upd_out h2]; exact h.out i hi
  · have := order_in hp; omega
theorem Mid.no {K S a o : Nat} {u' uc : Nat → Bool} {Lc : Nat → List Nat} (h : Mid K u' S uc Lc a o) (ho : o < 11) (hx : sib a * 2 ^ o ∉ Lc o) : ¬ Fr uc (sib a) o := fun hs => hx (((h.lo o ho).mem _).2 ⟨_, rfl, sib_top h.full hs⟩)
theorem Mid.fresh {K S a o : Nat} {u' uc : Nat → Bool} {Lc : Nat → List Nat} (h : Mid K u' S uc Lc a o) (ho : o < 11) : a * 2 ^ o ∉ Lc o := fun hx => by
  obtain ⟨q, hq, ht⟩ := ((h.lo o ho).mem _).1 hx
  have := mul_inj hq
  subst this
  exact ht.1.not_full h.full
theorem Mid.last {K S a o : Nat} {u' uc : Nat → Bool} {Lc : Nat → List Nat} (h : Mid K u' S uc Lc a o) (ho : o < 11) (hx : sib a * 2 ^ o ∉ Lc o) :
    (∀ j, j < 11 → Lo u' j (if j = o then ins (a * 2 ^ o) (Lc j) else Lc j)) ∧ sumTo (fun j => if j = o then ins (a * 2 ^ o) (Lc j) else Lc j) 11 = S := by
  refine ⟨fun j hj => ?_, ?_⟩
  · rw [← h.done]
    by_cases hjo : j = o
    · subst hjo
      simp only [if_true]
      exact (h.lo j ho).put h.full (h.no ho hx) (ins_sorted (h.lo j ho).sorted (h.fresh ho)) (fun x => mem_ins)
    · simp only [if_neg hjo]
      exact (Lo.other h.full (h.no ho hx) hjo).2 (h.lo j hj)
  · rw [← h.sum]
    exact sumTo_add (by simp only [if_true]; exact ins_length _ _) (fun j hj => by simp only [if_neg hj]) 11 ho

set_option maxRecDepth 20000 in
set_option maxHeartbeats 2000000 in
theorem give_walk {w : World} {p n tb K S : Nat} {tk : Nat → Nat} {u u' : Nat → Bool} {L : Nat → List Nat} {V : Nat → Value} (at_ o a : Nat) (h : Bud w p n tk L tb V) (hn : n = 2 ^ K) (hK : K ≤ 10) (hat : at_ < n) (htk : tk at_ = o + 1) (ea : at_ = a * 2 ^ o) (hm : Mid K u' S u L a o) {ai oi : Int} (eai : ai = at_) (eo : oi = o) :
    Calls Tryd.prog 20 #[.pointer (some ⟨p, 0, none⟩), .int .i64 ai, .int .i64 oi] w fun e w' => ∃ V' L', e = .returned (.int .i64 0) ∧ Bud w' p n (fun i => if i = at_ then 0 else tk i) L' tb V' ∧ (∀ j, j < 11 → Lo u' j (L' j)) ∧ sumTo L' 11 = S ∧ Kept (foot p tb V) w w' ∧ Grew w.heap.size V V' := by
  subst eai eo
  have hn2 : n ≤ 1024 := by rw [hn]; exact Nat.pow_le_pow_right (n := 2) (by decide) hK
  have hoK := order_in hm.bound
  have hb0 : (0 : Int) ≤ o := by omega
  have hb1 : (o : Int) ≤ 10 := by omega
  have hcT := h.cell0
  have hcA := h.tab.cell hat
  have hfA := h.tab.frozen at_
  have hcA' : w.cell? ⟨tb, at_, none⟩ = some (.int .i64 ((o : Int) + 1)) := by rw [hcA, htk]; rfl
  have hB := h.mark at_ 0
  have hkB : Kept (foot p tb V) w (w.setCell ⟨tb, at_, none⟩ (.int .i64 0)) := (Kept.refl _ w).setCell (p := ⟨tb, at_, none⟩) (fun _ => mem_foot.2 (.inr (.inl rfl))) _
  have B0 := hide (show Bud (w.setCell ⟨tb, at_, none⟩ (.int .i64 0)) p n (fun i => if i = at_ then 0 else tk i) L tb V from hB)
  have K0 := hide hkB
  have M0 := hide hm
  have EA := hide ea
  have HN := hide hn
  have hd1 : decide ((at_ : Int) < 0) = false := by simp
  have hd2 : decide (n ≤ at_) = false := by simpa using hat
  clear hB hkB h hcA htk hm ea hn
  go_enter Tryd.func20, Tryd.ntmps20
  go_wp2_with (first | (go_at_call 29; refine (isOrder_yes hb0 hb1 _).mono ?_; rintro e w' ⟨rfl, hw⟩; subst w'))
  clear hcT hfA hcA'
  generalize w.setCell ⟨tb, at_, none⟩ (.int .i64 0) = w0 at B0 K0 ⊢
  go_loopw [1, 2] (fun av ov wr => ∃ (x a' o' : Nat) (uc : Nat → Bool) (Lc : Nat → List Nat) (V' : Nat → Value), av = .int .i64 x ∧ ov = .int .i64 o' ∧ x = a' * 2 ^ o' ∧ Mid K u' S uc Lc a' o' ∧ Bud wr p n (fun i => if i = at_ then 0 else tk i) Lc tb V' ∧ Kept (foot p tb V) w wr ∧ Grew w.heap.size V V') (fun _ ov _ => 12 - (intOf ov).toNat)
  case atStart => exact ⟨at_, a, o, u, L, V, rfl, rfl, EA.out, M0.out, B0.out, K0.out, Grew.refl _ _⟩
  case round =>
    obtain ⟨x, a', o', uc, Lc, V', rfl, rfl, hx, hm, hB, hK', hG⟩ := hrel
    have ho : o' ≤ 10 := by have := order_in hm.bound; omega
    have hp : 2 ^ o' ≤ 2 ^ 10 := Nat.pow_le_pow_right (by decide) ho
    have hb1024 : (a' + 1) * 2 ^ o' ≤ 1024 := by
      have := hm.bound
      rw [← HN.out] at this
      omega
    have ha : a' < 1024 := by
      have : a' + 1 ≤ (a' + 1) * 2 ^ o' := Nat.le_mul_of_pos_right _ (two_pos o')
      omega
    have e1 : wrap64 ((2 : Int) ^ o') = ((2 ^ o' : Nat) : Int) := by
      have e1 : (2 : Int) ^ o' = ((2 ^ o' : Nat) : Int) := by simp
      rw [e1]
      generalize 2 ^ o' = y at hp ⊢
      have hp2 : y ≤ 1024 := hp
      rw [IntWalk.wrap64_in (y : Int) ⟨by omega, by omega⟩]
    have HX := hide (show bits .xor .i64 (x : Int) (wrap64 (2 ^ o')) = ((sib a' * 2 ^ o' : Nat) : Int) by rw [e1, hx]; exact bits_xor o' (by omega) a' ha hb1024)
    have HC := hide (show bits .andNot .i64 (x : Int) (wrap64 (2 ^ o')) = (((a' / 2) * 2 ^ (o' + 1) : Nat) : Int) by rw [e1, hx]; exact bits_clr o' (by omega) a' ha hb1024)
    have hlo := hm.lo o' (by omega)
    have hlen : (Lc o').length ≤ 2048 := by have := hlo.len hm.out; rw [← HN.out] at this; omega
    by_cases hmem : sib a' * 2 ^ o' ∈ Lc o'
    · have HR := hide (remove_ok (sib a' * 2 ^ o') o' hB (by omega) hlo.sorted hlen hmem rfl rfl)
      have hmg := hm.merge hK hmem
      have ho9 := hmg.2
      have M' := hide hmg.1
      have B := hide hB
      have KK := hide hK'
      have G := hide hG
      clear hm hB hK' hG hx ha e1 hp hlo hlen hmem hb1024 hmg B0 K0 M0 EA
      go_wp2_with fail
      rw [HX.out]
      refine HR.out.mono ?_
      rintro e w3 ⟨V3, rfl, hB3, hk3, hg3⟩
      have R := hide (show Bud w3 p n (fun i => if i = at_ then 0 else tk i) (fun j => if j = o' then del (sib a' * 2 ^ o') (Lc j) else Lc j) tb V3 ∧ Kept (foot p tb V) w w3 ∧ Grew w.heap.size V V3 from ⟨hB3, foot_kept KK.out G.out hk3, G.out.trans hg3 KK.out.size⟩)
      clear hB3 hk3 hg3 B KK G HR HX
      go_wp2
      go_roundw
      case rel => exact ⟨a' / 2 * 2 ^ (o' + 1), a' / 2, o' + 1, _, _, V3, by rw [HC.out], by go_num, rfl, M'.out, R.out⟩
      case measure => simp [intOf]; omega
    · have HR := hide (remove_no (sib a' * 2 ^ o') o' hB (by omega) hlo.sorted hlen hmem rfl rfl)
      have hfr := hm.fresh (by omega)
      have HF := hide hfr
      have HLst := hide (hm.last (by omega) hmem)
      have HS := hide hlo.sorted
      have HLn := hide hlen
      have EX := hide hx
      have B := hide hB
      have KK := hide hK'
      have G := hide hG
      clear hm hB hK' hG hx ha e1 hp hlo hlen hmem hb1024 hfr HC B0 K0 M0 EA
      go_wp2_with fail
      rw [HX.out]
      refine HR.out.mono ?_
      rintro e w3 ⟨rfl, hk3⟩
      have B3 := hide (B.out.kept0 hk3)
      have K3 := hide (KK.out.next hk3)
      clear hk3 B KK HR HX
      go_wp2_with fail
      refine (insert_ok x o' B3.out (by omega) HS.out HLn.out rfl rfl).mono ?_
      rintro e w4 ⟨v, V4, rfl, hB4, hk4, hg4⟩
      have R := hide (show Bud w4 p n (fun i => if i = at_ then 0 else tk i) (fun j => if j = o' then ins (a' * 2 ^ o') (Lc j) else Lc j) tb V4 ∧ Kept (foot p tb V) w w4 ∧ Grew w.heap.size V V4 from ⟨by rw [EX.out] at hB4; exact hB4, foot_kept K3.out G.out hk4, G.out.trans hg4 K3.out.size⟩)
      clear hB4 hk4 hg4 B3 K3 G
      go_wp2
      go_ret
      exact ⟨V4, _, rfl, R.out.1, HLst.out.1, HLst.out.2, R.out.2⟩

theorem give_bad {w : World} {p n tb : Nat} {tk : Nat → Nat} {L : Nat → List Nat} {V : Nat → Value} (h : Bud w p n tk L tb V) (o : Nat) (ho : o ≤ 10) {ai oi : Int} (eo : oi = o) (hb : ∀ a : Nat, ai = a → a < n → tk a ≠ o + 1) (htk : ∀ a, a < n → tk a ≤ 11) :
    Calls Tryd.prog 20 #[.pointer (some ⟨p, 0, none⟩), .int .i64 ai, .int .i64 oi] w fun e w' => e = .returned (.int .i64 6) ∧ Kept [] w w' := by
  subst eo
  have hb0 : (0 : Int) ≤ o := by omega
  have hb1 : (o : Int) ≤ 10 := by omega
  have hcT := h.cell0
  by_cases h0 : ai < 0
  · clear h hb
    go_enter Tryd.func20, Tryd.ntmps20
    go_wp2_with (first | (go_at_call 29; refine (isOrder_yes hb0 hb1 _).mono ?_; rintro e w' ⟨rfl, hw⟩; subst w'))
    all_goals go_ret
    all_goals exact ⟨rfl, Kept.refl _ _⟩
  · obtain ⟨a, rfl⟩ := Int.eq_ofNat_of_zero_le (show 0 ≤ ai by omega)
    by_cases hn : a < n
    · have hcA : w.cell? ⟨tb, a, none⟩ = some (.int .i64 (tk a)) := h.tab.cell hn
      have hne := hb a rfl hn
      have hne2 : ((tk a : Int) != (o : Int) + 1) = true := by rw [bne_iff_ne]; omega
      have hle := htk a hn
      generalize tk a = t at hcA hne hne2 hle
      clear h hb htk hne
      go_enter Tryd.func20, Tryd.ntmps20
      go_wp2_with (first | (go_at_call 29; refine (isOrder_yes hb0 hb1 _).mono ?_; rintro e w' ⟨rfl, hw⟩; subst w'))
      all_goals go_ret
      all_goals exact ⟨rfl, Kept.refl _ _⟩
    · clear h hb
      go_enter Tryd.func20, Tryd.ntmps20
      go_wp2_with (first | (go_at_call 29; refine (isOrder_yes hb0 hb1 _).mono ?_; rintro e w' ⟨rfl, hw⟩; subst w'))
      all_goals go_ret
      all_goals exact ⟨rfl, Kept.refl _ _⟩
theorem give_arg {w : World} {p : Nat} {ai oi : Int} (ho : ¬ (0 ≤ oi ∧ oi ≤ 10)) :
    Calls Tryd.prog 20 #[.pointer (some ⟨p, 0, none⟩), .int .i64 ai, .int .i64 oi] w fun e w' => e = .returned (.int .i64 1) ∧ w' = w := by
  have HB := hide ho
  clear ho
  go_enter Tryd.func20, Tryd.ntmps20
  go_wp2_with (go_at_call 29; refine (isOrder_no HB.out _).mono ?_; rintro e w' ⟨rfl, hw⟩; subst w')
  go_ret
  exact ⟨rfl, rfl⟩
theorem take_arg {w : World} {p : Nat} {oi : Int} (ho : ¬ (0 ≤ oi ∧ oi ≤ 10)) :
    Calls Tryd.prog 18 #[.pointer (some ⟨p, 0, none⟩), .int .i64 oi] w fun e w' => e = .returned (.tuple #[.int .i64 0, .int .i64 1]) ∧ w' = w := by
  have HB := hide ho
  clear ho
  go_enter Tryd.func18, Tryd.ntmps18
  go_wp2_with (go_at_call 29; refine (isOrder_no HB.out _).mono ?_; rintro e w' ⟨rfl, hw⟩; subst w')
  go_ret2
  exact ⟨rfl, rfl⟩
theorem take_no {w : World} {p n tb : Nat} {tk : Nat → Nat} {L : Nat → List Nat} {V : Nat → Value} (o : Nat) (h : Bud w p n tk L tb V) (ho : o ≤ 10) (hemp : ∀ j, o ≤ j → j < 11 → L j = []) {oi : Int} (eo : oi = o) :
    Calls Tryd.prog 18 #[.pointer (some ⟨p, 0, none⟩), .int .i64 oi] w fun e w' => e = .returned (.tuple #[.int .i64 0, .int .i64 5]) ∧ w' = w := by
  subst eo
  have hb0 : (0 : Int) ≤ o := by omega
  have hb1 : (o : Int) ≤ 10 := by omega
  have HL := hide (least_no o h (by omega) hemp rfl)
  clear h hemp
  go_enter Tryd.func18, Tryd.ntmps18
  go_wp2_with (first | (go_at_call 29; refine (isOrder_yes hb0 hb1 _).mono ?_; rintro e w' ⟨rfl, hw⟩; subst w') | (go_at_call 30; refine HL.out.mono ?_; rintro e w' ⟨rfl, hw⟩; subst w'))
  go_ret2
  exact ⟨rfl, rfl⟩
end Go.Proofs.YtpljldjdemobbaaDoor.By
