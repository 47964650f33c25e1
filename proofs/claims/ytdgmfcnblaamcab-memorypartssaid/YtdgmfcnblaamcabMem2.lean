
/-
  No statement of the program: the contract of 'pieces' of package memory, over this seat's translation.
-/
import Derived.Test.YtdgmfcnblaamcabMem
import Derived.Test.YtdgmfcnblaamcabPcs
namespace Go.Proofs.Ytdgmfcnblaamcab.Me
open Go.RowKit Tb

/-- Pieces as cells. -/
def flat : List (Nat × Nat × Nat) → List Value
  | [] => []
  | (k, a, m) :: l => .int .i64 k :: .int .i64 a :: .int .i64 m :: flat l
theorem flat_append (l1 l2 : List (Nat × Nat × Nat)) : flat (l1 ++ l2) = flat l1 ++ flat l2 := by
  induction l1 with
  | nil => rfl
  | cons x l ih => obtain ⟨k, a, m⟩ := x; simp [flat, ih]
theorem flat_length : ∀ l, (flat l).length = l.length * 3
  | [] => rfl
  | (k, a, m) :: l => by simp [flat, flat_length l]; omega
theorem flat_at : ∀ (l : List (Nat × Nat × Nat)) (j : Nat) (x : Nat × Nat × Nat), l[j]? = some x → (flat l)[j * 3]? = some (.int .i64 x.1) ∧ (flat l)[j * 3 + 1]? = some (.int .i64 x.2.1) ∧ (flat l)[j * 3 + 2]? = some (.int .i64 x.2.2)
  | [], j, x, h => by simp at h
  | (k, a, m) :: l, 0, x, h => by
    simp at h; subst h; simp [flat]
  | (k, a, m) :: l, j + 1, x, h => by
    have := flat_at l j x (by simpa using h)
    rw [show (j + 1) * 3 = j * 3 + 3 by omega]
    simpa [flat] using this
/-- A list of pieces that a call has made. -/
def Pieces (w : World) (base : Nat) (v : Value) (l : List (Nat × Nat × Nat)) : Prop := w.ownsRow base 52 3 v l.length (flat l)
theorem Pieces.kept {L : List Nat} {w w' : World} {base : Nat} {v : Value} {l : List (Nat × Nat × Nat)} (h : Pieces w base v l) (k : Kept L w w') (hL : ∀ x, x ∈ L → x < base) : Pieces w' base v l := own_kept h k hL
theorem Pieces.form {w : World} {base : Nat} {v : Value} {l : List (Nat × Nat × Nat)} (h : Pieces w base v l) :
    ∃ ao cap, v = .slice ao l.length cap ∧ l.length ≤ maxLen ∧ ∀ (j : Nat) (x : Nat × Nat × Nat), l[j]? = some x → ∃ g, ao = some ⟨g, 0, none⟩ ∧ base ≤ g ∧ w.cell? ⟨g, j * 3, none⟩ = some (.int .i64 x.1) ∧ w.cell? ⟨g, j * 3 + 1, none⟩ = some (.int .i64 x.2.1) ∧ w.cell? ⟨g, j * 3 + 2, none⟩ = some (.int .i64 x.2.2) := by
  rcases h.2 with ⟨rfl, h0⟩ | ⟨g, cap, cur, rfl, hb, hg, hn, hm, hs, ht⟩
  · rw [h0]
    refine ⟨none, 0, rfl, Nat.zero_le _, fun j x hj => ?_⟩
    have := getElem?_lt hj
    omega
  · refine ⟨some ⟨g, 0, none⟩, cap, rfl, Nat.le_trans hn hm, fun j x hj => ⟨g, rfl, hb, ?_⟩⟩
    obtain ⟨a1, a2, a3⟩ := flat_at l j x hj
    have hk : ∀ (k : Nat) (u : Value), (flat l)[k]? = some u → w.cell? ⟨g, k, none⟩ = some u := by
      intro k u hu
      rw [cell_of_row w g k cur 52 (0, 0) hg]
      rw [← ht, List.getElem?_take] at hu
      split at hu
      · simpa using hu
      · cases hu
    exact ⟨hk _ _ a1, hk _ _ a2, hk _ _ a3⟩

theorem pinfo : (Try.prog.info? 52).map (fun i => (i.zero, i.size, i.bytes)) = some (some (.agg #[.int .i64 0, .int .i64 0, .int .i64 0]), 3, 24) := by kernel_rfl

set_option maxHeartbeats 400000 in
theorem isStretch_ok (a n : Int) (w : World) (h : 0 ≤ a) (h2 : 0 ≤ n) (h3 : n ≤ 65536) (h4 : a + n ≤ 262144) :
    Calls Try.prog 27 #[.int .i64 a, .int .i64 n] w fun e w' => e = .returned (.bool true) ∧ w' = w := by
  have h5 : a ≤ 262144 - n := by omega
  go_enter Try.func27, Try.ntmps27
  go_wp2
  go_ret
  exact ⟨rfl, rfl⟩

theorem news3 {w : World} {t : TypeId} {a b c : Value} : ∀ j u, [a, b, c][j]? = some u → (w.alloc (.cells #[a, b, c] t)).cell? ((⟨w.heap.size, 0, none⟩ : Addr).add j) = some u := by
  intro j u hj
  rw [add_plain, Nat.zero_add, World.cell?_alloc_mark]
  simpa using hj
set_option maxRecDepth 20000 in
set_option maxHeartbeats 1000000 in
/-- pieces, where all pages stand on frames. -/
theorem pieces_ok {w : World} {m g c n e t : Nat} {f : Nat → UInt8} {u bt bf N : Nat} {p : Int} {to fr : Int → Option Int} (F : Nat → Nat) (h : MemAt w m g c n e t f u bt bf N p to fr) (addr len : Nat) (h1 : len ≤ 65536) (h2 : addr + len ≤ 262144)
    (hF : ∀ q : Nat, addr / 64 ≤ q → q * 64 < addr + len → 0 < len → to q = some (F q : Int)) :
    Calls Try.prog 17 #[.pointer (some ⟨m, 0, none⟩), .int .i64 addr, .int .i64 len] w fun r w' => ∃ v, r = .returned (.tuple #[v, .int .i64 0]) ∧ Pieces w' w.heap.size v (pcs F addr len) ∧ Kept [] w w' := by
  have H := hide h
  have HF := hide hF
  have c0 := h.c0
  obtain ⟨i0, hi, hz0, hz1, hz2⟩ := info_parts pinfo
  clear h hF
  go_enter Try.func17, Try.ntmps17
  go_wp2_with fail
  refine (isMade_any m g _ c0).mono ?_
  rintro r w0 ⟨rfl, hw0⟩
  subst w0
  go_wp2_with fail
  refine (isStretch_ok addr len _ (by omega) (by omega) (by omega) (by omega)).mono ?_
  rintro r w0 ⟨rfl, hw0⟩
  subst w0
  go_wp2_with fail
  go_loopw [1, 2, 8] (fun a nn li wr => ∃ (b k : Nat) (l : List (Nat × Nat × Nat)), a = .int .i64 b ∧ nn = .int .i64 k ∧ b + k = addr + len ∧ k ≤ len ∧ Pieces wr w.heap.size li l ∧ l ++ pcs F b k = pcs F addr len ∧ Kept [] w wr) (fun _ nn _ _ => (intOf nn).toNat)
  case atStart => exact ⟨addr, len, [], rfl, rfl, rfl, Nat.le_refl _, ⟨rfl, .inl ⟨rfl, rfl⟩⟩, rfl, Kept.refl _ _⟩
  case round =>
    obtain ⟨b, k, l, rfl, rfl, hbk, hkl, hP, hl, hK⟩ := hrel
    have HP := hide hP
    have HL := hide hl
    have HK := hide hK
    have hll : l.length + (pcs F b k).length ≤ len := by
      have := len_pcs F len addr len (Nat.le_refl _)
      rw [← hl] at this; simpa using this
    clear hP hl hK
    by_cases hk0 : 0 < k
    · have hto : to ((b / 64 : Nat) : Int) = some (F (b / 64) : Int) := HF.out (b / 64) (by omega) (by omega) (by omega)
      have HT := hide hto
      have hc := hide (pcs_cons F b k hk0)
      have hlen1 : 1 ≤ (pcs F b k).length := by rw [hc.out]; simp
      obtain ⟨d, hd⟩ : ∃ d : Nat, d = min k (64 - b % 64) := ⟨_, rfl⟩
      have ed : min (k : Int) (64 - (b : Int) % 64) = (d : Int) := by omega
      have hd1 : 1 ≤ d := by omega
      have hd2 : d ≤ k := by omega
      obtain ⟨q, hq⟩ : ∃ q : Nat, q = F (b / 64) := ⟨_, rfl⟩
      have HD := hide hd
      have HQ := hide hq
      clear hto hd hq
      go_wp2_with fail
      refine (frame_any (H.out.kept0 HK.out) ((b : Int) / 64) (okN (by omega) (by omega)) (q : Int) true (by rw [show (b : Int) / 64 = ((b / 64 : Nat) : Int) by omega, HT.out, HQ.out]; rfl) (by rw [show (b : Int) / 64 = ((b / 64 : Nat) : Int) by omega, HT.out]; rfl)).mono ?_
      rintro r w1 ⟨rfl, k1⟩
      have P1 := hide (HP.out.kept k1 (by simp))
      have K1 := hide (HK.out.next k1)
      clear HP HK k1
      go_wp2_with (at_builtin; refine wpList_append_own _ rfl _ _ 48 rfl w.heap.size 52 i0 _ 3 24 Try.underlying48 hi hz0 hz1 hz2 rfl (by decide) _ l.length (flat l) rfl ?own ⟨w1.heap.size, 0, none⟩ 1 1 [.int .i64 q, .int .i64 ((b : Int) % 64), .int .i64 d] rfl rfl ?c1 ?c2 ?c3 ?c4 ?c5 ?_)
      case own => exact own_kept P1.out ((Kept.refl [] w1).alloc _) (by simp)
      case c1 => exact news3
      case c2 => intro x hx; simp at hx; rcases hx with rfl | rfl | rfl <;> rfl
      case c3 => unfold maxLen; omega
      case c4 => omega
      case c5 => simp; have := K1.out.size; omega
      intro v' w2 hown hgrow _
      have hP2 : Pieces w2 w.heap.size v' (l ++ [(q, b % 64, d)]) := by
        unfold Pieces
        rw [flat_append, List.length_append]
        have e3 : (.int .i64 ((b : Int) % 64) : Value) = .int .i64 ((b % 64 : Nat) : Int) := by simp
        rw [e3] at hown
        exact hown
      have hE : l ++ [(q, b % 64, d)] ++ pcs F (b + d) (k - d) = pcs F addr len := by
        rw [List.append_assoc, ← HL.out, hc.out, ← HD.out, ← HQ.out]; rfl
      have hK2 : Kept [] w w2 := own_grown (own_kept P1.out ((Kept.refl [] w1).alloc _) (by simp)) hgrow w (K1.out.alloc _) (Nat.le_refl _)
      have R := hide (And.intro hP2 (And.intro hE hK2))
      clear hown hgrow hP2 hE hK2 P1 K1 HL hc HQ HT HD
      go_wp2
      go_roundw
      case rel => exact ⟨b + d, k - d, l ++ [(q, b % 64, d)], by go_num, by congr 1; omega, by omega, by omega, R.out.1, R.out.2.1, R.out.2.2⟩
      case measure => simp [intOf]; omega
    · obtain rfl : k = 0 := by omega
      go_wp2
      go_ret2
      exact ⟨_, rfl, by have := HL.out; rw [pcs_nil, List.append_nil] at this; rw [← this]; exact HP.out, HK.out⟩
set_option maxRecDepth 20000 in
set_option maxHeartbeats 1000000 in
/-- pieces, where page q0 stands on none, and those ahead of it do. -/
theorem pieces_hole {w : World} {m g c n e t : Nat} {f : Nat → UInt8} {u bt bf N : Nat} {p : Int} {to fr : Int → Option Int} (F : Nat → Nat) (h : MemAt w m g c n e t f u bt bf N p to fr) (addr len q0 : Nat) (h1 : len ≤ 65536) (h2 : addr + len ≤ 262144)
    (hlen : 0 < len) (hq1 : addr / 64 ≤ q0) (hq2 : q0 * 64 < addr + len) (hq3 : to q0 = none) (hF : ∀ q : Nat, addr / 64 ≤ q → q < q0 → to q = some (F q : Int)) :
    Calls Try.prog 17 #[.pointer (some ⟨m, 0, none⟩), .int .i64 addr, .int .i64 len] w fun r w' => r = .returned (.tuple #[.slice none 0 0, .int .i64 9]) ∧ Kept [] w w' := by
  have H := hide h
  have HF := hide hF
  have H3 := hide hq3
  have c0 := h.c0
  obtain ⟨i0, hi, hz0, hz1, hz2⟩ := info_parts pinfo
  clear h hF hq3
  go_enter Try.func17, Try.ntmps17
  go_wp2_with fail
  refine (isMade_any m g _ c0).mono ?_
  rintro r w0 ⟨rfl, hw0⟩
  subst w0
  go_wp2_with fail
  refine (isStretch_ok addr len _ (by omega) (by omega) (by omega) (by omega)).mono ?_
  rintro r w0 ⟨rfl, hw0⟩
  subst w0
  go_wp2_with fail
  go_loopw [1, 2, 8] (fun a nn li wr => ∃ (b k : Nat) (l : List (Nat × Nat × Nat)), a = .int .i64 b ∧ nn = .int .i64 k ∧ b + k = addr + len ∧ k ≤ len ∧ addr ≤ b ∧ b / 64 ≤ q0 ∧ (b ≤ q0 * 64 ∨ b = addr) ∧ l.length ≤ b ∧ Pieces wr w.heap.size li l ∧ Kept [] w wr) (fun _ nn _ _ => (intOf nn).toNat)
  case atStart => exact ⟨addr, len, [], rfl, rfl, rfl, Nat.le_refl _, Nat.le_refl _, hq1, Or.inr rfl, Nat.zero_le _, ⟨rfl, .inl ⟨rfl, rfl⟩⟩, Kept.refl _ _⟩
  case round =>
    obtain ⟨b, k, l, rfl, rfl, hbk, hkl, hab, hbq, hbb, hlb, hP, hK⟩ := hrel
    have HP := hide hP
    have HK := hide hK
    clear hP hK
    have hk0 : 0 < k := by omega
    by_cases hbq2 : b / 64 < q0
    · have hto : to ((b / 64 : Nat) : Int) = some (F (b / 64) : Int) := HF.out (b / 64) (by omega) (by omega)
      have HT := hide hto
      obtain ⟨d, hd⟩ : ∃ d : Nat, d = min k (64 - b % 64) := ⟨_, rfl⟩
      have ed : min (k : Int) (64 - (b : Int) % 64) = (d : Int) := by omega
      have hd1 : 1 ≤ d := by omega
      have hd2 : d ≤ k := by omega
      have hd3 : b + d ≤ q0 * 64 := by omega
      obtain ⟨q, hq⟩ : ∃ q : Nat, q = F (b / 64) := ⟨_, rfl⟩
      have HQ := hide hq
      clear hto hd hq
      go_wp2_with fail
      refine (frame_any (H.out.kept0 HK.out) ((b : Int) / 64) (okN (by omega) (by omega)) (q : Int) true (by rw [show (b : Int) / 64 = ((b / 64 : Nat) : Int) by omega, HT.out, HQ.out]; rfl) (by rw [show (b : Int) / 64 = ((b / 64 : Nat) : Int) by omega, HT.out]; rfl)).mono ?_
      rintro r w1 ⟨rfl, k1⟩
      have P1 := hide (HP.out.kept k1 (by simp))
      have K1 := hide (HK.out.next k1)
      clear HP HK k1
      go_wp2_with (at_builtin; refine wpList_append_own _ rfl _ _ 48 rfl w.heap.size 52 i0 _ 3 24 Try.underlying48 hi hz0 hz1 hz2 rfl (by decide) _ l.length (flat l) rfl ?own ⟨w1.heap.size, 0, none⟩ 1 1 [.int .i64 q, .int .i64 ((b : Int) % 64), .int .i64 d] rfl rfl ?c1 ?c2 ?c3 ?c4 ?c5 ?_)
      case own => exact own_kept P1.out ((Kept.refl [] w1).alloc _) (by simp)
      case c1 => exact news3
      case c2 => intro x hx; simp at hx; rcases hx with rfl | rfl | rfl <;> rfl
      case c3 => unfold maxLen; omega
      case c4 => omega
      case c5 => simp; have := K1.out.size; omega
      intro v' w2 hown hgrow _
      have hP2 : Pieces w2 w.heap.size v' (l ++ [(q, b % 64, d)]) := by
        unfold Pieces
        rw [flat_append, List.length_append]
        have e3 : (.int .i64 ((b : Int) % 64) : Value) = .int .i64 ((b % 64 : Nat) : Int) := by simp
        rw [e3] at hown
        exact hown
      have hK2 : Kept [] w w2 := own_grown (own_kept P1.out ((Kept.refl [] w1).alloc _) (by simp)) hgrow w (K1.out.alloc _) (Nat.le_refl _)
      have R := hide (And.intro hP2 hK2)
      clear hown hgrow hP2 hK2 P1 K1 HQ HT
      go_wp2
      go_roundw
      case rel => exact ⟨b + d, k - d, l ++ [(q, b % 64, d)], by go_num, by congr 1; omega, by omega, by omega, by omega, by omega, Or.inl hd3, by simp; omega, R.out.1, R.out.2⟩
      case measure => simp [intOf]; omega
    · obtain rfl : q0 = b / 64 := by omega
      go_wp2_with fail
      refine (frame_any (H.out.kept0 HK.out) ((b : Int) / 64) (okN (by omega) (by omega)) 0 false (by rw [show (b : Int) / 64 = ((b / 64 : Nat) : Int) by omega, H3.out]; rfl) (by rw [show (b : Int) / 64 = ((b / 64 : Nat) : Int) by omega, H3.out]; rfl)).mono ?_
      rintro r w1 ⟨rfl, k1⟩
      have K1 := hide (HK.out.next k1)
      clear HP HK k1
      go_wp2
      go_ret2
      exact ⟨rfl, K1.out⟩
end Go.Proofs.Ytdgmfcnblaamcab.Me
