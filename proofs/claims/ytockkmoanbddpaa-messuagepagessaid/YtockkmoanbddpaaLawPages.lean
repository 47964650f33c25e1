/-
  MessuagePages: for all lists of bytes and every list of numbers the law answers true, and its arguments read behind the call as before. No condition.
-/
import Derived.Test.YtockkmoanbddpaaMem4
import Derived.Test.YtockkmoanbddpaaStands
import Derived.Test.YtockkmoanbddpaaCutB
import Derived.Test.YtockkmoanbddpaaLift
namespace Go.Proofs.Ytockkmoanbddpaa.pages
open Go.ChangeShapes Go.WideShapes Go.ChangeAt Go.RowKit Tb Me

/-- Lists of bytes: each lies in a cell, its bytes behind it. -/
def IsLists (w : World) (ao : Option Addr) (len : Nat) (L : Nat → Nat) (z : Nat → Nat → UInt8) : Prop :=
  ∀ r, r < len → ∃ b off A C, ao = some ⟨b, off, none⟩ ∧ w.cell? ⟨b, off + r, none⟩ = some (.slice A (L r) C) ∧ L r ≤ C ∧ C ≤ maxLen ∧ (A = none → C = 0) ∧ Bs w A (L r) (z r)
theorem open_lists {H : Type} {enc : TypeId × Value → H} {P : Program} {W : World} {t e q : TypeId} {v : Value} {d : DataW H} {p : List MemPlace}
    (ht : P.underlying t = some (.slice e)) (he : P.underlying e = some (.slice q)) (hq : P.underlying q = some (.int .u8)) (ce : P.cellsOf e = 1) (cq : P.cellsOf q = 1) (hv : ∃ a len cap, v = .slice a len cap)
    (h : DataW.Trod enc P W 0 (fun _ => true) true t v d p) : ∃ a len cap L z, v = .slice a len cap ∧ len ≤ maxLen ∧ IsLists W a len L z := by
  obtain ⟨a, len, cap, rfl⟩ := hv
  obtain ⟨fuel, hf⟩ := h
  rcases Deep.open_int_rows ht he hq ce cq hf with ⟨hcs, _⟩ | ⟨x, l, c, A, L, C, Z, hcs, _, hl, hm, _, hcell⟩
  · simp [Value.cells] at hcs
    obtain ⟨rfl, rfl, rfl⟩ := hcs
    exact ⟨none, 0, 0, fun _ => 0, fun _ _ => 0, rfl, Nat.zero_le _, fun i hi => absurd hi (Nat.not_lt_zero _)⟩
  · simp [Value.cells] at hcs
    obtain ⟨rfl, rfl, rfl⟩ := hcs
    refine ⟨some x, len, cap, L, fun r i => UInt8.ofNat ((Z r).getD i 0).toNat, rfl, Nat.le_trans hl hm, fun r hr => ?_⟩
    obtain ⟨h1, h2, h3, h4, h5, h6, h7⟩ := hcell r (by omega)
    obtain ⟨b, off, rfl, hc2⟩ := plain_addr (hcell 0 (by omega)).1 h1
    refine ⟨b, off, A r, C r, rfl, hc2, h2, h3, h6, ?_⟩
    refine Bs.of_ints (zs := fun i => (Z r).getD i 0) (fun i hi => ?_)
    cases hA : A r with
    | none => have := h6 hA; omega
    | some y =>
      obtain ⟨_, hy⟩ := h7 y hA
      obtain ⟨b2, off2, rfl, hc3⟩ := plain_addr (hy 0 (by omega)) (hy i (by omega))
      refine ⟨b2, off2, rfl, hc3, h5 _ ?_⟩
      show (Z r).getD i 0 ∈ Z r
      rw [List.getD_eq_getElem?_getD, List.getElem?_eq_getElem (by omega)]; exact List.getElem_mem _

def T (k : Nat) (x : Int) : Option Int := if 1 ≤ x ∧ x ≤ k then some (2 * (x - 1)) else none
def R (k : Nat) (y : Int) : Option Int := if 0 ≤ y ∧ y < 2 * k ∧ y % 2 = 0 then some (y / 2 + 1) else none
theorem T_no (k : Nat) : T k (k + 1) = none := by unfold T; rw [if_neg (by omega)]
theorem R_no (k : Nat) : R k (2 * k) = none := by unfold R; rw [if_neg (by omega)]
theorem T_put (k : Nat) (x : Int) : mput (T k) (k + 1) (2 * k) x = T (k + 1) x := by
  unfold mput T
  by_cases h : x = k + 1
  · subst h; rw [if_pos rfl, if_pos (by omega)]; congr 1; omega
  · rw [if_neg h]; by_cases h2 : (1 : Int) ≤ x ∧ x ≤ k
    · rw [if_pos h2, if_pos (by omega)]
    · rw [if_neg h2, if_neg (by omega)]
theorem R_put (k : Nat) (y : Int) : mput (R k) (2 * k) (k + 1) y = R (k + 1) y := by
  unfold mput R
  by_cases h : y = 2 * k
  · subst h; rw [if_pos rfl, if_pos (by omega)]; congr 1; omega
  · rw [if_neg h]; by_cases h2 : 0 ≤ y ∧ y < 2 * (k : Int) ∧ y % 2 = 0
    · rw [if_pos h2, if_pos (by omega)]
    · rw [if_neg h2, if_neg (by omega)]
def F0 (q : Nat) : Nat := 2 * (q - 1)
/-- n pages on frames of their own, with their bytes. -/
structure Inv (to fr : Int → Option Int) (F : Nat → Nat) (f : Nat → UInt8) (M : Nat → Nat) (z : Nat → Nat → UInt8) (n : Nat) : Prop where
  to_ : ∀ p : Nat, p < n → to ((p : Int) + 1) = some (F (p + 1) : Int)
  fr_ : ∀ p : Nat, p < n → fr (F (p + 1)) = some ((p : Int) + 1)
  lt_ : ∀ p : Nat, p < n → F (p + 1) < 16
  by_ : ∀ p : Nat, p < n → ∀ i, i < M p → f (F (p + 1) * 64 + i) = z p i
theorem Inv.move {to fr : Int → Option Int} {F : Nat → Nat} {f : Nat → UInt8} {M : Nat → Nat} {z : Nat → Nat → UInt8} {n : Nat} (h : Inv to fr F f M z n) (hM : ∀ p, M p ≤ 64) {p k : Nat} (hp : p < n) (hk : k < 16) (hno : fr k = none) :
    Inv (mput (mdel to ((p : Int) + 1)) ((p : Int) + 1) k) (mput (mdel fr (F (p + 1))) k ((p : Int) + 1)) (fun q => if q = p + 1 then k else F q) (Fr.movd f (F (p + 1)) k) M z n := by
  have hne : ∀ q, q < n → F (q + 1) ≠ k := by
    intro q hq e
    have := h.fr_ q hq
    rw [e, hno] at this; cases this
  refine ⟨fun q hq => ?_, fun q hq => ?_, fun q hq => ?_, fun q hq i hi => ?_⟩
  · by_cases e : q = p
    · subst e; rw [mput_same]; simp
    · rw [mput_other _ _ _ _ (by omega), mdel_other _ _ _ (by omega), if_neg (by omega)]; exact h.to_ q hq
  · by_cases e : q = p
    · subst e; rw [if_pos rfl, mput_same]
    · have h1 := hne q hq
      have h2 : F (q + 1) ≠ F (p + 1) := by
        intro e2
        have a1 := h.fr_ q hq
        rw [e2, h.fr_ p hp] at a1
        have := Option.some.inj a1
        omega
      rw [if_neg (by omega), mput_other _ _ _ _ (by omega), mdel_other _ _ _ (by omega)]; exact h.fr_ q hq
  · show (if q + 1 = p + 1 then k else F (q + 1)) < 16
    split
    · exact hk
    · exact h.lt_ q hq
  · rw [← h.by_ q hq i hi]
    have h64 := hM q
    show over f (k * 64) 64 (fun i => f (F (p + 1) * 64 + i)) ((if q + 1 = p + 1 then k else F (q + 1)) * 64 + i) = f (F (q + 1) * 64 + i)
    by_cases e : q = p
    · subst e; rw [if_pos rfl, over_in (by omega)]
    · rw [if_neg (by omega)]
      have := hne q hq
      exact over_out (by omega)
theorem Inv.write {f : Nat → UInt8} {M : Nat → Nat} {z : Nat → Nat → UInt8} {k : Nat} (h : Inv (T k) (R k) F0 f M z k) (hM : ∀ p, M p ≤ 64) (hk : k < 6) :
    Inv (T (k + 1)) (R (k + 1)) F0 (wrt (pcs F0 (64 * (k + 1)) (M k)) f (z k)) M z (k + 1) := by
  refine ⟨fun p hp => by unfold T F0; rw [if_pos (by omega)]; congr 1; omega, fun p hp => by unfold R F0; rw [if_pos (by omega)]; congr 1; omega, fun p hp => by unfold F0; omega, fun p hp i hi => ?_⟩
  have h1 := hM p
  have h2 := hM k
  have e := wrt_pcs F0 (fun q => 1 ≤ q) (fun a b ha hb e => by unfold F0 at e; omega) (M k) (64 * (k + 1)) (M k) f (z k) (Nat.le_refl _) (fun q hq _ => by show 1 ≤ q; omega) ((p + 1) * 64 + i) (by show 1 ≤ ((p + 1) * 64 + i) / 64; omega)
  have e2 : pos F0 ((p + 1) * 64 + i) = F0 (p + 1) * 64 + i := by
    unfold pos
    rw [show ((p + 1) * 64 + i) / 64 = p + 1 by omega, show ((p + 1) * 64 + i) % 64 = i by omega]
  rw [e2] at e
  rw [e]
  by_cases hpk : p = k
  · subst hpk
    rw [if_pos (by omega)]; congr 1; omega
  · rw [if_neg (by omega)]
    exact h.by_ p (by omega) i hi
theorem inv0 (f : Nat → UInt8) (M : Nat → Nat) (z : Nat → Nat → UInt8) : Inv (T 0) (R 0) F0 f M z 0 := ⟨fun _ h => absurd h (Nat.not_lt_zero _), fun _ h => absurd h (Nat.not_lt_zero _), fun _ h => absurd h (Nat.not_lt_zero _), fun _ h => absurd h (Nat.not_lt_zero _)⟩
theorem write_at {w : World} {m g c n e t : Nat} {f z : Nat → UInt8} {u bt bf N : Nat} {p : Int} {to fr : Int → Option Int} (F : Nat → Nat) (h : MemAt w m g c n e t f u bt bf N p to fr) (addr len cap : Nat) {ai : Int} (ea : ai = addr) (ao : Option Addr) (h1 : len ≤ 65536) (h2 : addr + len ≤ 262144) (hlc : len ≤ cap)
    (hz : Bs w ao len z) (hzc : ∀ a, ao = some a → 0 < len → a.block ≠ c)
    (hF : ∀ q : Nat, addr / 64 ≤ q → q * 64 < addr + len → 0 < len → to q = some (F q : Int)) (hT : ∀ q : Nat, addr / 64 ≤ q → q * 64 < addr + len → F q < t) :
    Calls Try.prog 43 #[.pointer (some ⟨m, 0, none⟩), .int .i64 ai, .slice ao len cap] w fun r w' => r = .returned (.int .i64 0) ∧ MemAt w' m g c n e t (wrt (pcs F addr len) f z) u bt bf N p to fr ∧ Kept [c] w w' := by
  subst ea; exact write_ok F h addr len cap ao h1 h2 hlc hz hzc hF hT
theorem read_at {w : World} {m g c n e t : Nat} {f : Nat → UInt8} {u bt bf N : Nat} {p : Int} {to fr : Int → Option Int} (F : Nat → Nat) (h : MemAt w m g c n e t f u bt bf N p to fr) (addr len : Nat) {ai : Int} (ea : ai = addr) (h1 : len ≤ 65536) (h2 : addr + len ≤ 262144)
    (hF : ∀ q : Nat, addr / 64 ≤ q → q * 64 < addr + len → 0 < len → to q = some (F q : Int)) (hT : ∀ q : Nat, addr / 64 ≤ q → q * 64 < addr + len → F q < t) :
    Calls Try.prog 46 #[.pointer (some ⟨m, 0, none⟩), .int .i64 ai, .int .i64 len] w fun r w' => ∃ ao cap, r = .returned (.tuple #[.slice ao len cap, .int .i64 0]) ∧ Bs w' ao len (fun i => f (pos F (addr + i))) ∧ (∀ a, ao = some a → w.heap.size ≤ a.block) ∧ Kept [] w w' := by
  subst ea; exact read_ok F h addr len h1 h2 hF hT

set_option maxRecDepth 20000 in
set_option maxHeartbeats 4000000 in
theorem walk (ao : Option Addr) (len cap : Nat) (L : Nat → Nat) (z : Nat → Nat → UInt8) (ar : Option Addr) (lr cr : Nat) (zs : Nat → Int) (w : World) (hlen : len ≤ maxLen) (hT : IsLists w ao len L z) (hlr : lr ≤ maxLen) (hzs : IsInts .i64 w ar lr zs) :
    Calls Try.prog 12 #[.slice ao len cap, .slice ar lr cr] w fun e w' => e = .returned (.bool true) ∧ Kept [] w w' := by
  unfold maxLen at hlr hlen
  have HT := hide hT
  have HS := hide hzs
  obtain ⟨n, hn⟩ : ∃ n : Nat, n = min len 6 := ⟨_, rfl⟩
  have en : min (len : Int) 6 = (n : Int) := by omega
  have hn6 : n ≤ 6 := by omega
  have hnl : n ≤ len := by omega
  obtain ⟨M, hM⟩ : ∃ M : Nat → Nat, M = fun p => min (L p) 64 := ⟨_, rfl⟩
  have HMe : Hid (∀ p, M p = min (L p) 64) := hide (fun p => by rw [hM])
  have HM : Hid (∀ p, M p ≤ 64) := hide (fun p => by rw [HMe.out]; omega)
  clear hT hzs hn hM
  go_enter Try.func12, Try.ntmps12
  go_wp2_with fail
  refine (Fr.new_ok 4 4 (by decide) (by decide) (by decide) (by decide) 16 rfl).mono ?_
  rintro r w1 ⟨g, c, rfl, s1, hg, hc, k1⟩
  have S1 := hide s1
  have K1 := hide k1
  clear s1 k1
  go_wp2_with fail
  refine (new_ok S1.out).mono ?_
  rintro r w2 ⟨mm, u, bq, bf, rfl, m2, hmm, hu, hbt, hbf, k2⟩
  have M2 := hide m2
  have K2 := hide (K1.out.next k2)
  have h1s := K1.out.size
  clear m2 k2 S1 K1
  go_wp2_with fail
  refine (St.stands_true _).mono ?_
  rintro r w3 ⟨rfl, k3⟩
  have M3 := hide (M2.out.kept0 k3)
  have K3 := hide (K2.out.next k3)
  clear M2 K2 k3
  go_wp2_with fail
  clear en
  go_loopw [10] (fun i wr => ∃ (k : Nat) (f : Nat → UInt8), k ≤ n ∧ i = .int .i64 k ∧ MemAt wr mm g c 4 4 16 f u bq bf k k (T k) (R k) ∧ Inv (T k) (R k) F0 f M z k ∧ Kept [] w wr) (fun i _ => n - (intOf i).toNat)
  case atStart => exact ⟨0, _, by omega, rfl, M3.out.congr (fun x => by unfold T; rw [if_neg (by omega)]) (fun y => by unfold R; rw [if_neg (by omega)]), inv0 _ _ _, K3.out⟩
  case round =>
    obtain ⟨k, f, hk, rfl, hM, hI, hK⟩ := hrel
    have MK := hide hM
    have IK := hide hI
    have KK := hide hK
    clear hM hI hK M3 K3
    by_cases hlt : k < n
    · obtain ⟨b, off, A, C, hao, hcell, hLC, hC, hA, hB⟩ := HT.out k (by omega)
      subst hao
      obtain ⟨d, hd⟩ : ∃ d, d = M k := ⟨_, rfl⟩
      have hd64 : d ≤ 64 := by rw [hd]; exact HM.out k
      have ED : Hid ((d : Int) = min (L k : Int) 64) := hide (by rw [hd, HMe.out]; omega)
      have HD := hide hd
      have BA := hide (And.intro hB hA)
      have IW := hide (IK.out.write HM.out (by omega))
      have CC := hide hcell
      have hbw : b < w.heap.size := World.block_lt_of_cell? w _ hcell
      clear hd hB hA IK hcell
      go_wp2_with fail
      refine (map_ok MK.out ((k : Int) + 1) (2 * k) (by omega) (by omega) (by omega) (by omega) (by omega) (by omega) (by omega) (T_no k) (R_no k)).mono ?_
      rintro r w4 ⟨rfl, m4, k4⟩
      have M4 := hide (m4.congr (T_put k) (R_put k))
      have K4 := hide (KK.out.trans k4 (by intro x hx hl; simp at hx; omega))
      clear m4 k4 MK KK
      have hc4 := K4.out.cell CC.out (by simp)
      go_wp2_with fail
      refine (St.cut_ok (m := d) 64 ED.out hLC BA.out.2 (by omega) (BA.out.1.kept0 K4.out)).mono ?_
      rintro r w5 ⟨a5, c5, rfl, hdc, b5, g5, k5⟩
      have M5 := hide (M4.out.kept0 k5)
      have hcw : c < w4.heap.size := M4.out.st.clt
      have K5 := hide (K4.out.next k5)
      have B5 := hide (And.intro b5 g5)
      clear M4 K4 k5 b5 g5 hc4
      go_wp2_with fail
      refine (write_at (z := z k) F0 M5.out (64 * (k + 1)) d c5 (by omega) a5 (by omega) (by omega) hdc B5.out.1 (by intro a ha _ e; have := B5.out.2 a ha; omega) (by intro q h1 h2 h0; obtain rfl : q = k + 1 := by { omega }; exact IW.out.to_ k (by omega)) (by intro q h1 h2; unfold F0; omega)).mono ?_
      rintro r w6 ⟨rfl, m6, k6⟩
      rw [HD.out] at m6
      have M6 := hide m6
      have K6 := hide (K5.out.trans k6 (by intro x hx hl; simp at hx; omega))
      clear m6 k6 M5 K5 B5
      go_wp2
      go_roundw
      case rel => exact ⟨k + 1, _, by omega, by go_num, M6.out, IW.out, K6.out⟩
      case measure => simp [intOf]; omega
    · obtain rfl : k = n := by omega
      clear hlt hk
      go_wp2_with fail
      go_loopw [11] (fun i wr => ∃ (j : Nat) (to fr : Int → Option Int) (F : Nat → Nat) (f : Nat → UInt8), j ≤ lr ∧ j ≤ 30 ∧ i = .int .i64 j ∧ MemAt wr mm g c 4 4 16 f u bq bf (k + j) k to fr ∧ Inv to fr F f M z k ∧ Kept [] w wr) (fun i _ => 30 - (intOf i).toNat)
      case atStart => exact ⟨0, _, _, _, _, by omega, by omega, rfl, MK.out, IK.out, KK.out⟩
      case round =>
        obtain ⟨j, to, fr, F, f, hj, hj30, rfl, hM, hI, hK⟩ := hrel
        have MJ := hide hM
        have IJ := hide hI
        have KJ := hide hK
        clear hM hI hK MK IK KK
        rcases (show (j < lr ∧ j < 30 ∧ 0 < k) ∨ (j < lr ∧ j < 30 ∧ k = 0) ∨ (j < lr ∧ 30 ≤ j) ∨ lr ≤ j by omega) with ⟨h1, h2, h3⟩ | ⟨h1, h2, h3⟩ | ⟨h1, h2⟩ | h1
        · obtain ⟨b0, off, har, hcell, _⟩ := HS.out j h1
          subst har
          have hcr := KJ.out.cell hcell (by simp)
          clear hcell
          obtain ⟨p, hp, ep⟩ := mod_small (zs j) k (by omega) (by omega)
          obtain ⟨t, ht, et⟩ := mod_small ((IntKind.u64.wrap (zs j)).tdiv 8) 16 (by decide) (by decide)
          cases hft : fr (t : Int) with
          | some x =>
            have FT := hide hft
            clear hft
            go_wp2_with fail
            refine (page_any MJ.out t (okN (by omega) (by omega)) x true (by rw [FT.out]; rfl) (by rw [FT.out]; rfl)).mono ?_
            rintro r w5 ⟨rfl, k5⟩
            have M5 := hide (MJ.out.kept0 k5)
            have K5 := hide (KJ.out.next k5)
            clear MJ KJ k5 hcr ep et
            go_wp2
            go_roundw
            case rel => exact ⟨j + 1, _, _, _, _, by omega, by omega, by go_num, ⟨M5.out.obj, M5.out.st, M5.out.tw.mono (by omega)⟩, IJ.out, K5.out⟩
            case measure => simp [intOf]; omega
          | none =>
            have FT := hide hft
            have I2 := hide (IJ.out.move HM.out (p := p) (k := t) (by omega) (by omega) hft)
            have HP := hide (And.intro (IJ.out.to_ p (by omega)) (IJ.out.lt_ p (by omega)))
            have hFt : F (p + 1) ≠ t := by
              intro e
              have := IJ.out.fr_ p (by omega)
              rw [e, hft] at this; cases this
            obtain ⟨q, hq⟩ : ∃ q, q = F (p + 1) := ⟨_, rfl⟩
            rw [← hq] at HP I2 hFt
            have E1 : Hid (mput (mdel to ((p : Int) + 1)) ((p : Int) + 1) (t : Int) ((p : Int) + 1) = some (t : Int)) := hide (mput_same _ _ _)
            have E2 : Hid (mput (mdel fr (q : Int)) (t : Int) ((p : Int) + 1) (q : Int) = none) := hide (by rw [mput_other _ _ _ _ (by omega), mdel_same])
            have hq16 : q < 16 := HP.out.2
            clear hft hq
            go_wp2_with fail
            refine (page_any MJ.out t (okN (by omega) (by omega)) 0 false (by rw [FT.out]; rfl) (by rw [FT.out]; rfl)).mono ?_
            rintro r w5 ⟨rfl, k5⟩
            have M5 := hide (MJ.out.kept0 k5)
            have K5 := hide (KJ.out.next k5)
            clear MJ KJ k5 hcr
            go_wp2_with fail
            refine (move_ok M5.out ((p : Int) + 1) t q (by omega) (by omega) (by omega) HP.out.2 (by omega) (by omega) (by omega) HP.out.1 FT.out).mono ?_
            rintro r w6 ⟨rfl, m6, k6⟩
            have M6 := hide m6
            have K6 := hide (K5.out.trans k6 (by intro x hx hl; simp at hx; omega))
            clear m6 k6 M5 K5
            go_wp2_with fail
            refine (frame_any M6.out ((p : Int) + 1) (okN (by omega) (by omega)) t true (by rw [E1.out]; rfl) (by rw [E1.out]; rfl)).mono ?_
            rintro r w7 ⟨rfl, k7⟩
            have M7 := hide (M6.out.kept0 k7)
            have K7 := hide (K6.out.next k7)
            clear k7 M6 K6
            go_wp2_with fail
            refine (page_any M7.out q (okN (by omega) (by omega)) 0 false (by rw [E2.out]; rfl) (by rw [E2.out]; rfl)).mono ?_
            rintro r w8 ⟨rfl, k8⟩
            have M8 := hide (M7.out.kept0 k8)
            have K8 := hide (K7.out.next k8)
            clear k8 M7 K7 E1 E2 FT HP
            go_wp2
            go_roundw
            case rel => exact ⟨j + 1, _, _, _, _, by omega, by omega, by go_num, ⟨M8.out.obj, M8.out.st, M8.out.tw.mono (by omega)⟩, I2.out, K8.out⟩
            case measure => simp [intOf]; omega
        · have MJ0 := MJ
          go_wp2_with fail
          go_loopw [22] (fun i wr => i = .int .i64 0 ∧ MemAt wr mm g c 4 4 16 f u bq bf (k + j) k to fr ∧ Kept [] w wr) (fun _ _ => 0)
          case atStart => exact ⟨rfl, MJ.out, KJ.out⟩
          case round =>
            obtain ⟨rfl, hM, hK⟩ := hrel
            have MP := hide hM
            have KP := hide hK
            clear hM hK MJ KJ MJ0
            go_wp2_with fail
            refine (mapped_any MP.out).mono ?_
            rintro r w5 ⟨rfl, hw5⟩
            subst w5
            go_wp2
            go_ret
            exact ⟨by simp, KP.out⟩
        all_goals
          go_wp2_with fail
          go_loopw [22] (fun i wr => ∃ p : Nat, p ≤ k ∧ i = .int .i64 p ∧ MemAt wr mm g c 4 4 16 f u bq bf (k + j) k to fr ∧ Kept [] w wr) (fun i _ => k - (intOf i).toNat)
          case atStart => exact ⟨0, by omega, rfl, MJ.out, KJ.out⟩
          case round =>
            obtain ⟨p, hp, rfl, hM, hK⟩ := hrel
            have MP := hide hM
            have KP := hide hK
            clear hM hK MJ KJ
            by_cases hpk : p < k
            · obtain ⟨b, off, A, C, hao, hcell, hLC, hC, hA, hB⟩ := HT.out p (by omega)
              subst hao
              obtain ⟨d, hd⟩ : ∃ d, d = M p := ⟨_, rfl⟩
              have hd64 : d ≤ 64 := by rw [hd]; exact HM.out p
              have ED : Hid ((d : Int) = min (L p : Int) 64) := hide (by rw [hd, HMe.out]; omega)
              have TX : Hid (bt d (fun i => f (pos F (64 * (p + 1) + i))) = bt d (z p)) := hide (bt_congr (fun i hi => by
                rw [← IJ.out.by_ p hpk i (by rw [← hd]; exact hi)]
                unfold pos
                rw [show (64 * (p + 1) + i) / 64 = p + 1 by omega, show (64 * (p + 1) + i) % 64 = i by omega]))
              have BA := hide (And.intro hB hA)
              have hcr := KP.out.cell hcell (by simp)
              have PF := hide (And.intro (IJ.out.to_ p hpk) (IJ.out.lt_ p hpk))
              clear hd hB hA hcell
              go_wp2_with fail
              refine (St.cut_ok (m := d) 64 ED.out hLC BA.out.2 (by omega) (BA.out.1.kept0 KP.out)).mono ?_
              rintro r w5 ⟨a5, c5, rfl, hdc, b5, g5, k5⟩
              have M5 := hide (MP.out.kept0 k5)
              have K5 := hide (KP.out.next k5)
              have B5 := hide b5
              clear MP KP k5 b5 g5 hcr
              go_wp2_with fail
              refine (read_at F M5.out (64 * (p + 1)) d (by omega) (by omega) (by omega) (by intro q h1 h2 h0; obtain rfl : q = p + 1 := by { omega }; exact PF.out.1) (by intro q h1 h2; rcases (show q = p + 1 ∨ d = 0 ∨ q ≠ p + 1 by omega) with rfl | h | h; exact PF.out.2; omega; omega)).mono ?_
              rintro r w6 ⟨ao6, cap6, rfl, b6, -, k6⟩
              have M6 := hide (M5.out.kept0 k6)
              have K6 := hide (K5.out.next k6)
              have t1 := run_text (cap := cap6) Try.underlying23 Try.underlying5 Try.underlying9 b6
              have t2 := run_text (cap := c5) Try.underlying23 Try.underlying5 Try.underlying9 (B5.out.kept0 k6)
              rw [TX.out] at t1
              obtain ⟨X, hX⟩ : ∃ X, X = bt d (z p) := ⟨_, rfl⟩
              rw [← hX] at t1 t2
              clear hX b6 k6 M5 K5 B5 TX PF BA
              go_wp2
              go_roundw
              case rel => exact ⟨p + 1, by omega, by go_num, M6.out, K6.out⟩
              case measure => simp [intOf]; omega
            · go_wp2_with fail
              refine (mapped_any MP.out).mono ?_
              rintro r w5 ⟨rfl, hw5⟩
              subst w5
              go_wp2
              go_ret
              exact ⟨by simp, KP.out⟩

theorem own : ownKnob Try.prog.godebug = none := by kernel_rfl
theorem laidOut : laidOutB Try.prog = true := by kernel_rfl

set_option maxRecDepth 100000 in
theorem lifted (os : Os) (started : os.Started) (H : Type) (enc : TypeId × Value → H) :
    ReturnsInHanded {} Try.checked os 12 .any (Rows.messuagePagesSpec.pre6 enc Try.prog Try.f12 Rows.messuagePagesRow.domain false) (Rows.messuagePagesSpec.post enc Try.prog Try.f12 false true false false) := by
  refine returnsInHanded_of_change (C := Try.checked) own started (by kernel_rfl) Try.func12
    (ChangeSpec.witness6 (enc := enc) (C := Try.checked) false ⟨#[], #[.slice none 0 0, .slice none 0 0], []⟩ 8 (by kernel_rfl) (by kernel_rfl) (by kernel_rfl) (by kernel_rfl)) ?_
  intro W base args ds gs before hval0 hW hcnd _
  have hval : ∀ (j : Nat) t v, Try.f12.params[j]? = some t → args[j]? = some v → Value.okWide Try.prog W .any base t v := hval0
  have hW' := hW
  obtain ⟨p, q, hA0, hV, rfl, hfz, hnd⟩ := hW
  have hA : DataW.TrodAll enc Try.prog W 0 (fun _ => true) true Try.f12.params.toList args.toList ds p := hA0
  have hK := hA
  rw [Try.params12] at hA hval
  obtain ⟨v0, vs0, d0, ds0, p0, q0, hargs, rfl, rfl, h0, r0⟩ := trodAll_cons hA
  obtain ⟨v1, vs1, d1, ds1, p1, q1, rfl, rfl, rfl, h1, r1⟩ := trodAll_cons r0
  obtain ⟨rfl, rfl, rfl⟩ := trodAll_nil r1
  obtain rfl : args = #[v0, v1] := by cases args; simp_all
  obtain ⟨rfl, rfl⟩ := trodVars_none hV
  obtain ⟨a0, len0, cap0, L0, z0, rfl, hlen, hTx⟩ := open_lists Try.underlying72 Try.underlying23 Try.underlying5 (by kernel_rfl) (by kernel_rfl) (okWide_slice Try.underlying72 (hval 0 72 v0 rfl rfl)) h0
  obtain ⟨a1, len1, cap1, zs1, rfl, hl1, hm1, hn1, hT1⟩ := open_list Try.underlying49 Try.underlying3 (by kernel_rfl) (okWide_slice Try.underlying49 (hval 1 49 v1 rfl rfl)) h1
  clear hA0 hval0
  refine (walk a0 len0 cap0 L0 z0 a1 len1 cap1 zs1 W hlen hTx (Nat.le_trans hl1 hm1) hT1).mono fun e W' ⟨he, hk⟩ => ?_
  subst he
  exact ⟨_, rfl, _, _, _, [], _, [], hW', trodAll_mk1 (shut_bool Try.underlying4 _), trodAll_below laidOut hk.below _ _ _ _ hK (by kernel_rfl), rfl, hk.below.frame _, fun h => by cases h⟩

theorem said : Rows.MessuagePagesSaid :=
  OpenClaim.holds_of_wide 12 Try.f12 rfl rfl rfl rfl rfl rfl rfl ⟨rfl, rfl, rfl, rfl, rfl⟩ rfl rfl rfl rfl rfl (by kernel_rfl) Try.func12 (by kernel_rfl)
    (of_decide_eq_true (by kernel_rfl)) (by unfold Func.isWrapper; first | (rw [if_pos (by decide +kernel)]; kernel_rfl) | (rw [if_neg (by decide +kernel)]; exact ⟨rfl, rfl⟩))
    (fun os started H enc _ => lifted os started H enc)
end Go.Proofs.Ytockkmoanbddpaa.pages
