/-
  MemoryMoves: for all bytes and every list of numbers the law answers true, and its arguments read behind the call as before. No condition.
-/
import Derived.Test.YtockkmoanbddpaaMemHolds
import Derived.Test.YtockkmoanbddpaaLift
namespace Go.Proofs.Ytockkmoanbddpaa.moves
open Go.ChangeShapes Go.WideShapes Go.ChangeAt Go.RowKit Tb Me

def T (k : Nat) (x : Int) : Option Int := if 0 ≤ x ∧ x < k then some (3 * x) else none
def R (k : Nat) (y : Int) : Option Int := if 0 ≤ y ∧ y < 3 * k ∧ y % 3 = 0 then some (y / 3) else none
theorem T_no (k : Nat) : T k k = none := by unfold T; rw [if_neg (by omega)]
theorem R_no (k : Nat) : R k (3 * k) = none := by unfold R; rw [if_neg (by omega)]
theorem T_put (k : Nat) (x : Int) : mput (T k) k (3 * k) x = T (k + 1) x := by
  unfold mput T
  by_cases h : x = k
  · subst h; rw [if_pos rfl, if_pos (by omega)]
  · rw [if_neg h]; by_cases h2 : (0 : Int) ≤ x ∧ x < k
    · rw [if_pos h2, if_pos (by omega)]
    · rw [if_neg h2, if_neg (by omega)]
theorem R_put (k : Nat) (y : Int) : mput (R k) (3 * k) k y = R (k + 1) y := by
  unfold mput R
  by_cases h : y = 3 * k
  · subst h; rw [if_pos rfl, if_pos (by omega)]; congr 1; omega
  · rw [if_neg h]; by_cases h2 : 0 ≤ y ∧ y < 3 * (k : Int) ∧ y % 3 = 0
    · rw [if_pos h2, if_pos (by omega)]
    · rw [if_neg h2, if_neg (by omega)]
theorem _root_.Go.Proofs.Ytockkmoanbddpaa.Me.MemAt.widen {w : World} {m g c n e t : Nat} {f : Nat → UInt8} {u bt bf N N' : Nat} {p : Int} {to fr : Int → Option Int} (h : MemAt w m g c n e t f u bt bf N p to fr) (hn : N ≤ N') : MemAt w m g c n e t f u bt bf N' p to fr := ⟨h.obj, h.st, h.tw.mono hn⟩
/-- Four pages on frames of their own, with their bytes. -/
structure Inv (to fr : Int → Option Int) (F : Nat → Nat) (f B : Nat → UInt8) : Prop where
  to_ : ∀ q : Nat, q < 4 → to q = some (F q : Int)
  fr_ : ∀ q : Nat, q < 4 → fr (F q) = some (q : Int)
  lt_ : ∀ q : Nat, q < 4 → F q < 16
  by_ : ∀ a : Nat, a < 256 → f (pos F a) = B a
theorem Inv.move {to fr : Int → Option Int} {F : Nat → Nat} {f B : Nat → UInt8} (h : Inv to fr F f B) {p k : Nat} (hp : p < 4) (hk : k < 16) (hno : fr k = none) :
    Inv (mput (mdel to p) p k) (mput (mdel fr (F p)) k p) (fun q => if q = p then k else F q) (Fr.movd f (F p) k) B := by
  have hne : ∀ q, q < 4 → F q ≠ k := by
    rintro q hq rfl
    have := h.fr_ q hq
    rw [hno] at this; cases this
  refine ⟨fun q hq => ?_, fun q hq => ?_, fun q hq => ?_, fun a ha => ?_⟩
  · by_cases e : q = p
    · subst e; rw [mput_same]; simp
    · rw [mput_other _ _ _ _ (by omega), mdel_other _ _ _ (by omega), if_neg e]; exact h.to_ q hq
  · by_cases e : q = p
    · subst e; rw [if_pos rfl, mput_same]
    · have h1 := hne q hq
      have h2 : F q ≠ F p := by
        intro e2
        have a1 := h.fr_ q hq
        rw [e2, h.fr_ p hp] at a1
        have := Option.some.inj a1
        omega
      rw [if_neg e, mput_other _ _ _ _ (by omega), mdel_other _ _ _ (by omega)]; exact h.fr_ q hq
  · show (if q = p then k else F q) < 16
    split
    · exact hk
    · exact h.lt_ q hq
  · rw [← h.by_ a ha]
    show over f (k * 64) 64 (fun i => f (F p * 64 + i)) ((if a / 64 = p then k else F (a / 64)) * 64 + a % 64) = f (F (a / 64) * 64 + a % 64)
    by_cases e : a / 64 = p
    · rw [if_pos e, over_in (Nat.mod_lt _ (by decide)), e]
    · rw [if_neg e]
      have := hne (a / 64) (by omega)
      exact over_out (by omega)
theorem T_inv (f B : Nat → UInt8) (h : ∀ a : Nat, a < 256 → f (pos (fun q => 3 * q) a) = B a) : Inv (T 4) (R 4) (fun q => 3 * q) f B :=
  ⟨fun q hq => by unfold T; rw [if_pos (by omega)]; simp, fun q hq => by unfold R; rw [if_pos (by omega)]; congr 1; omega, fun q hq => by show 3 * q < 16; omega, h⟩
set_option maxRecDepth 20000 in
set_option maxHeartbeats 2000000 in
theorem walk (ao : Option Addr) (len cap : Nat) (z : Nat → UInt8) (ar : Option Addr) (lr cr : Nat) (zs : Nat → Int) (w : World) (hlen : len ≤ cap) (hcap : cap ≤ maxLen) (hz : Bs w ao len z) (hlr : lr ≤ maxLen) (hzs : IsInts .i64 w ar lr zs) :
    Calls Try.prog 9 #[.slice ao len cap, .slice ar lr cr] w fun e w' => e = .returned (.bool true) ∧ Kept [] w w' := by
  unfold maxLen at hlr hcap
  obtain ⟨m, hm⟩ : ∃ m : Nat, m = min len 256 := ⟨_, rfl⟩
  have hcut := run_cut0 Try.underlying23 Fr.info ao len cap .i64 (j := min (len : Int) 256) m (by omega) (by omega)
  have hao : ∀ a, ao = some a → 0 < m → a.block < w.heap.size := by
    rintro a rfl h0
    obtain ⟨b, off, hx, hc⟩ := hz 0 (by omega)
    cases hx
    exact World.block_lt_of_cell? w _ hc
  have HZ := hide (And.intro (hz.take (show m ≤ len by omega)) hao)
  have HS := hide hzs
  have HM : m ≤ 256 := by omega
  have HMC : m ≤ cap := by omega
  clear hz hm hzs hao
  go_enter Try.func9, Try.ntmps9
  go_wp2_with fail
  refine (Fr.new_ok 2 8 (by decide) (by decide) (by decide) (by decide) 16 rfl).mono ?_
  rintro r w1 ⟨g, c, rfl, s1, hg, hc, k1⟩
  have S1 := hide s1
  have K1 := hide k1
  clear s1 k1
  go_wp2_with fail
  refine (new_ok S1.out).mono ?_
  rintro r w2 ⟨mm, u, bq, bf, rfl, m2, hmm, hu, hbt, hbf, k2⟩
  have M2 := hide m2
  have K2 := hide (K1.out.next k2)
  have h1s := K1.out.size
  clear m2 k2 S1 K1
  go_wp2_with fail
  refine (moves_true _).mono ?_
  rintro r w3 ⟨rfl, k3⟩
  have M3 := hide (M2.out.kept0 k3)
  have K3 := hide (K2.out.next k3)
  clear M2 K2 k3
  go_wp2_with fail
  go_loopw [9] (fun i wr => ∃ k : Nat, k ≤ 4 ∧ i = .int .i64 k ∧ MemAt wr mm g c 2 8 16 (fun _ => 0) u bq bf k k (T k) (R k) ∧ Kept [] w wr) (fun i _ => 4 - (intOf i).toNat)
  case atStart => exact ⟨0, by omega, rfl, M3.out.congr (fun x => by unfold T; rw [if_neg (by omega)]) (fun y => by unfold R; rw [if_neg (by omega)]), K3.out⟩
  case round =>
    obtain ⟨k, hk, rfl, hM, hK⟩ := hrel
    have MK := hide hM
    have KK := hide hK
    clear hM hK M3 K3
    by_cases hlt : k < 4
    · go_wp2_with fail
      refine (map_ok MK.out k (3 * k) (by omega) (by omega) (by omega) (by omega) (by omega) (by omega) (by omega) (T_no k) (R_no k)).mono ?_
      rintro r w4 ⟨rfl, m4, k4⟩
      have M4 := hide (m4.congr (T_put k) (R_put k))
      have K4 := hide (KK.out.trans k4 (by intro x hx hl; simp at hx; omega))
      clear m4 k4 MK KK
      go_wp2
      go_roundw
      case rel => exact ⟨k + 1, by omega, by go_num, M4.out, K4.out⟩
      case measure => simp [intOf]; omega
    · obtain rfl : k = 4 := by omega
      clear hlt hk
      go_wp2_with fail
      refine (write_ok (z := z) (fun q => 3 * q) MK.out 0 m cap ao (by omega) (by omega) HMC (HZ.out.1.kept0 KK.out) ?za ?zb ?zc).mono ?_
      case za =>
        intro a ha h0 e
        have := HZ.out.2 a ha h0
        omega
      case zb => intro q _ h2 _; unfold T; rw [if_pos (by omega)]; rfl
      case zc => intro q _ h2; show 3 * q < 16; omega
      rintro r w4 ⟨rfl, m4, k4⟩
      have I4 : Inv (T 4) (R 4) (fun q => 3 * q) (wrt (pcs (fun q => 3 * q) 0 m) (fun _ => 0) z) (fun a => if a < m then z a else 0) := T_inv _ _ (fun a ha => by
        have h5 := wrt_pcs (fun q => 3 * q) (fun q => q < 4) (fun p q _ _ e => by have e2 : 3 * p = 3 * q := e; omega) m 0 m (fun _ => 0) z (Nat.le_refl _) (fun q _ h2 => by show q < 4; omega) a (by show a / 64 < 4; omega)
        rw [h5]; simp)
      have II := hide I4
      have M4 := hide m4
      have K4 := hide (KK.out.trans k4 (by intro x hx hl; simp at hx; omega))
      clear m4 k4 MK KK I4
      go_wp2_with fail
      go_loopw [10] (fun i wr => ∃ (j : Nat) (to fr : Int → Option Int) (F : Nat → Nat) (f : Nat → UInt8), j ≤ lr ∧ j ≤ 40 ∧ i = .int .i64 j ∧ MemAt wr mm g c 2 8 16 f u bq bf (4 + j) 4 to fr ∧ Inv to fr F f (fun a => if a < m then z a else 0) ∧ Kept [] w wr) (fun i _ => 40 - (intOf i).toNat)
      case atStart => exact ⟨0, _, _, _, _, by omega, by omega, rfl, M4.out, II.out, K4.out⟩
      case round =>
        obtain ⟨j, to, fr, F, f, hj, hj40, rfl, hM, hI, hK⟩ := hrel
        have MJ := hide hM
        have IJ := hide hI
        have KJ := hide hK
        clear hM hI hK M4 II K4
        by_cases hjl : j < lr ∧ j < 40
        · obtain ⟨hjl, hj4⟩ := hjl
          obtain ⟨b0, off, har, hcell, _⟩ := HS.out j hjl
          subst har
          have hcr := KJ.out.cell hcell (by simp)
          clear hcell
          obtain ⟨p, hp, ep⟩ := mod_small (zs j) 4 (by decide) (by decide)
          obtain ⟨k, hk, ek⟩ := mod_small ((IntKind.u64.wrap (zs j)).tdiv 4) 16 (by decide) (by decide)
          have MD := hide (MJ.out.kept0 ((Kept.refl [] wr).drew))
          have KD := hide KJ.out.drew
          have TX : Hid (bt m (fun i => f (pos F (0 + i))) = bt m z) := hide (bt_congr (fun i hi => by rw [Nat.zero_add, IJ.out.by_ i (by omega)]; simp [hi]))
          cases hfk : fr (k : Int) with
          | some x =>
            have FK := hide hfk
            clear hfk
            go_wp2_with fail
            go_region
            all_goals
              go_wp2_with fail
              rw [ek]
              refine (page_any MD.out k (okN (by omega) (by omega)) x true (by rw [FK.out]; rfl) (by rw [FK.out]; rfl)).mono ?_
              rintro r w5 ⟨rfl, k5⟩
              have M5 := hide (MD.out.kept0 k5)
              have K5 := hide (KD.out.next k5)
              clear MD KD k5
              go_wp2_with fail
              refine (move_bad M5.out p k (by omega) (by omega) (by omega) (by omega) (by rw [FK.out]; rfl)).mono ?_
              rintro r w6 ⟨rfl, k6⟩
              have M6 := hide (M5.out.kept0 k6)
              have K6 := hide (K5.out.next k6)
              clear M5 K5 k6 hcr
              go_wp2_with fail
              refine (read_ok F M6.out 0 m (by omega) (by omega) (fun q _ h2 _ => IJ.out.to_ q (by omega)) (fun q _ h2 => IJ.out.lt_ q (by omega))).mono ?_
              rintro r w7 ⟨ao7, cap7, rfl, b7, -, k7⟩
              have M7 := hide (M6.out.kept0 k7)
              have K7 := hide (K6.out.next k7)
              have t1 := run_text (cap := cap7) Try.underlying23 Try.underlying5 Try.underlying9 b7
              have t2 := run_text (cap := cap) Try.underlying23 Try.underlying5 Try.underlying9 (HZ.out.1.kept0 K7.out)
              rw [TX.out] at t1
              obtain ⟨X, hX⟩ : ∃ X, X = bt m z := ⟨_, rfl⟩
              rw [← hX] at t1 t2
              clear hX b7 k7 M6 K6 ep ek hcut
              go_wp2
              go_roundw
              case rel => exact ⟨j + 1, _, _, _, _, by omega, by omega, by go_num, M7.out.widen (by omega), IJ.out, K7.out⟩
              case measure => simp [intOf]; omega
          | none =>
            have FK := hide hfk
            have hI2 := hide (IJ.out.move (p := p) (k := k) (by omega) (by omega) hfk)
            have HP := hide (And.intro (IJ.out.to_ p (by omega)) (IJ.out.lt_ p (by omega)))
            clear hfk TX
            go_wp2_with fail
            go_region
            all_goals
              go_wp2_with fail
              rw [ek]
              refine (page_any MD.out k (okN (by omega) (by omega)) 0 false (by rw [FK.out]; rfl) (by rw [FK.out]; rfl)).mono ?_
              rintro r w5 ⟨rfl, k5⟩
              have M5 := hide (MD.out.kept0 k5)
              have K5 := hide (KD.out.next k5)
              clear MD KD k5
              go_wp2_with fail
              refine (move_ok M5.out p k (F p) (by omega) (by omega) (by omega) HP.out.2 (by omega) (by omega) (by omega) HP.out.1 FK.out).mono ?_
              rintro r w6 ⟨rfl, m6, k6⟩
              have M6 := hide m6
              have K6 := hide (K5.out.trans k6 (by intro x hx hl; simp at hx; omega))
              have TX := hide (bt_congr (n := m) (fun i hi => (show Fr.movd f (F p) k (pos (fun q => if q = p then k else F q) (0 + i)) = z i by rw [Nat.zero_add, hI2.out.by_ i (by omega)]; simp [hi])))
              clear M5 K5 k6 hcr m6
              go_wp2_with fail
              refine (read_ok (fun q => if q = p then k else F q) M6.out 0 m (by omega) (by omega) (fun q _ h2 _ => hI2.out.to_ q (by omega)) (fun q _ h2 => hI2.out.lt_ q (by omega))).mono ?_
              rintro r w7 ⟨ao7, cap7, rfl, b7, -, k7⟩
              have M7 := hide (M6.out.kept0 k7)
              have K7 := hide (K6.out.next k7)
              have t1 := run_text (cap := cap7) Try.underlying23 Try.underlying5 Try.underlying9 b7
              have t2 := run_text (cap := cap) Try.underlying23 Try.underlying5 Try.underlying9 (HZ.out.1.kept0 K7.out)
              rw [TX.out] at t1
              obtain ⟨X, hX⟩ : ∃ X, X = bt m z := ⟨_, rfl⟩
              rw [← hX] at t1 t2
              clear hX b7 k7 M6 K6 ep ek hcut
              go_wp2
              go_roundw
              case rel => exact ⟨j + 1, _, _, _, _, by omega, by omega, by go_num, M7.out.widen (by omega), hI2.out, K7.out⟩
              case measure => simp [intOf]; omega
        · rcases (show (j < 40 ∧ lr ≤ j) ∨ (40 ≤ j ∧ j < lr) ∨ (40 ≤ j ∧ lr ≤ j) from by omega) with ⟨h40, hle⟩ | ⟨h40, hle⟩ | ⟨h40, hle⟩
          all_goals
            go_wp2_with fail
            refine (mapped_any MJ.out).mono ?_
            rintro r w5 ⟨rfl, hw5⟩
            subst w5
            go_wp2
            go_ret
            exact ⟨rfl, KJ.out⟩

theorem own : ownKnob Try.prog.godebug = none := by kernel_rfl
theorem laidOut : laidOutB Try.prog = true := by kernel_rfl

set_option maxRecDepth 100000 in
theorem lifted (os : Os) (started : os.Started) (H : Type) (enc : TypeId × Value → H) :
    ReturnsInHanded {} Try.checked os 9 .any (Rows.memoryMovesSpec.pre6 enc Try.prog Try.f9 Rows.memoryMovesRow.domain false) (Rows.memoryMovesSpec.post enc Try.prog Try.f9 false true false false) := by
  refine returnsInHanded_of_change (C := Try.checked) own started (by kernel_rfl) Try.func9
    (ChangeSpec.witness6 (enc := enc) (C := Try.checked) false ⟨#[], #[.slice none 0 0, .slice none 0 0], []⟩ 8 (by kernel_rfl) (by kernel_rfl) (by kernel_rfl) (by kernel_rfl)) ?_
  intro W base args ds gs before hval0 hW hcnd _
  have hval : ∀ (j : Nat) t v, Try.f9.params[j]? = some t → args[j]? = some v → Value.okWide Try.prog W .any base t v := hval0
  have hW' := hW
  obtain ⟨p, q, hA0, hV, rfl, hfz, hnd⟩ := hW
  have hA : DataW.TrodAll enc Try.prog W 0 (fun _ => true) true Try.f9.params.toList args.toList ds p := hA0
  have hK := hA
  rw [Try.params9] at hA hval
  obtain ⟨v0, vs0, d0, ds0, p0, q0, hargs, rfl, rfl, h0, r0⟩ := trodAll_cons hA
  obtain ⟨v1, vs1, d1, ds1, p1, q1, rfl, rfl, rfl, h1, r1⟩ := trodAll_cons r0
  obtain ⟨rfl, rfl, rfl⟩ := trodAll_nil r1
  obtain rfl : args = #[v0, v1] := by cases args; simp_all
  obtain ⟨rfl, rfl⟩ := trodVars_none hV
  obtain ⟨a0, len0, cap0, zs0, rfl, hl0, hm0, hn0, hT0⟩ := open_list Try.underlying23 Try.underlying5 (by kernel_rfl) (okWide_slice Try.underlying23 (hval 0 23 v0 rfl rfl)) h0
  obtain ⟨a1, len1, cap1, zs1, rfl, hl1, hm1, hn1, hT1⟩ := open_list Try.underlying49 Try.underlying3 (by kernel_rfl) (okWide_slice Try.underlying49 (hval 1 49 v1 rfl rfl)) h1
  clear hA0 hval0
  refine (walk a0 len0 cap0 _ a1 len1 cap1 zs1 W hl0 hm0 (Bs.of_ints hT0) (Nat.le_trans hl1 hm1) hT1).mono fun e W' ⟨he, hk⟩ => ?_
  subst he
  exact ⟨_, rfl, _, _, _, [], _, [], hW', trodAll_mk1 (shut_bool Try.underlying4 _), trodAll_below laidOut hk.below _ _ _ _ hK (by kernel_rfl), rfl, hk.below.frame _, fun h => by cases h⟩

theorem said : Rows.MemoryMovesSaid :=
  OpenClaim.holds_of_wide 9 Try.f9 rfl rfl rfl rfl rfl rfl rfl ⟨rfl, rfl, rfl, rfl, rfl⟩ rfl rfl rfl rfl rfl (by kernel_rfl) Try.func9 (by kernel_rfl)
    (of_decide_eq_true (by kernel_rfl)) (by unfold Func.isWrapper; first | (rw [if_pos (by decide +kernel)]; kernel_rfl) | (rw [if_neg (by decide +kernel)]; exact ⟨rfl, rfl⟩))
    (fun os started H enc _ => lifted os started H enc)
end Go.Proofs.Ytockkmoanbddpaa.moves
