/-
  TableTexts: for every list of texts and every list of numbers the law answers true, and its arguments read behind the call as before. No condition.
-/
import Derived.Test.YtockkmoanbddpaaTwoHolds
import Derived.Test.YtockkmoanbddpaaTwoSI
import Derived.Test.YtockkmoanbddpaaHeap3
import Derived.Deep.RegionHeld3
import Derived.Test.YtockkmoanbddpaaLift
namespace Go.Proofs.Ytockkmoanbddpaa.ttexts
open Go.ChangeShapes Go.WideShapes Go.ChangeAt Go.RowKit Tb

/-- Texts L have numbers below i, and no others have one. -/
structure Inv (to : ByteArray → Option Int) (fr : Int → Option ByteArray) (L : List ByteArray) (i : Nat) : Prop where
  has : ∀ s, s ∈ L → ∃ b : Nat, b < i ∧ to s = some (b : Int) ∧ fr b = some s
  no : ∀ s, s ∉ L → to s = none
  free : ∀ y : Nat, i ≤ y → fr y = none
  ok : ∀ s, s ∈ L → s.size ≤ maxLen
theorem Inv.put {to : ByteArray → Option Int} {fr : Int → Option ByteArray} {L : List ByteArray} {i : Nat} (h : Inv to fr L i) {s : ByteArray} (hs : s ∉ L) (hk : s.size ≤ maxLen) : Inv (mput to s i) (mput fr i s) (L ++ [s]) (i + 1) := by
  refine ⟨fun t ht => ?_, fun t ht => ?_, fun y hy => ?_, fun t ht => ?_⟩
  · by_cases e : t = s
    · subst e; exact ⟨i, by omega, mput_same _ _ _, mput_same _ _ _⟩
    · obtain ⟨b, hb, h1, h2⟩ := h.has t (by simpa [e] using ht)
      exact ⟨b, by omega, by rw [mput_other _ _ _ _ e]; exact h1, by rw [mput_other _ _ _ _ (by omega)]; exact h2⟩
  · have : t ∉ L ∧ t ≠ s := by simpa using ht
    rw [mput_other _ _ _ _ this.2]; exact h.no t this.1
  · rw [mput_other _ _ _ _ (by omega)]; exact h.free y (by omega)
  · rcases List.mem_append.1 ht with h1 | h1
    · exact h.ok t h1
    · have : t = s := by simpa using h1
      subst this; exact hk
theorem Inv.skip {to : ByteArray → Option Int} {fr : Int → Option ByteArray} {L : List ByteArray} {i : Nat} (h : Inv to fr L i) : Inv to fr L (i + 1) :=
  ⟨fun s hs => by obtain ⟨b, hb, h1⟩ := h.has s hs; exact ⟨b, by omega, h1⟩, h.no, fun y hy => h.free y (by omega), h.ok⟩
theorem inv0 : Inv (fun _ => none) (fun _ => none) [] 0 := ⟨fun s h => absurd h (by simp), fun _ _ => rfl, fun _ _ => rfl, fun s h => absurd h (by simp)⟩
/-- Is s among the first q? -/
def knB (L : List ByteArray) (s : ByteArray) : Nat → Bool
  | 0 => false
  | q + 1 => knB L s q || decide (L[q]? = some s)
theorem kn_no (L : List ByteArray) (s : ByteArray) (h : s ∉ L) : ∀ q, knB L s q = false
  | 0 => rfl
  | q + 1 => by
    simp only [knB, kn_no L s h q, Bool.false_or, decide_eq_false_iff_not]
    exact fun e => h (List.mem_of_getElem? e)
theorem kn_mono (L : List ByteArray) (s : ByteArray) (q : Nat) (h : knB L s q = true) : ∀ r, q ≤ r → knB L s r = true
  | 0, hr => by
    obtain rfl : q = 0 := by omega
    exact h
  | r + 1, hr => by
    by_cases e : q = r + 1
    · subst e; exact h
    · simp only [knB, kn_mono L s q h r (by omega), Bool.true_or]
theorem kn_yes (L : List ByteArray) (s : ByteArray) (h : s ∈ L) : knB L s L.length = true := by
  obtain ⟨i, hi, e⟩ := List.getElem_of_mem h
  refine kn_mono L s (i + 1) ?_ _ (by omega)
  simp only [knB, Bool.or_eq_true, decide_eq_true_eq]
  right; rw [List.getElem?_eq_getElem hi, e]
theorem kn_t {L : List ByteArray} {s : ByteArray} {q : Nat} (h : knB L s q = true) : knB L s (q + 1) = true := by simp [knB, h]
theorem kn_e {L : List ByteArray} {s : ByteArray} {q : Nat} (h : L[q]? = some s) : knB L s (q + 1) = true := by simp [knB, h]
theorem kn_n {L : List ByteArray} {s : ByteArray} {q : Nat} (h : knB L s q = false) (h2 : ¬ L[q]? = some s) : knB L s (q + 1) = false := by simp [knB, h, h2]
theorem own_ge {w : World} {base : Nat} {e : TypeId} {size : Nat} {v : Value} {n : Nat} {xs : List Value} (h : w.ownsRow base e size v n xs) : ∀ x, x ∈ v.ownBlock.toList → base ≤ x := by
  intro x hx
  have hx2 : v.ownBlock = some x := by simpa using hx
  rcases h.2 with ⟨rfl, _⟩ | ⟨g, cap, cur, rfl, hb, _⟩
  · cases hx2
  · cases hx2; exact hb
/-- The texts of a list that a call has made. -/
def Strs (w : World) (base : Nat) (v : Value) (L : List ByteArray) : Prop := w.ownsRow base 9 1 v L.length (L.map Value.string)
theorem Strs.at_ {w : World} {base : Nat} {v : Value} {L : List ByteArray} (h : Strs w base v L) : ∃ ao cap, v = .slice ao L.length cap ∧ L.length ≤ maxLen ∧ ∀ q s, L[q]? = some s → ∃ g, ao = some ⟨g, 0, none⟩ ∧ w.cell? ⟨g, q, none⟩ = some (.string s) := by
  obtain ⟨ao, cap, rfl, hm, hc⟩ := own_form h
  refine ⟨ao, cap, rfl, hm, fun q s hq => ?_⟩
  obtain ⟨g, h1, _, h2⟩ := hc q (.string s) (by simp [hq])
  exact ⟨g, h1, h2⟩
theorem back {K V : Type} [DecidableEq K] {m : K → Option V} {k : K} {v : V} (h : m k = some v) (x : K) : mput (mdel m k) k v x = m x := by
  by_cases e : x = k
  · subst e; rw [mput_same, h]
  · rw [mput_other _ _ _ _ e, mdel_other _ _ _ e]
theorem sinfo : (Try.prog.info? 9).map (fun i => (i.zero, i.size, i.bytes)) = some (some (.string ByteArray.empty), 1, 16) := by kernel_rfl

set_option maxRecDepth 20000 in
set_option maxHeartbeats 4000000 in
theorem walk (ao : Option Addr) (len cap : Nat) (ss : Nat → ByteArray) (ad : Option Addr) (ld cd : Nat) (zs : Nat → Int) (w : World) (hlen : len ≤ maxLen) (hT : IsTexts w ao len ss) (hld : ld ≤ maxLen) (hzs : IsInts .i64 w ad ld zs) :
    Calls Try.prog 6 #[.slice ao len cap, .slice ad ld cd] w fun e w' => e = .returned (.bool true) ∧ Kept [] w w' := by
  unfold maxLen at hlen hld
  have HT := hide hT
  have HS := hide hzs
  obtain ⟨i0, hi, hz0, hz1, hz2⟩ := info_parts sinfo
  clear hT hzs
  go_enter Try.func6, Try.ntmps6
  go_wp2_with fail
  refine (TSI.new_ok _).mono ?_
  rintro r w1 ⟨g, bt, bf, rfl, t1, hg, hbt, hbf, k1⟩
  have T1 := hide t1
  have K1 := hide k1
  clear t1 k1
  go_wp2_with fail
  refine (tables_true _).mono ?_
  rintro r w2 ⟨rfl, k2⟩
  have T2 := hide (T1.out.kept0 k2)
  have K2 := hide (K1.out.next k2)
  clear T1 K1 k2
  obtain ⟨B, hB⟩ : ∃ B, B = w2.heap.size := ⟨_, rfl⟩
  have hgB : g < B := by rw [hB]; exact lt_of_blk T2.out.obj
  have hbB : bt < B := by rw [hB]; exact T2.out.mt.lt
  have hfB : bf < B := by rw [hB]; exact T2.out.mf.lt
  have hwB : w.heap.size ≤ B := by rw [hB]; exact K2.out.size
  have HB := hide hB
  clear hB
  go_wp2_with fail
  go_loopw [6, 7, 8] (fun nn al i wr => ∃ (j : Nat) (L : List ByteArray) (to : ByteArray → Option Int) (fr : Int → Option ByteArray), j ≤ len ∧ j ≤ 20 ∧ i = .int .i64 j ∧ nn = .int .i64 L.length ∧ L.length ≤ j ∧ Strs wr B al L ∧ B ≤ wr.heap.size ∧ TSI.TwoAt wr g bt bf j L.length to fr ∧ Inv to fr L j ∧ Kept [] w wr) (fun _ _ i _ => 20 - (intOf i).toNat)
  case atStart => exact ⟨0, [], _, _, by omega, by omega, rfl, rfl, Nat.le_refl _, ⟨rfl, .inl ⟨rfl, rfl⟩⟩, by rw [HB.out]; exact Nat.le_refl _, T2.out, inv0, K2.out⟩
  case round =>
    obtain ⟨j, L, to, fr, hj, hj20, rfl, rfl, hLj, hL, hBw, hT, hI, hK⟩ := hrel
    obtain ⟨aL, cL, hal, hLm, hel0⟩ := hL.at_
    subst hal
    obtain ⟨n, hn⟩ : ∃ n, n = L.length := ⟨_, rfl⟩
    have LJ : Hid (Strs wr B (.slice aL n cL) L) := hide (by rw [hn]; exact hL)
    have TJ : Hid (TSI.TwoAt wr g bt bf j n to fr) := hide (by rw [hn]; exact hT)
    have IJ := hide hI
    have KJ := hide hK
    have HN := hide hn
    have hnj : n ≤ j := by omega
    simp only [← hn]
    clear hL hT hI hK T2 K2 hLm hel0 hn hLj
    by_cases hjl : j < len ∧ j < 20
    · obtain ⟨hjl, hj2⟩ := hjl
      obtain ⟨b0, off, hao, hcell, hsz⟩ := HT.out j hjl
      subst hao
      have hcr := KJ.out.cell hcell (by simp)
      obtain ⟨s, hs⟩ : ∃ s, s = ss j := ⟨_, rfl⟩
      rw [← hs] at hsz hcr
      have SZ := hide hsz
      have hcell0 : b0 < w.heap.size := World.block_lt_of_cell? w _ hcell
      clear hcell hs hsz
      by_cases hmem : s ∈ L
      · have hto : (to s).isSome = true := by
          obtain ⟨b, _, h1, _⟩ := IJ.out.has s hmem
          rw [h1]; rfl
        have HTo := hide hto
        have KY := hide (kn_yes L s hmem)
        clear hto hmem
        go_wp2_with fail
        refine (TSI.map_bad s j (okSS SZ.out) (okSI (by omega) (by omega)) TJ.out (Or.inl HTo.out)).mono ?_
        rintro r w3 ⟨rfl, k3⟩
        have L3 := hide (own_kept LJ.out k3 (by simp))
        have T3 := hide (TJ.out.kept0 k3)
        have K3 := hide (KJ.out.next k3)
        have B3 : B ≤ w3.heap.size := Nat.le_trans hBw k3.size
        have C3 := hide (k3.cell hcr (by simp))
        clear LJ TJ KJ k3 hcr
        go_wp2_with fail
        go_loopw [10, 11] (fun kn k wq => ∃ q : Nat, q ≤ n ∧ k = .int .i64 q ∧ kn = .bool (knB L s q) ∧ wq.cell? ⟨b0, off + j, none⟩ = some (.string s) ∧ Hid (Strs wq B (.slice aL n cL) L ∧ B ≤ wq.heap.size ∧ TSI.TwoAt wq g bt bf j n to fr ∧ Kept [] w wq)) (fun _ k _ => n - (intOf k).toNat)
        case atStart => exact ⟨0, by omega, rfl, rfl, C3.out, hide ⟨L3.out, B3, T3.out, K3.out⟩⟩
        case round =>
          obtain ⟨q, hq, rfl, rfl, hcq, RQ⟩ := hrel
          clear L3 T3 K3 C3
          by_cases hqn : q < n
          · have RD : Hid (∀ wx, wx = wr.drew → wx.cell? ⟨b0, off + j, none⟩ = some (.string s) ∧ Hid (Strs wx B (.slice aL n cL) L ∧ B ≤ wx.heap.size ∧ TSI.TwoAt wx g bt bf j n to fr ∧ Kept [] w wx)) := by
              refine hide ?_
              rintro _ rfl
              exact ⟨hcq, hide ⟨own_kept RQ.out.1 (Kept.refl [] _).drew (by simp), RQ.out.2.1, RQ.out.2.2.1.kept0 (Kept.refl [] _).drew, RQ.out.2.2.2.drew⟩⟩
            have RS : Hid (∀ wx, wx = wr → wx.cell? ⟨b0, off + j, none⟩ = some (.string s) ∧ Hid (Strs wx B (.slice aL n cL) L ∧ B ≤ wx.heap.size ∧ TSI.TwoAt wx g bt bf j n to fr ∧ Kept [] w wx)) := by
              refine hide ?_
              rintro _ rfl
              exact ⟨hcq, RQ⟩
            have hqL : q < L.length := by rw [← HN.out]; exact hqn
            obtain ⟨sq, hsq⟩ : ∃ sq, L[q]? = some sq := ⟨_, List.getElem?_eq_getElem hqL⟩
            obtain ⟨aX, cX, hX, _, hel⟩ := RQ.out.1.at_
            obtain ⟨gL, haL, hcL⟩ := hel q sq hsq
            have haL2 : aL = some ⟨gL, 0, none⟩ := by cases hX; exact haL
            subst haL2
            clear RQ hX hel haL hqL
            cases hkb : knB L s q with
            | true =>
              have E := hide (kn_t hkb)
              clear hkb hsq
              go_wp2_with fail
              go_big_region
              all_goals
                go_wp2
                go_roundw
                case rel => exact ⟨q + 1, by omega, by go_num, by rw [E.out], (by first | exact RD.out _ rfl | exact RS.out _ rfl)⟩
                case measure => simp [intOf]; omega
            | false =>
              by_cases he : sq = s
              · subst he
                have E := hide (kn_e hsq)
                clear hkb hsq
                go_wp2_with fail
                go_region
                all_goals
                  go_wp2
                  go_roundw
                  case rel => exact ⟨q + 1, by omega, by go_num, by rw [E.out], RD.out _ rfl⟩
                  case measure => simp [intOf]; omega
              · have E := hide (kn_n hkb (by rw [hsq]; simpa using he))
                have hne := ba_ne he
                clear hkb hsq he
                go_wp2_with fail
                go_region
                all_goals
                  go_wp2
                  go_roundw
                  case rel => exact ⟨q + 1, by omega, by go_num, by rw [E.out], RD.out _ rfl⟩
                  case measure => simp [intOf]; omega
          · obtain rfl : q = n := by omega
            have hkk : knB L s q = true := by rw [HN.out]; exact KY.out
            rw [hkk]
            clear hkk
            go_wp2
            go_roundw
            case rel => exact ⟨j + 1, L, to, fr, by omega, by omega, by go_num, by rw [HN.out], by rw [← HN.out]; omega, RQ.out.1, RQ.out.2.1, by rw [← HN.out]; exact RQ.out.2.2.1.mono (Nat.le_succ j), IJ.out.skip, RQ.out.2.2.2⟩
            case measure => simp [intOf]; omega
      · have KN := hide (kn_no L s hmem)
        have HTo := hide (IJ.out.no s hmem)
        have HFr := hide (IJ.out.free j (Nat.le_refl _))
        have IP := hide (IJ.out.put hmem SZ.out)
        clear hmem
        go_wp2_with fail
        refine (TSI.map_ok s j (okSS SZ.out) (okSI (by omega) (by omega)) TJ.out (by omega) (by omega) (by omega) (by rw [HTo.out]; rfl) (by rw [HFr.out]; rfl)).mono ?_
        rintro r w3 ⟨rfl, t3, k3⟩
        have L3 := hide (own_kept LJ.out k3 (by intro x hx; simp at hx; omega))
        have T3 := hide t3
        have K3 := hide (KJ.out.trans k3 (by intro x hx hl; simp at hx; omega))
        have B3 : B ≤ w3.heap.size := Nat.le_trans hBw k3.size
        have C3 : Hid (w3.cell? ⟨b0, off + j, none⟩ = some (.string s)) := hide (k3.cell hcr (by simp; omega))
        clear LJ TJ KJ k3 hcr t3
        go_wp2_with fail
        go_loopw [10, 11] (fun kn k wq => ∃ q : Nat, q ≤ n ∧ k = .int .i64 q ∧ kn = .bool (knB L s q) ∧ wq.cell? ⟨b0, off + j, none⟩ = some (.string s) ∧ Hid (Strs wq B (.slice aL n cL) L ∧ B ≤ wq.heap.size ∧ TSI.TwoAt wq g bt bf (j + 1) (n + 1) (mput to s j) (mput fr j s) ∧ Kept [] w wq)) (fun _ k _ => n - (intOf k).toNat)
        case atStart => exact ⟨0, by omega, rfl, rfl, C3.out, hide ⟨L3.out, B3, T3.out, K3.out⟩⟩
        case round =>
          obtain ⟨q, hq, rfl, rfl, hcq, RQ⟩ := hrel
          clear L3 T3 K3 C3
          by_cases hqn : q < n
          · have RD : Hid (∀ wx, wx = wr.drew → wx.cell? ⟨b0, off + j, none⟩ = some (.string s) ∧ Hid (Strs wx B (.slice aL n cL) L ∧ B ≤ wx.heap.size ∧ TSI.TwoAt wx g bt bf (j + 1) (n + 1) (mput to s j) (mput fr j s) ∧ Kept [] w wx)) := by
              refine hide ?_
              rintro _ rfl
              exact ⟨hcq, hide ⟨own_kept RQ.out.1 (Kept.refl [] _).drew (by simp), RQ.out.2.1, RQ.out.2.2.1.kept0 (Kept.refl [] _).drew, RQ.out.2.2.2.drew⟩⟩
            have RS : Hid (∀ wx, wx = wr → wx.cell? ⟨b0, off + j, none⟩ = some (.string s) ∧ Hid (Strs wx B (.slice aL n cL) L ∧ B ≤ wx.heap.size ∧ TSI.TwoAt wx g bt bf (j + 1) (n + 1) (mput to s j) (mput fr j s) ∧ Kept [] w wx)) := by
              refine hide ?_
              rintro _ rfl
              exact ⟨hcq, RQ⟩
            have hqL : q < L.length := by rw [← HN.out]; exact hqn
            obtain ⟨sq, hsq⟩ : ∃ sq, L[q]? = some sq := ⟨_, List.getElem?_eq_getElem hqL⟩
            obtain ⟨aX, cX, hX, _, hel⟩ := RQ.out.1.at_
            obtain ⟨gL, haL, hcL⟩ := hel q sq hsq
            have haL2 : aL = some ⟨gL, 0, none⟩ := by cases hX; exact haL
            subst haL2
            clear RQ hX hel haL hqL
            cases hkb : knB L s q with
            | true =>
              have E := hide (kn_t hkb)
              clear hkb hsq
              go_wp2_with fail
              go_big_region
              all_goals
                go_wp2
                go_roundw
                case rel => exact ⟨q + 1, by omega, by go_num, by rw [E.out], (by first | exact RD.out _ rfl | exact RS.out _ rfl)⟩
                case measure => simp [intOf]; omega
            | false =>
              by_cases he : sq = s
              · subst he
                have E := hide (kn_e hsq)
                clear hkb hsq
                go_wp2_with fail
                go_region
                all_goals
                  go_wp2
                  go_roundw
                  case rel => exact ⟨q + 1, by omega, by go_num, by rw [E.out], RD.out _ rfl⟩
                  case measure => simp [intOf]; omega
              · have E := hide (kn_n hkb (by rw [hsq]; simpa using he))
                have hne := ba_ne he
                clear hkb hsq he
                go_wp2_with fail
                go_region
                all_goals
                  go_wp2
                  go_roundw
                  case rel => exact ⟨q + 1, by omega, by go_num, by rw [E.out], RD.out _ rfl⟩
                  case measure => simp [intOf]; omega
          · obtain rfl : q = n := by omega
            rw [KN.out q]
            go_wp2_with (at_builtin; refine wpList_append_own _ rfl _ _ 48 rfl B 9 i0 (.string ByteArray.empty) 1 16 Try.underlying48 hi hz0 hz1 hz2 rfl (by decide) _ q (L.map Value.string) rfl ?own ⟨wr.heap.size, 0, none⟩ 1 1 [.string s] rfl rfl ?c1 ?c2 ?c3 ?c4 ?c5 ?_)
            case own => exact own_kept (by have := RQ.out.1; unfold Strs at this; rw [← HN.out] at this; exact this) ((Kept.refl [] wr).alloc _) (by simp)
            case c1 => exact news_one
            case c2 => intro x hx; simp at hx; subst hx; rfl
            case c3 => unfold maxLen; omega
            case c4 => omega
            case c5 => simp; have := RQ.out.2.1; omega
            intro v' w4 hown hgrow _
            have hown0 : (wr.alloc (.cells #[.string s] 9)).ownsRow B 9 1 (.slice aL q cL) q (L.map Value.string) := own_kept (by have := RQ.out.1; unfold Strs at this; rw [← HN.out] at this; exact this) ((Kept.refl [] wr).alloc _) (by simp)
            have hk4 : Kept (Value.slice aL q cL).ownBlock.toList (wr.alloc (.cells #[.string s] 9)) w4 := Kept.of_grownBy hgrow (fun k hk _ => by rw [hk]; simp)
            have hge := own_ge hown0
            have t4 : TSI.TwoAt w4 g bt bf (j + 1) (q + 1) (mput to s j) (mput fr j s) := (RQ.out.2.2.1.kept0 ((Kept.refl [] wr).alloc _)).kept hk4 (fun h => by have := hge _ h; omega) (fun h => by have := hge _ h; omega) (fun h => by have := hge _ h; omega)
            have k4 : Kept [] w w4 := own_grown hown0 hgrow w (RQ.out.2.2.2.alloc _) hwB
            have s4 : Strs w4 B v' (L ++ [s]) := by
              unfold Strs
              rw [List.length_append, List.map_append, ← HN.out]; exact hown
            have b4 : B ≤ w4.heap.size := Nat.le_trans (Nat.le_trans RQ.out.2.1 (by simp)) hgrow.size
            have R4 := hide (And.intro s4 (And.intro b4 (And.intro t4 k4)))
            clear hown hgrow hown0 hk4 hge t4 k4 s4 b4 RQ
            go_wp2
            go_roundw
            case rel => exact ⟨j + 1, L ++ [s], _, _, by omega, by omega, by go_num, by rw [List.length_append, ← HN.out]; go_num, by rw [List.length_append, ← HN.out]; simp; omega, R4.out.1, R4.out.2.1, by rw [List.length_append, ← HN.out]; exact R4.out.2.2.1, IP.out, R4.out.2.2.2⟩
            case measure => simp [intOf]; omega
    · rcases (show (j < 20 ∧ len ≤ j) ∨ (20 ≤ j ∧ j < len) ∨ (20 ≤ j ∧ len ≤ j) from by omega) with ⟨h40, hle⟩ | ⟨h40, hle⟩ | ⟨h40, hle⟩
      all_goals
        go_wp2_with fail
        go_loopw [12] (fun i wq => ∃ d : Nat, d ≤ ld ∧ d ≤ 10 ∧ i = .int .i64 d ∧ Hid (Strs wq B (.slice aL n cL) L ∧ TSI.TwoAt wq g bt bf (j + d) n to fr ∧ Kept [] w wq)) (fun i _ => 10 - (intOf i).toNat)
        case atStart => exact ⟨0, by omega, by omega, rfl, hide ⟨LJ.out, TJ.out, KJ.out⟩⟩
        case round =>
          obtain ⟨d, hd, hd10, rfl, RQ⟩ := hrel
          clear LJ TJ KJ
          rcases (show (d < ld ∧ d < 10 ∧ 0 < n) ∨ (d < ld ∧ d < 10 ∧ n = 0) ∨ (d < ld ∧ 10 ≤ d) ∨ (ld ≤ d) by omega) with ⟨h1, h2, h3⟩ | ⟨h1, h2, h3⟩ | ⟨h1, h2⟩ | h1
          · obtain ⟨b1, o1, had, hcell, _⟩ := HS.out d h1
            subst had
            have hcr := RQ.out.2.2.cell hcell (by simp)
            obtain ⟨k, hk, ek⟩ := mod_small (zs d) n (by omega) (by omega)
            have hkL : k < L.length := by rw [← HN.out]; omega
            obtain ⟨sk, hsk⟩ : ∃ sk, L[k]? = some sk := ⟨_, List.getElem?_eq_getElem hkL⟩
            obtain ⟨aX, cX, hX, _, hel⟩ := RQ.out.1.at_
            obtain ⟨gL, haL, hcL⟩ := hel k sk hsk
            have haL2 : aL = some ⟨gL, 0, none⟩ := by cases hX; exact haL
            subst haL2
            have hmem : sk ∈ L := List.mem_of_getElem? hsk
            obtain ⟨b, hb, e1, e2⟩ := IJ.out.has sk hmem
            have E1 := hide e1
            have E2 := hide e2
            have SZ := hide (IJ.out.ok sk hmem)
            clear hX hel haL hkL hsk hmem e1 e2 hcell
            have D1 : Hid ((mdel to sk sk).isSome = false) := hide (by rw [mdel_same]; rfl)
            have D2 : Hid ((mdel fr b b).isSome = false) := hide (by rw [mdel_same]; rfl)
            have hgL : B ≤ gL := own_ge RQ.out.1 gL (by simp [Value.ownBlock])
            have G1 : Hid (∀ x, mput (mdel to sk) sk (b : Int) x = to x) := hide (back E1.out)
            have G2 : Hid (∀ y, mput (mdel fr b) b sk y = fr y) := hide (back E2.out)
            go_wp2_with fail
            refine (TSI.unmap_ok sk b (okSS SZ.out) (okSI (by omega) (by omega)) RQ.out.2.1 (by omega) (by omega) E1.out).mono ?_
            rintro r w5 ⟨rfl, t5, k5⟩
            have c5 := k5.cell hcL (by simp; omega)
            have S5 := hide (own_kept RQ.out.1 k5 (by intro x hx; simp at hx; omega))
            have T5 := hide t5
            have K5 := hide (RQ.out.2.2.trans k5 (by intro x hx hl; simp at hx; omega))
            clear t5 k5 RQ hcL hcr
            go_wp2_with fail
            refine (TSI.map_ok sk b (okSS SZ.out) (okSI (by omega) (by omega)) T5.out (by omega) (by omega) (by omega) D1.out D2.out).mono ?_
            rintro r w6 ⟨rfl, t6, k6⟩
            have c6 := k6.cell c5 (by simp; omega)
            have S6 := hide (own_kept S5.out k6 (by intro x hx; simp at hx; omega))
            rw [show (n : Int) - 1 + 1 = n by omega] at t6
            have T6 := hide (t6.congr (fun x _ => G1.out x) (fun y _ => G2.out y))
            have K6 := hide (K5.out.trans k6 (by intro x hx hl; simp at hx; omega))
            clear t6 k6 S5 T5 K5 c5 D1 D2 G1 G2 E1
            go_wp2_with fail
            refine (TSI.len_any T6.out).mono ?_
            rintro r w7 ⟨rfl, hw7⟩
            subst w7
            go_wp2_with fail
            refine (TSI.from_any b (okSI (by omega) (by omega)) T6.out sk true (by rw [E2.out]; rfl) (by rw [E2.out]; rfl)).mono ?_
            rintro r w7 ⟨rfl, k7⟩
            have c7 := k7.cell c6 (by simp)
            have R7 : Hid (Strs w7 B (.slice (some ⟨gL, 0, none⟩) n cL) L ∧ TSI.TwoAt w7 g bt bf (j + (d + 1)) n to fr ∧ Kept [] w w7) := hide ⟨own_kept S6.out k7 (by simp), T6.out.kept0 k7, K6.out.next k7⟩
            clear k7 S6 T6 K6 c6 E2
            go_wp2
            go_roundw
            case rel => exact ⟨d + 1, by omega, by omega, by go_num, R7⟩
            case measure => simp [intOf]; omega
          all_goals
            go_wp2_with fail
            refine (TSI.len_any RQ.out.2.1).mono ?_
            rintro r w7 ⟨rfl, hw7⟩
            subst w7
            go_wp2
            go_ret
            exact ⟨by simp, RQ.out.2.2⟩

theorem own : ownKnob Try.prog.godebug = none := by kernel_rfl
theorem laidOut : laidOutB Try.prog = true := by kernel_rfl

set_option maxRecDepth 100000 in
theorem lifted (os : Os) (started : os.Started) (H : Type) (enc : TypeId × Value → H) :
    ReturnsInHanded {} Try.checked os 6 .any (Rows.tableTextsSpec.pre6 enc Try.prog Try.f6 Rows.tableTextsRow.domain false) (Rows.tableTextsSpec.post enc Try.prog Try.f6 false true false false) := by
  refine returnsInHanded_of_change (C := Try.checked) own started (by kernel_rfl) Try.func6
    (ChangeSpec.witness6 (enc := enc) (C := Try.checked) false ⟨#[], #[.slice none 0 0, .slice none 0 0], []⟩ 8 (by kernel_rfl) (by kernel_rfl) (by kernel_rfl) (by kernel_rfl)) ?_
  intro W base args ds gs before hval0 hW hcnd _
  have hval : ∀ (j : Nat) t v, Try.f6.params[j]? = some t → args[j]? = some v → Value.okWide Try.prog W .any base t v := hval0
  have hW' := hW
  obtain ⟨p, q, hA0, hV, rfl, hfz, hnd⟩ := hW
  have hA : DataW.TrodAll enc Try.prog W 0 (fun _ => true) true Try.f6.params.toList args.toList ds p := hA0
  have hK := hA
  rw [Try.params6] at hA hval
  obtain ⟨v0, vs0, d0, ds0, p0, q0, hargs, rfl, rfl, h0, r0⟩ := trodAll_cons hA
  obtain ⟨v1, vs1, d1, ds1, p1, q1, rfl, rfl, rfl, h1, r1⟩ := trodAll_cons r0
  obtain ⟨rfl, rfl, rfl⟩ := trodAll_nil r1
  obtain rfl : args = #[v0, v1] := by cases args; simp_all
  obtain ⟨rfl, rfl⟩ := trodVars_none hV
  obtain ⟨a0, len0, cap0, ss, rfl, hlen, hTx⟩ := open_texts Try.underlying48 Try.underlying9 (by kernel_rfl) (okWide_slice Try.underlying48 (hval 0 48 v0 rfl rfl)) h0
  obtain ⟨a1, len1, cap1, zs1, rfl, hl1, hm1, hn1, hT1⟩ := open_list Try.underlying49 Try.underlying3 (by kernel_rfl) (okWide_slice Try.underlying49 (hval 1 49 v1 rfl rfl)) h1
  clear hA0 hval0
  refine (walk a0 len0 cap0 ss a1 len1 cap1 zs1 W hlen hTx (Nat.le_trans hl1 hm1) hT1).mono fun e W' ⟨he, hk⟩ => ?_
  subst he
  exact ⟨_, rfl, _, _, _, [], _, [], hW', trodAll_mk1 (shut_bool Try.underlying4 _), trodAll_below laidOut hk.below _ _ _ _ hK (by kernel_rfl), rfl, hk.below.frame _, fun h => by cases h⟩

theorem said : Rows.TableTextsSaid :=
  OpenClaim.holds_of_wide 6 Try.f6 rfl rfl rfl rfl rfl rfl rfl ⟨rfl, rfl, rfl, rfl, rfl⟩ rfl rfl rfl rfl rfl (by kernel_rfl) Try.func6 (by kernel_rfl)
    (of_decide_eq_true (by kernel_rfl)) (by unfold Func.isWrapper; first | (rw [if_pos (by decide +kernel)]; kernel_rfl) | (rw [if_neg (by decide +kernel)]; exact ⟨rfl, rfl⟩))
    (fun os started H enc _ => lifted os started H enc)
end Go.Proofs.Ytockkmoanbddpaa.ttexts
