/-
  MemoryParts answers true at every list of places, number and row of bytes: bytes that are written at once are read one by one, and written one by one, and read at once, over pages that stand on frames in any order; no condition.
-/
import Derived.Test.YtdgmfcnblaamcabParts
import Derived.Test.YtdgmfcnblaamcabRows
import Derived.OwnWalk
import Derived.BigRegion
import Derived.BigQuiet
import Derived.Deep.RegionHeld3
import Derived.Deep.RegionHeld
namespace Go.Proofs.Ytdgmfcnblaamcab.LP
open Go.ChangeShapes Go.WideShapes Go.ChangeAt Go.RowKit Me
/-- A memory of eight pages, all of them mapped: byte x is β x. -/
def PV (W w : World) (m c : Nat) (β : Nat → UInt8) : Prop := ∃ (g u bt bf : Nat) (F : Nat → Nat) (to fr : Int → Option Int) (f : Nat → UInt8), MemAt w m g c 1 8 8 f u bt bf 8 8 to fr ∧ (∀ q : Nat, q < 8 → to q = some (F q : Int)) ∧
  (∀ q q', q < 8 → q' < 8 → F q = F q' → q = q') ∧ (∀ q, q < 8 → F q < 8) ∧ (∀ x, x < 512 → f (pos F x) = β x) ∧ Kept [] W w ∧ W.heap.size ≤ c
theorem PM.all {W w : World} {m g c u bt bf : Nat} {F : Nat → Nat} {l : List Nat} (h : PM W w m g c u bt bf 8 F l) : PV W w m c (fun _ => 0) := by
  obtain ⟨to, fr, h1, h2, -⟩ := h.mem
  exact ⟨g, u, bt, bf, F, to, fr, _, h1, h2, h.inj, fun q hq => (h.lt q hq).1, fun _ _ => rfl, h.kept, h.new.1⟩
section
variable {W w w' : World} {m c : Nat} {β : Nat → UInt8}
theorem PV.next (h : PV W w m c β) (k : Kept [] w w') : PV W w' m c β := by
  obtain ⟨g, u, bt, bf, F, to, fr, f, h1, h2, h3, h4, h5, h6, h7⟩ := h
  exact ⟨g, u, bt, bf, F, to, fr, f, h1.kept0 k, h2, h3, h4, h5, h6.next k, h7⟩
theorem PV.kept (h : PV W w m c β) : Kept [] W w := by
  obtain ⟨g, u, bt, bf, F, to, fr, f, h1, h2, h3, h4, h5, h6, h7⟩ := h
  exact h6
theorem PV.ge (h : PV W w m c β) : W.heap.size ≤ c := by
  obtain ⟨g, u, bt, bf, F, to, fr, f, h1, h2, h3, h4, h5, h6, h7⟩ := h
  exact h7
theorem PV.lt (h : PV W w m c β) : c < w.heap.size := by
  obtain ⟨g, u, bt, bf, F, to, fr, f, h1, -⟩ := h
  obtain ⟨d, hd⟩ := h1.row_obj
  exact (Array.getElem?_eq_some_iff.1 hd).1
theorem PV.congr {γ : Nat → UInt8} (h : PV W w m c β) (e : ∀ x, x < 512 → β x = γ x) : PV W w m c γ := by
  obtain ⟨g, u, bt, bf, F, to, fr, f, h1, h2, h3, h4, h5, h6, h7⟩ := h
  exact ⟨g, u, bt, bf, F, to, fr, f, h1, h2, h3, h4, fun x hx => (h5 x hx).trans (e x hx), h6, h7⟩
theorem PV.write (h : PV W w m c β) {addr n cap : Nat} {ao : Option Addr} {z : Nat → UInt8} (hn : n ≤ cap) (hb : addr + n ≤ 512) (hz : Bs w ao n z) (hzc : ∀ a, ao = some a → 0 < n → a.block ≠ c) :
    Calls Try.prog 8 #[.pointer (some ⟨m, 0, none⟩), .int .i64 addr, .slice ao n cap] w fun e w' => e = .returned (.int .i64 0) ∧ PV W w' m c (fun x => if addr ≤ x ∧ x < addr + n then z (x - addr) else β x) ∧ Kept [c] w w' := by
  obtain ⟨g, u, bt, bf, F, to, fr, f, h1, h2, h3, h4, h5, h6, h7⟩ := h
  refine (write_ok F h1 addr n cap ao (by omega) (by omega) hn hz hzc (fun q h1 h2' h3' => h2 q (by omega)) (fun q h1 h2' => h4 q (by omega))).mono ?_
  rintro e w' ⟨rfl, hm, hk⟩
  refine ⟨rfl, ⟨g, u, bt, bf, F, to, fr, _, hm, h2, h3, h4, fun x hx => ?_, h6.trans hk (fun y hy hl => by have := List.mem_singleton.1 hy; omega), h7⟩, hk⟩
  rw [wrt_pcs F (fun q => q < 8) (fun p q hp hq => h3 p q hp hq) n addr n f z (Nat.le_refl _) (fun p hp hp2 => by omega) x (by omega)]
  show _ = if addr ≤ x ∧ x < addr + n then z (x - addr) else β x
  by_cases e : addr ≤ x ∧ x < addr + n
  · rw [if_pos e, if_pos e]
  · rw [if_neg e, if_neg e]; exact h5 x hx
theorem PV.read (h : PV W w m c β) {addr n : Nat} (hb : addr + n ≤ 512) :
    Calls Try.prog 9 #[.pointer (some ⟨m, 0, none⟩), .int .i64 addr, .int .i64 n] w fun e w' => ∃ ao cap, e = .returned (.tuple #[.slice ao n cap, .int .i64 0]) ∧ Bs w' ao n (fun i => β (addr + i)) ∧ Kept [] w w' ∧ w'.ownsRow w.heap.size 5 1 (.slice ao n cap) n (bvs n (fun i => β (addr + i))) := by
  obtain ⟨g, u, bt, bf, F, to, fr, f, h1, h2, h3, h4, h5, h6, h7⟩ := h
  refine (read_own F h1 addr n (by omega) (by omega) (fun q h1 h2' h3' => h2 q (by omega)) (fun q h1 h2' => h4 q (by omega))).mono ?_
  rintro e w' ⟨ao, cap, rfl, hB, -, hk, ho⟩
  have e1 : bvs n (fun i => f (pos F (addr + i))) = bvs n (fun i => β (addr + i)) := by
    unfold bvs
    refine List.map_congr_left (fun i hi => ?_)
    have := List.mem_range.1 hi
    show bv (f (pos F (addr + i))) = bv (β (addr + i))
    rw [h5 (addr + i) (by omega)]
  exact ⟨ao, cap, rfl, hB.congr (fun i hi => h5 (addr + i) (by omega)), hk, by rw [← e1]; exact ho⟩
end
theorem xor_fin : ∀ n : Fin 256, bits BinOp.xor .u8 ((n.val : Nat) : Int) 1 = ((UInt8.ofNat n.val ^^^ 1).toNat : Int) := by decide +kernel
theorem xor_one (b : UInt8) : bits BinOp.xor .u8 (b.toNat : Int) 1 = ((b ^^^ 1).toNat : Int) := by
  have h := xor_fin ⟨b.toNat, b.toNat_lt⟩
  simpa using h
theorem xor_twice (b : UInt8) : b ^^^ 1 ^^^ 1 = b := by
  rw [UInt8.xor_assoc, show (1 : UInt8) ^^^ 1 = 0 from by decide, UInt8.xor_zero]
set_option maxRecDepth 20000 in
set_option maxHeartbeats 8000000 in
theorem walk (x : Int) {ao : Option Addr} {len cap : Nat} {zo : Nat → Int} {ab : Option Addr} {lb cb : Nat} {zb : Nat → UInt8} {w : World} (_hl : len ≤ maxLen) (hO : IsInts .i64 w ao len zo) (hlb : lb ≤ cb) (_hcb : cb ≤ maxLen) (hB : Bs w ab lb zb) :
    Calls Try.prog 3 #[.slice ao len cap, .int .i64 x, .slice ab lb cb] w fun e w' => e = .returned (.bool true) ∧ Kept [] w w' := by
  unfold maxLen at _hl
  obtain ⟨i3, I3, Z3, S3, B3⟩ := By.info_int'
  have I := hide I3
  have Z := hide Z3
  have SZ := hide S3
  have B := hide B3
  obtain ⟨nb, hnb⟩ : ∃ m : Nat, m = min lb 400 := ⟨_, rfl⟩
  have hcut := run_cut0 Try.underlying23 Fr.info ab lb cb .i64 (j := min (lb : Int) 400) nb (by omega) (by omega)
  have hnb4 : nb ≤ 400 := by omega
  have hnbc : nb ≤ cb := by omega
  have HB := hide (hB.take (show nb ≤ lb by omega))
  have HBC := hide (show ∀ a, ab = some a → 0 < nb → a.block < w.heap.size from by
    rintro a rfl h0
    obtain ⟨b, off, hx, hc⟩ := hB 0 (by omega)
    cases hx
    exact World.block_lt_of_cell? w _ hc)
  have HO := hide hO
  obtain ⟨ad, had, hadE⟩ := mod_small x (512 - nb : Nat) (by omega) (by omega)
  have HAD := hide (show wrap64 ((IntKind.u64.wrap x).tmod (512 - (nb : Int))) = ad from by rw [show (512 - (nb : Int)) = ((512 - nb : Nat) : Int) from by clear hadE; omega]; exact hadE)
  have had9 : ad + nb < 512 := by omega
  clear hO hB hnb I3 Z3 S3 B3 hadE
  go_enter Try.func3, Try.ntmps3
  go_wp2_with fail
  refine (Fr.new_ok 1 8 (by decide) (by decide) (by decide) (by decide) 8 rfl).mono ?_
  rintro r w1 ⟨g, c, rfl, s1, hg, hc, k1⟩
  have S1 := hide s1
  have K1 := hide k1
  have HC1 := hide hc
  clear s1 k1 hg hc
  go_wp2_with fail
  refine (new_ok S1.out).mono ?_
  rintro r w2 ⟨mm, u, bq, bf, rfl, m2, hmm, hu, hbt, hbf, k2⟩
  have M2 := hide m2
  have K2 := hide (K1.out.next k2)
  have N2 := hide (show w.heap.size ≤ c ∧ w.heap.size ≤ u ∧ w.heap.size ≤ bq ∧ w.heap.size ≤ bf from by
    have := K1.out.size
    have := HC1.out
    exact ⟨by omega, by omega, by omega, by omega⟩)
  clear m2 k2 S1 K1 hmm hu hbt hbf HC1
  go_wp2_with fail
  refine (moves_true _).mono ?_
  rintro r w3 ⟨rfl, k3⟩
  have P3 := hide (show PM w w3 mm g c u bq bf 0 (fun _ => 0) [0, 1, 2, 3, 4, 5, 6, 7] from
    ⟨⟨_, _, M2.out.kept0 k3, fun q hq => absurd hq (Nat.not_lt_zero _), fun q _ => rfl, fun y _ => rfl⟩, fun q q' hq => absurd hq (Nat.not_lt_zero _), fun q hq => absurd hq (Nat.not_lt_zero _), by decide, by decide, rfl, K2.out.next k3, N2.out⟩)
  clear k3 M2 K2 N2
  go_wp2_with fail
  have L3 := hide (show PL w (w3.alloc (.cells #[.int .i64 0, .int .i64 1, .int .i64 2, .int .i64 3, .int .i64 4, .int .i64 5, .int .i64 6, .int .i64 7] 3)) u bq bf [0, 1, 2, 3, 4, 5, 6, 7] (.slice (some ⟨w3.heap.size, 0, none⟩) 8 8) from by
    obtain ⟨z1, z2, z3⟩ := P3.out.lts
    refine ⟨own_base (World.ownsRow_lit (e := 3) (size := 1) w3 #[.int .i64 0, .int .i64 1, .int .i64 2, .int .i64 3, .int .i64 4, .int .i64 5, .int .i64 6, .int .i64 7] 8 (Nat.le_refl _) (by decide) rfl) P3.out.kept.size, fun e => ?_, fun e => ?_, fun e => ?_⟩
    · have e9 : w3.heap.size = _ := Option.some.inj e
      omega
    · have e9 : w3.heap.size = _ := Option.some.inj e
      omega
    · have e9 : w3.heap.size = _ := Option.some.inj e
      omega)
  have P4 := hide (P3.out.next ((Kept.refl [] w3).alloc (.cells #[.int .i64 0, .int .i64 1, .int .i64 2, .int .i64 3, .int .i64 4, .int .i64 5, .int .i64 6, .int .i64 7] 3)))
  clear P3
  generalize w3.alloc (.cells #[.int .i64 0, .int .i64 1, .int .i64 2, .int .i64 3, .int .i64 4, .int .i64 5, .int .i64 6, .int .i64 7] 3) = w4 at L3 P4 ⊢
  generalize Value.slice (some ⟨w3.heap.size, 0, none⟩) 8 8 = v4 at L3 ⊢
  go_loopw [11, 12] (fun lv v wr => ∃ (p : Nat) (F : Nat → Nat) (l : List Nat), p ≤ 8 ∧ v = .int .i64 p ∧ PM w wr mm g c u bq bf p F l ∧ PL w wr u bq bf l lv) (fun _ v _ => 8 - (intOf v).toNat)
  case atStart => exact ⟨0, _, _, by omega, rfl, P4.out, L3.out⟩
  case round =>
    clear L3 P4
    obtain ⟨p, F, l, hp, rfl, hP, hL⟩ := hrel
    have PP := hide hP
    have LL := hide hL
    have hlp := hP.len
    clear hP hL
    by_cases hp8 : p < 8
    · have hpi : (p : Int) < 8 := by omega
      have hlen : 0 < l.length := by omega
      obtain ⟨gl, cap9, hu, -, -⟩ := World.ownsRow.form LL.out.own hlen
      subst hu
      obtain ⟨hc1, hc2⟩ := By.own_cap LL.out.own
      unfold maxLen at hc2
      have hli : (0 : Int) < (l.length : Int) := by omega
      have hk2 : ∃ k : Nat, k < l.length ∧ Hid ((p : Int) < len → wrap64 ((IntKind.u64.wrap (zo p)).tmod l.length) = k) ∧ (¬ (p : Int) < len → k = 0) := by
        by_cases h : (p : Int) < len
        · obtain ⟨k, h1, h2⟩ := mod_small (zo p) l.length (by omega) (by omega)
          exact ⟨k, by clear h2; omega, fun _ => h2, fun h3 => absurd h h3⟩
        · exact ⟨0, hlen, fun h3 => absurd h3 h, fun _ => rfl⟩
      obtain ⟨q, hq, HQE, hq0⟩ := hk2
      obtain ⟨y, hy⟩ : ∃ y, l.getD q 0 = y := ⟨_, rfl⟩
      have hcell := By.own_cell LL.out.own hq
      rw [hy] at hcell
      have HYE := hide hy
      have hd4 := (By.drop_one PP.out.nd hq).2.2.2
      have hq1 : (0 : Int) ≤ (q : Int) := by omega
      have hq3 : (q : Int) < (l.length : Int) := by omega
      have hl40 : l.length ≤ 8 := by omega
      clear hy
      have hwk : IntKind.i64.wrap ((q : Int) + 1) = (q : Int) + 1 := by rw [IntKind.wrap_i64]; omega
      have hs1 : ∀ wq, (Instr.slice 22 (.slice (some ⟨gl, 0, none⟩) l.length cap9) none (some (.int .i64 (q : Int))) none).run Try.prog wq = .ok (.slice (some ⟨gl, 0, none⟩) q cap9) wq := fun wq => By.run_cutS0 Try.underlying22 By.info_int _ _ _ _ q rfl (by omega) wq
      obtain ⟨ad9, had1, hadE⟩ := By.cut_at1 gl cap9 (q + 1)
      have hs2 : ∀ wq, (Instr.slice 22 (.slice (some ⟨gl, 0, none⟩) l.length cap9) (some (.int .i64 ((q : Int) + 1))) none none).run Try.prog wq = .ok (.slice (some ad9) (l.length - (q + 1)) (cap9 - (q + 1))) wq := fun wq => by
        rw [← had1]; exact By.run_cutS Try.underlying22 By.info_int _ _ _ _ (q + 1) (by omega) (by omega) wq
      have HA9 := hide hadE
      clear had1 hadE
      by_cases hi2 : (p : Int) < len
      · obtain ⟨bo, oo, rfl, hco, -⟩ := (HO.out.kept PP.out.kept) p (by omega)
        have hkk := HQE.out hi2
        clear HQE hq0
        go_wp2_with fail
        rw [hkk]
        clear hkk hco
        refine (PM.map PP.out LL.out hq HYE.out).mono ?_
        rintro e w5 ⟨rfl, hP5, hL5⟩
        have P5 := hide hP5
        have L5 := hide hL5
        clear hP5 hL5 PP LL hcell
        go_wp2_with fail
        have N4 := hide (show ∀ W, Kept [] w5 W → ∀ j u, ((l.take q).map By.ivn)[j]? = some u → W.cell? ((⟨gl, 0, none⟩ : Addr).add j) = some u from fun W hW j u hu => by
          have hj : j < q := by have := getElem?_lt hu; simp at this; omega
          refine hW.cell (World.ownsRow.cells L5.out.own rfl j u ?_) (by simp)
          rw [← hu, List.map_take, List.getElem?_take, if_pos hj])
        have N5 := hide (show ∀ W, Kept [] w5 W → ∀ j u, ((l.drop (q + 1)).map By.ivn)[j]? = some u → W.cell? (ad9.add j) = some u from fun W hW j u hu => by
          have hj : j < l.length - (q + 1) := by have := getElem?_lt hu; simpa using this
          rw [HA9.out j (by omega)]
          refine hW.cell ?_ (by simp)
          have h2 := World.ownsRow.cells L5.out.own (g := gl) rfl ((q + 1) + j) u (by rw [← hu, List.map_drop, List.getElem?_drop])
          rw [add_plain, Nat.zero_add] at h2
          exact h2)
        have L4 := hide (show ((l.take q).map By.ivn).length = q * 1 by simp; omega)
        have L6 := hide (show ((l.drop (q + 1)).map By.ivn).length = (l.length - (q + 1)) * 1 by simp)
        have SZ5 := hide (show w.heap.size ≤ w5.heap.size ∧ u < w5.heap.size ∧ bq < w5.heap.size ∧ bf < w5.heap.size from ⟨P5.out.kept.size, P5.out.lts.1, P5.out.lts.2.1, P5.out.lts.2.2⟩)
        go_region_law (first
          | (refine By.step_append_own (by rfl) _ _ _ (by rfl) w5.heap.size 3 i3 (.int .i64 0) 1 8 Try.underlying22 I.out Z.out SZ.out B.out rfl (by decide) (.slice (some ⟨w5.heap.size, 0, none⟩) 0 0) 0 [] (by rfl) (World.ownsRow_lit _ #[] 0 (Nat.le_refl _) (by decide) rfl) ⟨gl, 0, none⟩ q cap9 ((l.take q).map By.ivn) (by rfl) L4.out (N4.out _ (by exact ((Kept.refl [] w5).drew.alloc _))) (By.one_ivn _) (by unfold maxLen; omega) (by omega) (by simp) ?_; intro v1 w7 o7 g7 b7 n7; have K7 := own_grown (World.ownsRow_lit (e := 3) (size := 1) w5.drew #[] 0 (Nat.le_refl _) (by decide) rfl) g7 w5 ((Kept.refl [] w5).drew.alloc _) (Nat.le_refl _))
          | (refine By.step_append_own (by rfl) _ _ _ (by rfl) w5.heap.size 3 i3 (.int .i64 0) 1 8 Try.underlying22 I.out Z.out SZ.out B.out rfl (by decide) v1 (0 + q) ([] ++ (l.take q).map By.ivn) (by rfl) o7 ad9 (l.length - (q + 1)) (cap9 - (q + 1)) ((l.drop (q + 1)).map By.ivn) (by rfl) L6.out (N5.out _ K7) (By.one_ivn _) (by unfold maxLen; omega) (by omega) K7.size ?_; intro v2 w8 o8 g8 b8 n8))
        have K8 := own_grown o7 g8 w5 K7 (Nat.le_refl _)
        have P8 := hide (P5.out.next K8)
        have L8 := hide (show PL w w8 u bq bf (l.take q ++ l.drop (q + 1)) v2 from by
          have e1 : (l.take q ++ l.drop (q + 1)).length = 0 + q + (l.length - (q + 1)) := by simp; omega
          have o9 : w8.ownsRow w5.heap.size 3 1 v2 (l.take q ++ l.drop (q + 1)).length ((l.take q ++ l.drop (q + 1)).map By.ivn) := by
            rw [e1, List.map_append]; exact o8
          obtain ⟨z0, z1, z2, z3⟩ := SZ5.out
          refine ⟨own_base o9 z0, fun e => ?_, fun e => ?_, fun e => ?_⟩
          · have := (o9.lt _ e).1; omega
          · have := (o9.lt _ e).1; omega
          · have := (o9.lt _ e).1; omega)
        clear o7 g7 b7 n7 o8 g8 b8 n8 K7 K8 P5 L5 N4 N5 L4 L6 hs1 hs2 HA9 SZ5
        go_wp2
        go_roundw
        case rel => exact ⟨p + 1, _, _, by omega, by go_num, P8.out, L8.out⟩
        case measure => simp [intOf]; omega
      · have hkk := hq0 hi2
        subst hkk
        have hs1' : ∀ wq, (Instr.slice 22 (.slice (some ⟨gl, 0, none⟩) l.length cap9) none (some (.int .i64 0)) none).run Try.prog wq = .ok (.slice (some ⟨gl, 0, none⟩) 0 cap9) wq := hs1
        have hs2' : ∀ wq, (Instr.slice 22 (.slice (some ⟨gl, 0, none⟩) l.length cap9) (some (.int .i64 1)) none none).run Try.prog wq = .ok (.slice (some ad9) (l.length - (0 + 1)) (cap9 - (0 + 1))) wq := hs2
        have hw1 : IntKind.i64.wrap 1 = 1 := by decide
        clear HQE hq0 hs1 hs2 hq1 hq3 hwk
        go_wp2_with fail
        refine (PM.map PP.out LL.out hq HYE.out).mono ?_
        rintro e w5 ⟨rfl, hP5, hL5⟩
        have P5 := hide hP5
        have L5 := hide hL5
        clear hP5 hL5 PP LL hcell
        go_wp2_with fail
        have N4 := hide (show ∀ W, Kept [] w5 W → ∀ j u, ((l.take 0).map By.ivn)[j]? = some u → W.cell? ((⟨gl, 0, none⟩ : Addr).add j) = some u from fun W hW j u hu => by
          have hj : j < 0 := by have := getElem?_lt hu; simp at this
          refine hW.cell (World.ownsRow.cells L5.out.own rfl j u ?_) (by simp)
          rw [← hu, List.map_take, List.getElem?_take, if_pos hj])
        have N5 := hide (show ∀ W, Kept [] w5 W → ∀ j u, ((l.drop (0 + 1)).map By.ivn)[j]? = some u → W.cell? (ad9.add j) = some u from fun W hW j u hu => by
          have hj : j < l.length - (0 + 1) := by have := getElem?_lt hu; simpa using this
          rw [HA9.out j (by omega)]
          refine hW.cell ?_ (by simp)
          have h2 := World.ownsRow.cells L5.out.own (g := gl) rfl ((0 + 1) + j) u (by rw [← hu, List.map_drop, List.getElem?_drop])
          rw [add_plain, Nat.zero_add] at h2
          exact h2)
        have L4 := hide (show ((l.take 0).map By.ivn).length = 0 * 1 by simp)
        have L6 := hide (show ((l.drop (0 + 1)).map By.ivn).length = (l.length - (0 + 1)) * 1 by simp)
        have SZ5 := hide (show w.heap.size ≤ w5.heap.size ∧ u < w5.heap.size ∧ bq < w5.heap.size ∧ bf < w5.heap.size from ⟨P5.out.kept.size, P5.out.lts.1, P5.out.lts.2.1, P5.out.lts.2.2⟩)
        go_region_law (first
          | (refine By.step_append_own (by rfl) _ _ _ (by rfl) w5.heap.size 3 i3 (.int .i64 0) 1 8 Try.underlying22 I.out Z.out SZ.out B.out rfl (by decide) (.slice (some ⟨w5.heap.size, 0, none⟩) 0 0) 0 [] (by rfl) (World.ownsRow_lit _ #[] 0 (Nat.le_refl _) (by decide) rfl) ⟨gl, 0, none⟩ 0 cap9 ((l.take 0).map By.ivn) (by rfl) L4.out (N4.out _ (by exact ((Kept.refl [] w5).drew.alloc _))) (By.one_ivn _) (by unfold maxLen; omega) (by omega) (by simp) ?_; intro v1 w7 o7 g7 b7 n7; have K7 := own_grown (World.ownsRow_lit (e := 3) (size := 1) w5.drew #[] 0 (Nat.le_refl _) (by decide) rfl) g7 w5 ((Kept.refl [] w5).drew.alloc _) (Nat.le_refl _))
          | (refine By.step_append_own (by rfl) _ _ _ (by rfl) w5.heap.size 3 i3 (.int .i64 0) 1 8 Try.underlying22 I.out Z.out SZ.out B.out rfl (by decide) v1 (0 + 0) ([] ++ (l.take 0).map By.ivn) (by rfl) o7 ad9 (l.length - (0 + 1)) (cap9 - (0 + 1)) ((l.drop (0 + 1)).map By.ivn) (by rfl) L6.out (N5.out _ K7) (By.one_ivn _) (by unfold maxLen; omega) (by omega) K7.size ?_; intro v2 w8 o8 g8 b8 n8))
        have K8 := own_grown o7 g8 w5 K7 (Nat.le_refl _)
        have P8 := hide (P5.out.next K8)
        have L8 := hide (show PL w w8 u bq bf (l.take 0 ++ l.drop (0 + 1)) v2 from by
          have e1 : (l.take 0 ++ l.drop (0 + 1)).length = 0 + 0 + (l.length - (0 + 1)) := by simp
          have o9 : w8.ownsRow w5.heap.size 3 1 v2 (l.take 0 ++ l.drop (0 + 1)).length ((l.take 0 ++ l.drop (0 + 1)).map By.ivn) := by
            rw [e1, List.map_append]; exact o8
          obtain ⟨z0, z1, z2, z3⟩ := SZ5.out
          refine ⟨own_base o9 z0, fun e => ?_, fun e => ?_, fun e => ?_⟩
          · have := (o9.lt _ e).1; omega
          · have := (o9.lt _ e).1; omega
          · have := (o9.lt _ e).1; omega)
        clear o7 g7 b7 n7 o8 g8 b8 n8 K7 K8 P5 L5 N4 N5 L4 L6 hs1' hs2' HA9 SZ5
        go_wp2
        go_roundw
        case rel => exact ⟨p + 1, _, _, by omega, by go_num, P8.out, L8.out⟩
        case measure => simp [intOf]; omega
    · obtain rfl : p = 8 := by omega
      have V := hide (PM.all PP.out)
      have hpi : ¬ ((8 : Nat) : Int) < 8 := by omega
      clear PP LL hlp hp hp8
      have hax := HAD.out
      have hw5 : wrap64 (512 - (nb : Int)) = ((512 - nb : Nat) : Int) := by clear hax; unfold wrap64; omega
      have hbn : ((512 - nb : Nat) : Int) ≠ 0 := by clear hax; omega
      go_wp2_with fail
      clear hax hw5
      refine (V.out.write (addr := ad) hnbc (by omega) (HB.out.kept0 V.out.kept) (fun a h1 h2 e => by have := HBC.out a h1 h2; have := V.out.ge; omega)).mono ?_
      rintro e w5 ⟨rfl, hV, -⟩
      have V5 := hide (show PV w w5 mm c (fun x => if ad ≤ x ∧ x < ad + nb then (if x - ad < 0 then zb (x - ad) ^^^ 1 else zb (x - ad)) else 0) from hV)
      clear hV V
      go_wp2_with fail
      go_loopw [15] (fun v wr => ∃ i : Nat, v = .int .i64 i ∧ i ≤ nb ∧ PV w wr mm c (fun x => if ad ≤ x ∧ x < ad + nb then (if x - ad < i then zb (x - ad) ^^^ 1 else zb (x - ad)) else 0)) (fun v _ => nb - (intOf v).toNat)
      case atStart => exact ⟨0, rfl, Nat.zero_le _, V5.out⟩
      case round =>
        clear V5
        obtain ⟨i, rfl, hi, hV⟩ := hrel
        have V := hide hV
        clear hV
        by_cases hin : i < nb
        · have hii : (i : Int) < (nb : Int) := by omega
          have hi0 : (0 : Int) ≤ (i : Int) := by omega
          obtain ⟨bb, ob, hab, cb0⟩ := (HB.out.kept0 V.out.kept) i hin
          subst hab
          have hwi : wrap64 ((ad : Int) + (i : Int)) = ((ad + i : Nat) : Int) := by unfold wrap64; omega
          go_wp2_with fail
          have hR := V.out.read (addr := ad + i) (n := 1) (by omega)
          rw [show ((ad + i : Nat) : Int) = (ad : Int) + (i : Int) from by omega, show ((1 : Nat) : Int) = 1 from rfl] at hR
          refine hR.mono ?_
          rintro e w6 ⟨ax, cx, rfl, hBx, hk6, ho6⟩
          obtain ⟨bx, ox, hax9, cx0⟩ := hBx 0 (by omega)
          subst hax9
          have hbxc : bx ≠ c := fun e => by have h1 := (ho6.lt bx rfl).1; have h2 := V.out.lt; omega
          have hbbc : bb ≠ c := fun e => by have h1 := HBC.out _ rfl (by omega); have h2 := V.out.ge; simp only at h1; omega
          have cx1 : w6.cell? ⟨bx, ox + 0, none⟩ = some (bv (zb i)) := by
            rw [cx0]
            simp only [Nat.add_zero]
            rw [if_pos (by omega), show ad + i - ad = i by omega, if_neg (Nat.lt_irrefl _)]
          rw [Nat.add_zero] at cx1
          have cb1 := hk6.cell cb0 (by simp)
          have V6 := hide (V.out.next hk6)
          unfold bv at cx1 cb1
          clear hR hBx cx0 cb0 V hk6 ho6
          go_wp2_with fail
          have hne9 : (((zb i).toNat : Int) != ((zb i).toNat : Int)) = false := by simp
          have hwi2 : IntKind.i64.wrap ((ad : Int) + (i : Int)) = (ad : Int) + (i : Int) := by rw [IntKind.wrap_i64]; omega
          have hP : Calls Try.prog 8 #[.pointer (some ⟨mm, 0, none⟩), .int .i64 ((ad : Int) + (i : Int)), .slice (some ⟨w6.heap.size, 0, none⟩) 1 1] ((w6.alloc (.cells #[.int .u8 (bits BinOp.xor .u8 ((zb i).toNat : Int) 1)] 5)).drew) fun e w' => e = .returned (.int .i64 0) ∧ PV w w' mm c (fun x => if ad ≤ x ∧ x < ad + nb then (if x - ad < i + 1 then zb (x - ad) ^^^ 1 else zb (x - ad)) else 0) ∧ w'.cell? ⟨bx, ox, none⟩ = some (.int .u8 ((zb i).toNat : Int)) ∧ w'.cell? ⟨bb, ob + i, none⟩ = some (.int .u8 ((zb i).toNat : Int)) := by
            have K := ((Kept.refl [] w6).alloc (.cells #[.int .u8 (bits BinOp.xor .u8 ((zb i).toNat : Int) 1)] 5)).drew
            have hlt := V6.out.lt
            have h := (V6.out.next K).write (addr := ad + i) (n := 1) (cap := 1) (ao := some ⟨w6.heap.size, 0, none⟩) (z := fun _ => zb i ^^^ 1) (Nat.le_refl _) (by omega) (fun j hj => ⟨w6.heap.size, 0, rfl, by
              obtain rfl : j = 0 := by omega
              rw [xor_one]
              have hb9 : (w6.alloc (.cells #[.int .u8 (((zb i ^^^ 1).toNat : Nat) : Int)] 5)).heap[w6.heap.size]? = some (.cells #[.int .u8 (((zb i ^^^ 1).toNat : Nat) : Int)] 5) := Array.getElem?_push_size
              exact blk_cell hb9 0 rfl⟩) (fun a ha _ e => by cases ha; exact Nat.lt_irrefl _ (e ▸ hlt))
            rw [show ((ad + i : Nat) : Int) = (ad : Int) + (i : Int) from by omega] at h
            refine h.mono ?_
            rintro e w' ⟨rfl, hV, hk9⟩
            refine ⟨rfl, hV.congr (fun x _ => ?_), hk9.cell (K.cell cx1 (by simp)) (by simpa using hbxc), hk9.cell (K.cell cb1 (by simp)) (by simpa using hbbc)⟩
            by_cases h1 : ad + i ≤ x ∧ x < ad + i + 1
            · have e1 : x = ad + i := by omega
              subst e1
              rw [if_pos h1, if_pos (by omega), show ad + i - ad = i by omega, if_pos (by omega)]
            · rw [if_neg h1]
              by_cases h2 : ad ≤ x ∧ x < ad + nb
              · rw [if_pos h2, if_pos h2]
                by_cases h3 : x - ad < i
                · rw [if_pos h3, if_pos (by omega)]
                · rw [if_neg h3, if_neg (by omega)]
              · rw [if_neg h2, if_neg h2]
          have P := hide hP
          clear hP V6
          generalize (zb i).toNat = zi at cx1 cb1 hne9 P
          go_region_held3 (fun w' => w'.cell? ⟨bx, ox, none⟩ = some (.int .u8 (zi : Int)) ∧ w'.cell? ⟨bb, ob + i, none⟩ = some (.int .u8 (zi : Int))) (go_keep) ((go_at_call 8; refine P.out.mono ?_; rintro e w7 ⟨rfl, hV7, cx7, cb7⟩; have V7 := hide hV7; clear hV7))
          go_wp2
          go_roundw
          case rel => exact ⟨i + 1, by go_num, by omega, V7.out⟩
          case measure => simp [intOf]; omega
        · have hie : i = nb := by omega
          subst hie
          have hii : ¬ (i : Int) < (i : Int) := by omega
          go_wp2_with fail
          refine (V.out.read (addr := ad) (n := i) (by omega)).mono ?_
          rintro e w6 ⟨ax, cx, rfl, hBx, hk6, ho6⟩
          have B6 := hide (HB.out.kept0 (V.out.kept.next hk6))
          have K6 := hide (V.out.kept.next hk6)
          have BX := hide (show ∀ j, j < i → (fun x => if ad ≤ x ∧ x < ad + i then (if x - ad < i then zb (x - ad) ^^^ 1 else zb (x - ad)) else 0) (ad + j) = zb j ^^^ 1 from fun j hj => by
            show (if ad ≤ ad + j ∧ ad + j < ad + i then (if ad + j - ad < i then zb (ad + j - ad) ^^^ 1 else zb (ad + j - ad)) else 0) = _
            rw [if_pos (by omega), show ad + j - ad = j by omega, if_pos hj])
          have hsz := V.out.kept.size
          by_cases h0 : i = 0
          · subst h0
            have ht1 : (convert 23 9 (.slice ax 0 cx)).run Try.prog w6 = .ok (.string (bt 0 zb)) w6 := run_text Try.underlying23 Try.underlying5 Try.underlying9 (fun j hj => absurd hj (Nat.not_lt_zero _))
            have ht2 : (convert 23 9 (.slice ab 0 cb)).run Try.prog w6 = .ok (.string (bt 0 zb)) w6 := run_text Try.underlying23 Try.underlying5 Try.underlying9 (fun j hj => absurd hj (Nat.not_lt_zero _))
            clear V hBx ho6 hk6
            go_wp2_with fail
            go_loopw [20] (fun v wz => v = .int .i64 0 ∧ wz = w6) (fun _ _ => 0)
            case atStart => exact ⟨rfl, rfl⟩
            case round =>
              obtain ⟨rfl, hw⟩ := hrel
              subst hw
              generalize bt 0 zb = tx at ht1 ht2
              go_wp2_with fail
              go_ret
              exact ⟨by simp, K6.out⟩
          · obtain ⟨g9, cap9, hv9, hg9, -⟩ := World.ownsRow.form ho6 (by omega)
            have hv9' := hv9
            simp only [Value.slice.injEq] at hv9'
            obtain ⟨rfl, -, rfl⟩ := hv9'
            obtain ⟨h, hrow, hle9, hh⟩ : ∃ h, w6.rowIs g9 5 cx h ∧ i ≤ cx ∧ ∀ j, j < i → h j = bv (zb j ^^^ 1) := by
              rcases ho6.2 with ⟨h9, -⟩ | ⟨g', cap', cur, h9, -, hgg, hnc, -, hcs, -⟩
              · cases h9
              · simp only [Value.slice.injEq, Option.some.injEq, Addr.mk.injEq] at h9
                obtain ⟨⟨rfl, -⟩, -, rfl⟩ := h9
                refine ⟨fun j => cur.getD j undef, ⟨cur, hgg, by omega, fun j hj => ?_⟩, hnc, fun j hj => ?_⟩
                · rw [Array.getElem?_eq_getElem (by omega)]
                  simp [Array.getD, show j < cur.size by omega]
                · have h2 := World.ownsRow.cells ho6 (g := g9) rfl j (bv (zb j ^^^ 1)) (by rw [bvs_at hj]; exact congrArg (some ∘ bv) (BX.out j hj))
                  rw [add_plain, Nat.zero_add] at h2
                  have h3 := blk_cell hgg j (v := cur.getD j undef) (by rw [Array.getElem?_eq_getElem (by omega)]; simp [Array.getD, show j < cur.size by omega])
                  rw [h2] at h3
                  exact (Option.some.inj h3).symm
            have HG := hide (show w.heap.size ≤ g9 from by omega)
            have R6 := hide (And.intro hrow hh)
            have hcx9 : (i : Int) ≤ (cx : Int) := by omega
            clear V hBx ho6 hk6 hv9 hg9 hrow hh
            go_wp2_with fail
            go_loopw [20] (fun v wz => ∃ j : Nat, v = .int .i64 j ∧ j ≤ i ∧ Kept [] w wz ∧ ∃ h, wz.rowIs g9 5 cx h ∧ ∀ q, q < i → h q = bv (if q < j then zb q else zb q ^^^ 1)) (fun v _ => i - (intOf v).toNat)
            case atStart => exact ⟨0, rfl, Nat.zero_le _, K6.out, h, R6.out.1, fun q hq => by rw [if_neg (Nat.not_lt_zero _)]; exact R6.out.2 q hq⟩
            case round =>
              clear R6
              obtain ⟨j, rfl, hj, hKj, h, hrow, hh⟩ := hrel
              have KJ := hide hKj
              by_cases hji : j < i
              · have hjj : (j : Int) < (i : Int) := by omega
                have hj0 : (0 : Int) ≤ (j : Int) := by omega
                have cx0 := hrow.cell (show j < cx by omega)
                rw [hh j hji, if_neg (Nat.lt_irrefl _)] at cx0
                have hx1 := xor_one (zb j ^^^ 1)
                rw [xor_twice] at hx1
                generalize zb j ^^^ 1 = y at cx0 hx1
                unfold bv at cx0
                have hfz := hrow.frozen j
                have HX := hide hx1
                have R7 := hide (And.intro hrow hh)
                clear hrow hh hKj hx1
                go_wp2_with fail
                go_roundw
                case rel =>
                  refine ⟨j + 1, by go_num, by omega, KJ.out.setCell (p := ⟨g9, j, none⟩) (fun hl => by have h9 := HG.out; simp only at hl; omega) _, _, R7.out.1.set j _, fun q hq => ?_⟩
                  by_cases e : q = j
                  · subst e
                    rw [if_pos rfl, if_pos (by omega)]
                    unfold bv
                    rw [HX.out]
                  · rw [if_neg e, R7.out.2 q hq]
                    by_cases h1 : q < j
                    · rw [if_pos h1, if_pos (by omega)]
                    · rw [if_neg h1, if_neg (by omega)]
                case measure => simp [intOf]; omega
              · have hje : j = i := by omega
                subst hje
                have hjj : ¬ (j : Int) < (j : Int) := by omega
                have ht1 : (convert 23 9 (.slice (some ⟨g9, 0, none⟩) j cx)).run Try.prog wr = .ok (.string (bt j zb)) wr := run_text Try.underlying23 Try.underlying5 Try.underlying9 (fun q hq => ⟨g9, 0, rfl, by rw [Nat.zero_add, hrow.cell (by omega), hh q hq, if_pos hq]⟩)
                have ht2 : (convert 23 9 (.slice ab j cb)).run Try.prog wr = .ok (.string (bt j zb)) wr := run_text Try.underlying23 Try.underlying5 Try.underlying9 (HB.out.kept0 hKj)
                clear hrow hh hKj B6 HB
                generalize bt j zb = tx at ht1 ht2
                go_wp2_with fail
                go_ret
                exact ⟨by simp, KJ.out⟩

theorem own : ownKnob Try.prog.godebug = none := by kernel_rfl
theorem laidOut : laidOutB Try.prog = true := by kernel_rfl

set_option maxRecDepth 100000 in
theorem lifted (os : Os) (started : os.Started) (H : Type) (enc : TypeId × Value → H) :
    ReturnsInHanded {} Try.checked os 3 .any (Rows.memoryPartsSpec.pre6 enc Try.prog Try.f3 Rows.memoryPartsRow.domain false) (Rows.memoryPartsSpec.post enc Try.prog Try.f3 false true false false) := by
  refine returnsInHanded_of_change (C := Try.checked) own started (by kernel_rfl) Try.func3
    (ChangeSpec.witness6 (enc := enc) (C := Try.checked) false ⟨#[], #[.slice none 0 0, .int .i64 0, .slice none 0 0], []⟩ 8 (by kernel_rfl) (by kernel_rfl) (by kernel_rfl) (by kernel_rfl)) ?_
  intro W base args ds gs before hval0 hW hcnd _
  have hval : ∀ (j : Nat) t v, Try.f3.params[j]? = some t → args[j]? = some v → Value.okWide Try.prog W .any base t v := hval0
  have hW' := hW
  obtain ⟨p, q, hA0, hV, rfl, hfz, hnd⟩ := hW
  have hA : DataW.TrodAll enc Try.prog W 0 (fun _ => true) true Try.f3.params.toList args.toList ds p := hA0
  have hK := hA
  rw [Try.params3] at hA hval
  obtain ⟨v0, vs0, d0, ds0, p0, q0, hargs, rfl, rfl, h0, r0⟩ := trodAll_cons hA
  obtain ⟨v1, vs1, d1, ds1, p1, q1, rfl, rfl, rfl, h1, r1⟩ := trodAll_cons r0
  obtain ⟨v2, vs2, d2, ds2, p2, q2, rfl, rfl, rfl, h2, r2⟩ := trodAll_cons r1
  obtain ⟨rfl, rfl, rfl⟩ := trodAll_nil r2
  obtain rfl : args = #[v0, v1, v2] := by cases args; simp_all
  obtain ⟨rfl, rfl⟩ := trodVars_none hV
  obtain ⟨a0, len0, cap0, zs0, rfl, hl0, hm0, hn0, hT0⟩ := open_list Try.underlying22 Try.underlying3 (by kernel_rfl) (okWide_slice Try.underlying22 (hval 0 22 v0 rfl rfl)) h0
  obtain ⟨x, rfl, rfl, rfl, w1⟩ := open_int Try.underlying3 (hval 1 3 v1 rfl rfl) h1
  obtain ⟨a2, len2, cap2, zs2, rfl, hl2, hm2, hn2, hT2⟩ := open_list Try.underlying23 Try.underlying5 (by kernel_rfl) (okWide_slice Try.underlying23 (hval 2 23 v2 rfl rfl)) h2
  clear hA0 hval0
  refine (walk x (Nat.le_trans hl0 hm0) hT0 hl2 hm2 (Bs.of_ints hT2)).mono fun e W' ⟨he, hk⟩ => ?_
  subst he
  exact ⟨_, rfl, _, _, _, [], _, [], hW', trodAll_mk1 (shut_bool Try.underlying4 _), trodAll_below laidOut hk.below _ _ _ _ hK (by kernel_rfl), rfl, hk.below.frame _, fun h => by cases h⟩

theorem said : Rows.MemoryPartsSaid :=
  OpenClaim.holds_of_wide 3 Try.f3 rfl rfl rfl rfl rfl rfl rfl ⟨rfl, rfl, rfl, rfl, rfl⟩ rfl rfl rfl rfl rfl (by kernel_rfl) Try.func3 (by kernel_rfl)
    (of_decide_eq_true (by kernel_rfl)) (by unfold Func.isWrapper; first | (rw [if_pos (by decide +kernel)]; kernel_rfl) | (rw [if_neg (by decide +kernel)]; exact ⟨rfl, rfl⟩))
    (fun os started H enc _ => lifted os started H enc)
end Go.Proofs.Ytdgmfcnblaamcab.LP
