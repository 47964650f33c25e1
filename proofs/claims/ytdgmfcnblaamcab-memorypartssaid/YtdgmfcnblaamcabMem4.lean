
/-
  No statement of the program: the contract of Write of package memory, over this seat's translation.
-/
import Derived.Test.YtdgmfcnblaamcabMem3
namespace Go.Proofs.Ytdgmfcnblaamcab.Me
open Go.RowKit Tb

theorem Bs_drop {w : World} {ao : Option Addr} {n cap d : Nat} {z : Nat → UInt8} (h : Bs w ao n z) (hd : d ≤ n) (hn : n ≤ cap) : Bs w (cutA ao cap d) (n - d) (fun i => z (d + i)) := by
  intro i hi
  obtain ⟨b, off, rfl, hc⟩ := h (d + i) (by omega)
  refine ⟨b, off + d, ?_, ?_⟩
  · rw [cutA_lt (by omega), Option.map_some, add_plain]
  · rw [Nat.add_assoc]; exact hc
theorem Bs_kept {w w' : World} {ao : Option Addr} {n : Nat} {z : Nat → UInt8} {L : List Nat} (h : Bs w ao n z) (k : Kept L w w') (hL : ∀ a, ao = some a → 0 < n → a.block ∉ L) : Bs w' ao n z := by
  intro i hi
  obtain ⟨b, off, rfl, hc⟩ := h i hi
  exact ⟨b, off, rfl, k.cell hc (hL ⟨b, off, none⟩ rfl (by omega))⟩
theorem cutA_block {ao : Option Addr} {cap d c n : Nat} (h : ∀ a, ao = some a → 0 < n → a.block ≠ c) : ∀ a, cutA ao cap d = some a → 0 < n - d → a.block ≠ c := by
  intro a ha h0
  unfold cutA at ha
  split at ha
  · exact h a ha (by omega)
  · cases ao with
    | none => cases ha
    | some x =>
      have := h x rfl (by omega)
      simp only [Option.map_some, Option.some.injEq] at ha
      subst ha
      obtain ⟨b, o, s⟩ := x
      unfold Addr.add
      split <;> simpa using this
theorem wrt_fun {l : List (Nat × Nat × Nat)} {f f2 z z2 : Nat → UInt8} (h : f = f2) (h2 : z = z2) : wrt l f z = wrt l f2 z2 := by rw [h, h2]

set_option maxRecDepth 20000 in
set_option maxHeartbeats 1000000 in
/-- Write, where all pages stand on frames. -/
theorem write_ok {w : World} {m g c n e t : Nat} {f z : Nat → UInt8} {u bt bf N : Nat} {p : Int} {to fr : Int → Option Int} (F : Nat → Nat) (h : MemAt w m g c n e t f u bt bf N p to fr) (addr len cap : Nat) (ao : Option Addr) (h1 : len ≤ 65536) (h2 : addr + len ≤ 262144) (hlc : len ≤ cap)
    (hz : Bs w ao len z) (hzc : ∀ a, ao = some a → 0 < len → a.block ≠ c)
    (hF : ∀ q : Nat, addr / 64 ≤ q → q * 64 < addr + len → 0 < len → to q = some (F q : Int)) (hT : ∀ q : Nat, addr / 64 ≤ q → q * 64 < addr + len → F q < t) :
    Calls Try.prog 8 #[.pointer (some ⟨m, 0, none⟩), .int .i64 addr, .slice ao len cap] w fun r w' => r = .returned (.int .i64 0) ∧ MemAt w' m g c n e t (wrt (pcs F addr len) f z) u bt bf N p to fr ∧ Kept [c] w w' := by
  have H := hide h
  have HF := hide hF
  have HZ := hide (And.intro hz hzc)
  have c0 := h.c0
  have hclt := h.st.clt
  have ht := h.st.t8192
  have PO := hide (pcs_ok F t len addr len (Nat.le_refl _) hT)
  have TO := hide (total_pcs F len addr len (Nat.le_refl _))
  have LE := hide (len_pcs F len addr len (Nat.le_refl _))
  clear h hF hz hzc
  go_enter Try.func8, Try.ntmps8
  go_wp2_with fail
  refine (pieces_ok F H.out addr len h1 h2 HF.out).mono ?_
  rintro r w1 ⟨v, rfl, hP, k1⟩
  obtain ⟨ap, capp, rfl, hm, hel⟩ := hP.form
  have K1 := hide k1
  obtain ⟨l, hl⟩ : ∃ l, l = pcs F addr len := ⟨_, rfl⟩
  rw [← hl] at PO TO LE hP hel hm ⊢
  have HL := hide hl
  have EL := hide hel
  have hll : l.length ≤ 65536 := Nat.le_trans LE.out h1
  obtain ⟨lc, hlc2⟩ : ∃ lc, lc = l.length := ⟨_, rfl⟩
  rw [← hlc2] at hll ⊢
  have LC := hide hlc2
  clear hl hP hel k1 hm hlc2
  go_wp2_with fail
  go_loopw [2, 24] (fun bb i wr => ∃ (j : Nat) (ab : Option Addr) (lb cb : Nat) (fj : Nat → UInt8), j ≤ lc ∧ i = .int .i64 j ∧ bb = .slice ab lb cb ∧ lb = total (l.drop j) ∧ lb ≤ cb ∧ cb ≤ cap ∧ Bs wr ab lb (fun i => z (total (l.take j) + i)) ∧ (∀ a, ab = some a → 0 < lb → a.block ≠ c) ∧
      MemAt wr m g c n e t fj u bt bf N p to fr ∧ wrt (l.drop j) fj (fun i => z (total (l.take j) + i)) = wrt l f z ∧ Kept [c] w1 wr) (fun _ i _ => lc - (intOf i).toNat)
  case atStart => exact ⟨0, ao, len, cap, f, by omega, rfl, rfl, TO.out.symm, hlc, Nat.le_refl _, (HZ.out.1.kept0 K1.out).congr (fun i _ => by simp [total]), HZ.out.2, H.out.kept0 K1.out, wrt_fun rfl (by funext i; simp [total]), Kept.refl _ _⟩
  case round =>
    obtain ⟨j, ab, lb, cb, fj, hj, rfl, rfl, hlb, hlcb, hcc, hB, hBc, hM, hW, hK⟩ := hrel
    have MJ := hide hM
    have WJ := hide hW
    have KJ := hide hK
    have BJ := hide (And.intro hB hBc)
    have LB := hide hlb
    clear hM hW hK hB hBc hlb HZ
    by_cases hjl : j < lc
    · have hjl2 : j < l.length := by rw [← LC.out]; exact hjl
      obtain ⟨⟨k, at_, d⟩, hx⟩ : ∃ x, l[j]? = some x := ⟨_, List.getElem?_eq_getElem hjl2⟩
      obtain ⟨b0, hao, hb0, e0, e1, e2⟩ := EL.out j _ hx
      obtain ⟨hk, hat⟩ := PO.out _ (List.mem_of_getElem? hx)
      simp only at hk hat e0 e1 e2
      subst hao
      have hbc : b0 ∉ [c] := by simp; omega
      have a0 := KJ.out.cell e0 hbc
      have a1 := KJ.out.cell e1 hbc
      have a2 := KJ.out.cell e2 hbc
      have hdr : l.drop j = (k, at_, d) :: l.drop (j + 1) := by
        rw [List.drop_eq_getElem_cons hjl2]
        congr 1
        rw [List.getElem?_eq_getElem hjl2] at hx
        exact Option.some.inj hx
      have htk : total (l.take (j + 1)) = total (l.take j) + d := by
        rw [List.take_add_one, hx]; simp [total_append, total]
      have hdl : d ≤ lb := by rw [LB.out, hdr]; show d ≤ d + _; omega
      have hlb2 : lb - d = total (l.drop (j + 1)) := by rw [LB.out, hdr]; show d + total _ - d = _; omega
      have ET := hide (And.intro htk (And.intro hlb2 hdr))
      have hc0 := MJ.out.c0
      have hcut0 := run_cut0 Try.underlying23 Fr.info ab lb cb .i64 (j := (d : Int)) d rfl (by omega)
      have hcutf := run_cut_from Try.underlying23 Fr.info ab lb cb .i64 (i := (d : Int)) d rfl hdl
      obtain ⟨ac, hac⟩ : ∃ ac, ac = cutA ab cb d := ⟨_, rfl⟩
      rw [← hac] at hcutf
      have AC := hide hac
      clear e0 e1 e2 hx hjl2 htk hlb2 hdr hac
      go_wp2_with fail
      have kx : Kept [] wr (wr.alloc (.cells #[.int .i64 k, .int .i64 at_, .int .i64 d] 52)) := (Kept.refl [] wr).alloc _
      have x0 : (wr.alloc (.cells #[.int .i64 k, .int .i64 at_, .int .i64 d] 52)).cell? ⟨wr.heap.size, 0, none⟩ = some (.int .i64 k) := World.cell?_alloc_mark _ _ _ _ _
      have x1 : (wr.alloc (.cells #[.int .i64 k, .int .i64 at_, .int .i64 d] 52)).cell? ⟨wr.heap.size, 1, none⟩ = some (.int .i64 at_) := World.cell?_alloc_mark _ _ _ _ _
      have x2 : (wr.alloc (.cells #[.int .i64 k, .int .i64 at_, .int .i64 d] 52)).cell? ⟨wr.heap.size, 2, none⟩ = some (.int .i64 d) := World.cell?_alloc_mark _ _ _ _ _
      have hbp : wr.heap.size ∉ [c] := by have := MJ.out.st.clt; simp; omega
      generalize wr.alloc (.cells #[.int .i64 k, .int .i64 at_, .int .i64 d] 52) = wx at kx x0 x1 x2 ⊢
      generalize wr.heap.size = bp at x0 x1 x2 hbp ⊢
      have xc := kx.cell hc0 (by simp)
      have MX := hide (MJ.out.kept0 kx)
      have BX := hide (And.intro (BJ.out.1.kept0 kx) BJ.out.2)
      have KX := hide (KJ.out.trans kx (by simp))
      have HBP := hide hbp
      clear kx hc0 MJ BJ KJ a0 a1 a2 EL c0 hb0 hbc hbp
      go_region_held3 (fun w' => w'.cell? ⟨m, 0, none⟩ = some (.pointer (some ⟨g, 0, none⟩)) ∧ w'.cell? ⟨bp, 0, none⟩ = some (.int .i64 k) ∧ w'.cell? ⟨bp, 1, none⟩ = some (.int .i64 at_) ∧ w'.cell? ⟨bp, 2, none⟩ = some (.int .i64 d)) (go_keep) ((go_at_call 18; refine (Fr.save_ok k at_ d cb ab (w := wx.drew) (z := fun i => z (total (l.take j) + i)) (MX.out.st.kept0 ((Kept.refl [] wx).drew)) hk hat ((BX.out.1.take hdl).kept0 ((Kept.refl [] wx).drew))).mono ?_; rintro r w5 ⟨rfl, hS5, k50⟩; have k5 : Kept [c] wx w5 := ((Kept.refl [c] wx).drew).trans k50 (by intro x hx _; exact hx); have M5 := MX.out.bytes k5 hS5; have s0 := M5.c0; have s1 := k5.cell x0 HBP.out; have s2 := k5.cell x1 HBP.out; have s3 := k5.cell x2 HBP.out; have R5 := hide (And.intro M5 k5); clear M5 hS5 k5 k50))
      all_goals
        have hB6 := Bs_drop (Bs_kept BX.out.1 R5.out.2 (fun a ha h0 => by simpa using BX.out.2 a ha h0)) hdl hlcb
        have hE6 : wrt (l.drop (j + 1)) (over fj (k * 64 + at_) d (fun i => z (total (l.take j) + i))) (fun i => z (total (l.take (j + 1)) + i)) = wrt l f z := by
          rw [← WJ.out, ET.out.2.2]
          show _ = wrt (l.drop (j + 1)) (over fj (k * 64 + at_) d (fun i => z (total (l.take j) + i))) (fun i => z (total (l.take j) + (d + i)))
          exact wrt_fun rfl (by funext i; rw [ET.out.1, Nat.add_assoc])
        have R6 := hide (And.intro hB6 (And.intro (cutA_block (cap := cb) (d := d) BX.out.2) (And.intro R5.out.1 (And.intro hE6 (KX.out.trans R5.out.2 (by intro x hx _; exact hx))))))
        have s3 : w5.cell? ⟨bp, 2, none⟩ = some (.int .i64 d) := R5.out.2.cell x2 HBP.out
        clear hB6 hE6 R5 BX MX KX WJ
        go_wp2
        go_roundw
        case rel => exact ⟨j + 1, ac, lb - d, cb - d, _, by omega, by go_num, rfl, ET.out.2.1, by omega, by omega, by rw [AC.out]; exact R6.out.1.congr (fun i _ => by rw [ET.out.1, Nat.add_assoc]), by rw [AC.out]; exact R6.out.2.1, R6.out.2.2.1, R6.out.2.2.2.1, R6.out.2.2.2.2⟩
        case measure => simp [intOf]; omega
    · obtain rfl : j = lc := by omega
      have hE : fj = wrt l f z := by
        rw [← WJ.out, LC.out, List.drop_length]; rfl
      have R := hide (And.intro (show MemAt wr m g c n e t (wrt l f z) u bt bf N p to fr from hE ▸ MJ.out) ((K1.out.mono (M := [c]) (by simp)).trans KJ.out (by intro x hx _; exact hx)))
      clear hE MJ BJ KJ WJ
      go_wp2
      go_ret
      rw [← HL.out]
      exact ⟨rfl, R.out⟩
set_option maxHeartbeats 400000 in
/-- Write, where page q0 stands on no frame. -/
theorem write_hole {w : World} {m g c n e t : Nat} {f : Nat → UInt8} {u bt bf N : Nat} {p : Int} {to fr : Int → Option Int} (F : Nat → Nat) (h : MemAt w m g c n e t f u bt bf N p to fr) (addr len cap q0 : Nat) (ao : Option Addr) (h1 : len ≤ 65536) (h2 : addr + len ≤ 262144)
    (hlen : 0 < len) (hq1 : addr / 64 ≤ q0) (hq2 : q0 * 64 < addr + len) (hq3 : to q0 = none) (hF : ∀ q : Nat, addr / 64 ≤ q → q < q0 → to q = some (F q : Int)) :
    Calls Try.prog 8 #[.pointer (some ⟨m, 0, none⟩), .int .i64 addr, .slice ao len cap] w fun r w' => r = .returned (.int .i64 9) ∧ Kept [] w w' := by
  have H := hide h
  have H3 := hide hq3
  have HF := hide hF
  clear h hq3 hF
  go_enter Try.func8, Try.ntmps8
  go_wp2_with fail
  refine (pieces_hole F H.out addr len q0 h1 h2 hlen hq1 hq2 H3.out HF.out).mono ?_
  rintro r w1 ⟨rfl, k1⟩
  go_wp2
  go_ret
  exact ⟨rfl, k1⟩
end Go.Proofs.Ytdgmfcnblaamcab.Me
