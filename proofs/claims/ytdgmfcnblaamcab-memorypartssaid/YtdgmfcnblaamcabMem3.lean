
/-
  No statement of the program: the contract of Read of package memory, over this seat's translation.
-/
import Derived.Test.YtdgmfcnblaamcabMem2
import Derived.Test.YtdgmfcnblaamcabFrm4
import Derived.Deep.RegionHeld3
namespace Go.Proofs.Ytdgmfcnblaamcab.Me
open Go.RowKit Tb
set_option maxRecDepth 20000 in
set_option maxHeartbeats 1000000 in
theorem read_own {w : World} {m g c n e t : Nat} {f : Nat → UInt8} {u bt bf N : Nat} {p : Int} {to fr : Int → Option Int} (F : Nat → Nat) (h : MemAt w m g c n e t f u bt bf N p to fr) (addr len : Nat) (h1 : len ≤ 65536) (h2 : addr + len ≤ 262144)
    (hF : ∀ q : Nat, addr / 64 ≤ q → q * 64 < addr + len → 0 < len → to q = some (F q : Int)) (hT : ∀ q : Nat, addr / 64 ≤ q → q * 64 < addr + len → F q < t) :
    Calls Try.prog 9 #[.pointer (some ⟨m, 0, none⟩), .int .i64 addr, .int .i64 len] w fun r w' => ∃ ao cap, r = .returned (.tuple #[.slice ao len cap, .int .i64 0]) ∧ Bs w' ao len (fun i => f (pos F (addr + i))) ∧ (∀ a, ao = some a → w.heap.size ≤ a.block) ∧ Kept [] w w' ∧ w'.ownsRow w.heap.size 5 1 (.slice ao len cap) len (bvs len (fun i => f (pos F (addr + i)))) := by
  have H := hide h
  have HF := hide hF
  have c0 := h.c0
  have ht := h.st.t8192
  have PO := hide (pcs_ok F t len addr len (Nat.le_refl _) hT)
  have TO := hide (total_pcs F len addr len (Nat.le_refl _))
  have RD := hide (rd_pcs F f len addr len (Nat.le_refl _))
  have LE := hide (len_pcs F len addr len (Nat.le_refl _))
  obtain ⟨i0, hi, hz0, hz1, hz2⟩ := info_parts Fr.info
  have hmk := fun w => run_make (P := Try.prog) w 23 5 i0 (.int .u8 0) Try.underlying23 hi hz0 .i64 .i64 0 (len : Int) (by omega) (by omega) (by rw [hz2]; omega) (by omega)
  simp only [Int.toNat_zero, Int.toNat_natCast, hz1, Nat.mul_one, show (Value.int IntKind.u8 0).cells = #[.int .u8 0] from rfl] at hmk
  clear h hF
  go_enter Try.func9, Try.ntmps9
  go_wp2_with fail
  refine (pieces_ok F H.out addr len h1 h2 HF.out).mono ?_
  rintro r w1 ⟨v, rfl, hP, k1⟩
  obtain ⟨ao, cap, rfl, hm, hel⟩ := hP.form
  have K1 := hide k1
  have P1 := hide hP
  obtain ⟨l, hl⟩ : ∃ l, l = pcs F addr len := ⟨_, rfl⟩
  rw [← hl] at PO TO RD LE P1 hP hel hm ⊢
  have EL := hide hel
  have hll : l.length ≤ 65536 := Nat.le_trans LE.out h1
  obtain ⟨lc, hlc⟩ : ∃ lc, lc = l.length := ⟨_, rfl⟩
  rw [← hlc] at hll P1 ⊢
  have LC := hide hlc
  clear hl hP hel k1 hm hlc
  go_wp2_with fail
  clear hmk
  go_loopw [10, 29] (fun li i wr => ∃ j : Nat, j ≤ lc ∧ i = .int .i64 j ∧ wr.ownsRow w1.heap.size 5 1 li (total (l.take j)) ((rd f (l.take j)).map bv) ∧ Kept [] w1 wr) (fun _ i _ => lc - (intOf i).toNat)
  case atStart =>
    refine ⟨0, by omega, rfl, ⟨rfl, .inr ⟨w1.heap.size, len, _, rfl, Nat.le_refl _, Go.heap_alloc_new _ _, Nat.zero_le _, by unfold maxLen; omega, by simp [madeCells], rfl⟩⟩, (Kept.refl [] w1).alloc _⟩
  case round =>
    obtain ⟨j, hj, rfl, hown, hK⟩ := hrel
    have OW := hide hown
    have KJ := hide hK
    clear hown hK
    by_cases hjl : j < lc
    · have hjl2 : j < l.length := by rw [← LC.out]; exact hjl
      obtain ⟨⟨k, at_, d⟩, hx⟩ : ∃ x, l[j]? = some x := ⟨_, List.getElem?_eq_getElem hjl2⟩
      obtain ⟨b0, hao, hb0, e0, e1, e2⟩ := EL.out j _ hx
      obtain ⟨hk, hat⟩ := PO.out _ (List.mem_of_getElem? hx)
      simp only at hk hat e0 e1 e2
      subst hao
      have a0 := KJ.out.cell e0 (by simp)
      have a1 := KJ.out.cell e1 (by simp)
      have a2 := KJ.out.cell e2 (by simp)
      have ET : Hid (total (l.take (j + 1)) = total (l.take j) + d ∧ rd f (l.take (j + 1)) = rd f (l.take j) ++ bl d (fun i => f (k * 64 + at_ + i))) := by
        refine hide ?_
        rw [List.take_add_one, hx]
        simp [total_append, rd_append, total, rd]
      have hc0 : wr.cell? ⟨m, 0, none⟩ = some (.pointer (some ⟨g, 0, none⟩)) := (K1.out.next KJ.out).cell c0 (by simp)
      have MJ := hide (H.out.kept0 (K1.out.next KJ.out))
      have hdt : total (l.take j) + d ≤ 65536 := by
        have := TO.out
        have h5 : total l = total (l.take (j + 1)) + total (l.drop (j + 1)) := by rw [← total_append, List.take_append_drop]
        have := ET.out.1
        omega
      clear e0 e1 e2 hx hjl2
      go_wp2_with fail
      have kx : Kept [] wr (wr.alloc (.cells #[.int .i64 k, .int .i64 at_, .int .i64 d] 52)) := (Kept.refl [] wr).alloc _
      have x0 : (wr.alloc (.cells #[.int .i64 k, .int .i64 at_, .int .i64 d] 52)).cell? ⟨wr.heap.size, 0, none⟩ = some (.int .i64 k) := World.cell?_alloc_mark _ _ _ _ _
      have x1 : (wr.alloc (.cells #[.int .i64 k, .int .i64 at_, .int .i64 d] 52)).cell? ⟨wr.heap.size, 1, none⟩ = some (.int .i64 at_) := World.cell?_alloc_mark _ _ _ _ _
      have x2 : (wr.alloc (.cells #[.int .i64 k, .int .i64 at_, .int .i64 d] 52)).cell? ⟨wr.heap.size, 2, none⟩ = some (.int .i64 d) := World.cell?_alloc_mark _ _ _ _ _
      generalize wr.alloc (.cells #[.int .i64 k, .int .i64 at_, .int .i64 d] 52) = wx at kx x0 x1 x2 ⊢
      generalize wr.heap.size = bp at x0 x1 x2 ⊢
      have xc := kx.cell hc0 (by simp)
      have MX := hide (MJ.out.kept0 kx)
      have OX := hide (own_kept OW.out kx (by simp))
      have KX := hide (KJ.out.next kx)
      have hbx : w1.heap.size ≤ wx.heap.size := KX.out.size
      clear kx hc0 MJ OW KJ a0 a1 a2 EL P1 c0 hb0
      go_region_held3 (fun w' => w'.cell? ⟨m, 0, none⟩ = some (.pointer (some ⟨g, 0, none⟩)) ∧ w'.cell? ⟨bp, 0, none⟩ = some (.int .i64 k) ∧ w'.cell? ⟨bp, 1, none⟩ = some (.int .i64 at_) ∧ w'.cell? ⟨bp, 2, none⟩ = some (.int .i64 d)) (go_keep) ((go_at_call 19; refine (Fr.load_full k at_ d (w := wx.drew) (MX.out.st.kept0 ((Kept.refl [] wx).drew)) hk hat).mono ?_; rintro r w5 ⟨ao5, cap5, rfl, hB5, hb5, hn5, k50⟩; have k5 : Kept [] wx w5 := ((Kept.refl [] wx).drew).next k50; have s0 := k5.cell xc (by simp); have s1 := k5.cell x0 (by simp); have s2 := k5.cell x1 (by simp); have s3 := k5.cell x2 (by simp); have R5 := hide (And.intro hB5 (And.intro hn5 k5)); clear hB5 hb5 hn5 k5 k50))
      all_goals
        go_wp2_with (at_builtin; refine wpList_append_any rfl _ _ 23 rfl w1.heap.size 5 i0 (.int .u8 0) 1 Try.underlying23 hi hz0 hz1 hz2 rfl _ (total (l.take j)) ((rd f (l.take j)).map bv) rfl ?own ao5 d cap5 (bvs d (fun i => f (k * 64 + at_ + i))) rfl (bvs_length _ _) ?nil ?news (bvs_one _ _) ?c1 ?c2 ?c3 ?_)
        case own => exact own_kept OX.out R5.out.2.2 (by simp)
        case nil => exact R5.out.2.1
        case news => exact R5.out.1.news
        case c1 => unfold maxLen; omega
        case c2 => omega
        case c3 => exact Nat.le_trans hbx R5.out.2.2.size
        intro v6 w6 hown6 hg6
        have hK6 : Kept [] w1 w6 := own_grown (own_kept OX.out R5.out.2.2 (by simp)) hg6 w1 (KX.out.next R5.out.2.2) (Nat.le_refl _)
        have hO6 : w6.ownsRow w1.heap.size 5 1 v6 (total (l.take (j + 1))) ((rd f (l.take (j + 1))).map bv) := by
          rw [ET.out.1, ET.out.2, List.map_append]
          have e5 : (bl d (fun i => f (k * 64 + at_ + i))).map bv = bvs d (fun i => f (k * 64 + at_ + i)) := by simp [bl, bvs]
          rw [e5]; exact hown6
        have R6 := hide (And.intro hO6 hK6)
        clear hown6 hg6 hK6 hO6 R5 OX MX KX ET
        go_wp2
        go_roundw
        case rel => exact ⟨j + 1, by omega, by go_num, R6.out⟩
        case measure => simp [intOf]; omega
    · obtain rfl : j = lc := by omega
      have hfull : l.take j = l := by rw [LC.out]; exact List.take_length
      have hB : ∃ ao cap, u10 = .slice ao len cap ∧ Bs wr ao len (fun i => f (pos F (addr + i))) ∧ (∀ a, ao = some a → w1.heap.size ≤ a.block) ∧ wr.ownsRow w1.heap.size 5 1 (.slice ao len cap) len (bvs len (fun i => f (pos F (addr + i)))) := by
        have h5 := OW.out
        rw [hfull, TO.out, RD.out] at h5
        have e5 : (bl len (fun i => f (pos F (addr + i)))).map bv = bvs len (fun i => f (pos F (addr + i))) := by simp [bl, bvs]
        rw [e5] at h5
        obtain ⟨a5, c5, h6, _, h7, h8⟩ := Bs.of_own h5
        exact ⟨a5, c5, h6, h7, h8, by rw [← h6]; exact h5⟩
      obtain ⟨ao6, cap6, rfl, hB1, hB2, hB3⟩ := hB
      have R := hide (And.intro hB1 (And.intro hB2 (And.intro (K1.out.next KJ.out) hB3)))
      have hs := hide K1.out.size
      clear hB1 hB2 hB3 hfull OW
      go_wp2
      go_ret2
      exact ⟨ao6, cap6, rfl, R.out.1, fun a ha => Nat.le_trans hs.out (R.out.2.1 a ha), R.out.2.2.1, own_base R.out.2.2.2 hs.out⟩
theorem read_ok {w : World} {m g c n e t : Nat} {f : Nat → UInt8} {u bt bf N : Nat} {p : Int} {to fr : Int → Option Int} (F : Nat → Nat) (h : MemAt w m g c n e t f u bt bf N p to fr) (addr len : Nat) (h1 : len ≤ 65536) (h2 : addr + len ≤ 262144)
    (hF : ∀ q : Nat, addr / 64 ≤ q → q * 64 < addr + len → 0 < len → to q = some (F q : Int)) (hT : ∀ q : Nat, addr / 64 ≤ q → q * 64 < addr + len → F q < t) :
    Calls Try.prog 9 #[.pointer (some ⟨m, 0, none⟩), .int .i64 addr, .int .i64 len] w fun r w' => ∃ ao cap, r = .returned (.tuple #[.slice ao len cap, .int .i64 0]) ∧ Bs w' ao len (fun i => f (pos F (addr + i))) ∧ (∀ a, ao = some a → w.heap.size ≤ a.block) ∧ Kept [] w w' := by
  refine (read_own F h addr len h1 h2 hF hT).mono ?_
  rintro r w' ⟨ao, cap, h3, h4, h5, h6, -⟩
  exact ⟨ao, cap, h3, h4, h5, h6⟩
set_option maxHeartbeats 400000 in
/-- Read, where page q0 stands on no frame. -/
theorem read_hole {w : World} {m g c n e t : Nat} {f : Nat → UInt8} {u bt bf N : Nat} {p : Int} {to fr : Int → Option Int} (F : Nat → Nat) (h : MemAt w m g c n e t f u bt bf N p to fr) (addr len q0 : Nat) (h1 : len ≤ 65536) (h2 : addr + len ≤ 262144)
    (hlen : 0 < len) (hq1 : addr / 64 ≤ q0) (hq2 : q0 * 64 < addr + len) (hq3 : to q0 = none) (hF : ∀ q : Nat, addr / 64 ≤ q → q < q0 → to q = some (F q : Int)) :
    Calls Try.prog 9 #[.pointer (some ⟨m, 0, none⟩), .int .i64 addr, .int .i64 len] w fun r w' => r = .returned (.tuple #[.slice none 0 0, .int .i64 9]) ∧ Kept [] w w' := by
  have H := hide h
  have H3 := hide hq3
  have HF := hide hF
  clear h hq3 hF
  go_enter Try.func9, Try.ntmps9
  go_wp2_with fail
  refine (pieces_hole F H.out addr len q0 h1 h2 hlen hq1 hq2 H3.out HF.out).mono ?_
  rintro r w1 ⟨rfl, k1⟩
  go_wp2
  go_ret2
  exact ⟨rfl, k1⟩
end Go.Proofs.Ytdgmfcnblaamcab.Me
