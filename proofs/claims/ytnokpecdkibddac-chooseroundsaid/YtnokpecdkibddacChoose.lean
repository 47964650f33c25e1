
/-
  No statement of the program: the contract of package choose's Node, over this seat's translation.
-/
import Derived.Test.YtnokpecdkibddacZone5
import Derived.Test.YtnokpecdkibddacPol
namespace Go.Proofs.Ytnokpecdkibddac.CH
open Go.RowKit TP ZN PO

theorem next_mem {s : Nat} (h2 : s < 256) (h0 : s ≠ 0) (cur : Int) : (ND.nextOf (ND.nodes s) cur).1 ∈ ND.nodes s := by
  have hl : ∀ s, s < 256 → s ≠ 0 → ND.nodes s ≠ [] := by decide +kernel
  cases hn : ND.nodes s with
  | nil => exact absurd hn (hl s h2 h0)
  | cons x r =>
    unfold ND.nextOf
    simp only []
    cases hf : (x :: r).find? (fun y => decide (cur < y)) with
    | none => simp
    | some y => simpa using List.mem_of_find?_eq_some hf
theorem start_in {m : Int} {s : Nat} {nd n own cur : Int} (hs : s < 256) (h : chk m s nd n = 0) (ho : 0 ≤ own ∧ own < n) :
    0 ≤ (startOf m s nd n own cur).1 ∧ (startOf m s nd n own cur).1 < n ∧ (startOf m s nd n own cur).2.2 = 0 := by
  have hn := chk_ok h
  have h' := h
  unfold chk at h'
  rw [if_neg (by omega)] at h'
  unfold startOf
  rw [if_pos h, if_pos (show nodeE own n = 0 from if_pos ho)]
  by_cases h2 : m = 2
  · rw [if_pos h2]
    rw [if_neg (by omega), if_pos (by omega)] at h'
    unfold setE at h'
    by_cases h0 : s = 0
    · rw [if_pos h0] at h'; omega
    · rw [if_neg h0] at h'
      by_cases hB : belowB (ND.nodes s) n = true
      · have hm := next_mem hs h0 cur
        have h1 := (ND.pre_mem hm).1
        unfold belowB at hB
        have h3 := List.all_eq_true.1 hB _ hm
        exact ⟨h1, by simpa using h3, rfl⟩
      · rw [if_neg hB] at h'; omega
  · rw [if_neg h2]
    by_cases h3 : m = 3
    · rw [if_pos h3]
      rw [if_neg (by omega), if_neg (by omega), if_pos h3] at h'
      unfold nodeE at h'
      by_cases hx : 0 ≤ nd ∧ nd < n
      · exact ⟨hx.1, hx.2, rfl⟩
      · rw [if_neg hx] at h'; omega
    · rw [if_neg h3]; exact ⟨ho.1, ho.2, rfl⟩

theorem row3 (w : World) (t : TypeId) : (w.alloc (.cells #[.int .i64 0, .int .i64 0, .int .i64 0] t)).rowIs w.heap.size t 3 (fun _ => .int .i64 0) :=
  World.rowIs_alloc w #[.int .i64 0, .int .i64 0, .int .i64 0] t _ (by
    intro i hi
    match i, hi with
    | 0, _ => rfl
    | 1, _ => rfl
    | 2, _ => rfl)
theorem put3 {w : World} {b : Nat} {t : TypeId} {g : Nat → Value} (h : w.rowIs b t 3 g) (x y z : Value) :
    (((w.setCell ⟨b, 0, none⟩ x).setCell ⟨b, 1, none⟩ y).setCell ⟨b, 2, none⟩ z).cell? ⟨b, 0, none⟩ = some x ∧ (((w.setCell ⟨b, 0, none⟩ x).setCell ⟨b, 1, none⟩ y).setCell ⟨b, 2, none⟩ z).cell? ⟨b, 1, none⟩ = some y ∧
    (((w.setCell ⟨b, 0, none⟩ x).setCell ⟨b, 1, none⟩ y).setCell ⟨b, 2, none⟩ z).cell? ⟨b, 2, none⟩ = some z ∧ Kept [b] w (((w.setCell ⟨b, 0, none⟩ x).setCell ⟨b, 1, none⟩ y).setCell ⟨b, 2, none⟩ z) := by
  have h3 := ((h.set 0 x).set 1 y).set 2 z
  refine ⟨(h3.cell (i := 0) (by omega)).trans (by simp), (h3.cell (i := 1) (by omega)).trans (by simp), (h3.cell (i := 2) (by omega)).trans (by simp), ?_⟩
  exact (((Kept.refl [b] w).setCell (fun _ => by simp) x).setCell (fun _ => by simp) y).setCell (fun _ => by simp) z

/-- What Node tells: node, start, cursor and error. -/
def NodeIs (n fr : Int) (cL : Nat) (cz : Nat → Int) (dL : Nat) (L : Nat → Nat) (Z : Nat → Nat → Int) (m : Int) (s : Nat) (nd cpu cur : Int) (mL : Nat) (mz : Nat → Bool) (x st cu e : Int) : Prop :=
  (tchk n fr cL cz dL L Z ≠ 0 ∧ x = 0 ∧ st = 0 ∧ cu = 0 ∧ e = tchk n fr cL cz dL L Z) ∨
  (tchk n fr cL cz dL L Z = 0 ∧ ¬ (0 ≤ cpu ∧ cpu < cL) ∧ x = 0 ∧ st = 0 ∧ cu = 0 ∧ e = 11) ∨
  (tchk n fr cL cz dL L Z = 0 ∧ ∃ k : Nat, cpu = k ∧ k < cL ∧ chk m s nd n ≠ 0 ∧ x = 0 ∧ st = 0 ∧ cu = 0 ∧ e = chk m s nd n) ∨
  (tchk n fr cL cz dL L Z = 0 ∧ ∃ k : Nat, cpu = k ∧ k < cL ∧ chk m s nd n = 0 ∧ ∃ a : Nat, (a : Int) < n ∧ (startOf m s nd n (cz k) cur).1 = a ∧ st = a ∧ cu = (startOf m s nd n (cz k) cur).2.1 ∧
    ∃ r, NearIs (Z a) n.toNat (fun y => ND.hasB (permS m s nd n) y && mayB mL mz y) r ∧ x = (r.getD 0 : Nat) ∧ e = if r.isSome then 0 else 5)
set_option maxHeartbeats 2000000 in
set_option maxRecDepth 100000 in
theorem node_any {n fr : Int} {cA : Option Addr} {cL cC : Nat} {cz : Nat → Int} {dA : Option Addr} {dL dC : Nat} {L : Nat → Nat} {Z : Nat → Nat → Int} {w : World} (h : At w cA cL cz dA dL L Z)
    (m : Int) (s : Nat) (nd cpu cur : Int) (hs : s < 256) {mA : Option Addr} {mL mC : Nat} {mz : Nat → Bool} (hm : IsBools w mA mL mz) (hml : mL ≤ maxLen) :
    Calls Try.prog 7 #[tval n fr cA cL cC dA dL dC, pol m s nd, .int .i64 cpu, .int .i64 cur, .slice mA mL mC] w fun e w' => ∃ x st cu er, e = .returned (.tuple #[.agg #[.int .i64 x, .int .i64 st, .int .i64 cu], .int .i64 er]) ∧
      NodeIs n fr cL cz dL L Z m s nd cpu cur mL mz x st cu er ∧ Kept [] w w' := by
  have hK0 := (((Kept.refl [] w).alloc (.cells #[.int .i64 n, .int .i64 fr, .slice cA cL cC, .slice dA dL dC] 37)).alloc (.cells #[.int .i64 m, .int .u8 s, .int .i64 nd] 41)).alloc (.cells #[.int .i64 0, .int .i64 0, .int .i64 0] 33)
  have hchk := TP.check_any n fr cC dC (h.kept hK0)
  have HK0 := hide hK0
  unfold tval pol
  unfold tval at hchk
  by_cases hok : tchk n fr cL cz dL L Z = 0
  · rw [hok] at hchk
    have hA := h.kept hK0
    have hMb := hm.kept hK0
    clear hK0
    obtain ⟨hcn, hcp, hdi⟩ := tchk_ok hok
    have n1 := hcn.1.1
    have n8 := hcn.1.2
    by_cases hcpu : 0 ≤ cpu ∧ cpu < cL
    · obtain ⟨k, rfl⟩ := Int.eq_ofNat_of_zero_le hcpu.1
      have hkc : k < cL := by omega
      have hkci : (k : Int) < (cL : Int) := by omega
      obtain ⟨own, hown⟩ : ∃ o, o = cz k := ⟨_, rfl⟩
      have ho : 0 ≤ own ∧ own < n := by rw [hown]; exact hcp k hkc
      have hst := PO.start_any m s nd n own cur hs
      by_cases hp : chk m s nd n = 0
      · obtain ⟨s0, s1, se⟩ := start_in (cur := cur) hs hp ho
        obtain ⟨a, ha⟩ := Int.eq_ofNat_of_zero_le s0
        obtain ⟨cu, hcu⟩ : ∃ c, c = (startOf m s nd n own cur).2.1 := ⟨_, rfl⟩
        rw [ha, se, ← hcu] at hst
        have hpm := PO.permitted_any m s nd n hs
        rw [hp] at hpm
        obtain ⟨ps, hps⟩ : ∃ p, p = permS m s nd n := ⟨_, rfl⟩
        have hps2 : ps < 256 := by
          rw [hps]
          unfold permS
          rw [if_pos hp]
          split
          · exact hs
          · exact ND.run_lt 0 _ (by omega)
        rw [← hps] at hpm
        obtain ⟨N, rfl⟩ := Int.eq_ofNat_of_zero_le (show 0 ≤ n by omega)
        have haN : a < N := by omega
        have HF := hide (show ∀ r, NearIs (Z a) N (fun y => ND.hasB ps y && mayB mL mz y) r → NodeIs N fr cL cz dL L Z m s nd k cur mL mz (r.getD 0 : Nat) a cu (if r.isSome then 0 else 5) from
          fun r hr => .inr (.inr (.inr ⟨hok, k, rfl, hkc, hp, a, by omega, by rw [← hown]; exact ha, rfl, by rw [← hown]; exact hcu, r, by rw [← hps]; exact hr, rfl, rfl⟩)))
        have hnear : ∀ w', Kept [] w w' → Calls Try.prog 20 #[tval N fr cA cL cC dA dL dC, .int .i64 a, .int .u8 ps, .slice mA mL mC] w' fun e w'' => ∃ r : Option Nat, e = .returned (.tuple #[.int .i64 (r.getD 0 : Nat), .bool r.isSome]) ∧ NearIs (Z a) N (fun x => ND.hasB ps x && mayB mL mz x) r ∧ Kept [] w' w'' :=
          fun w' hk => nearest_ok (h.kept hk) hok a haN ps hps2 (hm.kept hk) hml
        unfold tval at hnear
        unfold pol at hst hpm
        have HA := hide h
        have HO := hide hown
        clear hp se ha hcu hps h hm hcn hcp hdi hcpu ho hMb hA hown
        go_enter Try.func7, Try.ntmps7
        go_wp2_with fail
        refine hchk.mono ?_
        rintro e w1 ⟨rfl, hK⟩
        have hB := hK.row (row3 _ _) (by simp)
        rw [show (((w.alloc (.cells #[.int .i64 N, .int .i64 fr, .slice cA cL cC, .slice dA dL dC] 37)).alloc (.cells #[.int .i64 m, .int .u8 s, .int .i64 nd] 41)).heap.size) = w.heap.size + 1 + 1 from by simp] at hB
        have t0 := hK.cell ((((Kept.refl [] (w.alloc (.cells #[.int .i64 N, .int .i64 fr, .slice cA cL cC, .slice dA dL dC] 37))).alloc (.cells #[.int .i64 m, .int .u8 s, .int .i64 nd] 41)).alloc (.cells #[.int .i64 0, .int .i64 0, .int .i64 0] 33)).cell (p := ⟨w.heap.size, 0, none⟩) (v := .int .i64 N) (by simp) (by simp)) (by simp)
        have t1 := hK.cell ((((Kept.refl [] (w.alloc (.cells #[.int .i64 N, .int .i64 fr, .slice cA cL cC, .slice dA dL dC] 37))).alloc (.cells #[.int .i64 m, .int .u8 s, .int .i64 nd] 41)).alloc (.cells #[.int .i64 0, .int .i64 0, .int .i64 0] 33)).cell (p := ⟨w.heap.size, 1, none⟩) (v := .int .i64 fr) (by simp) (by simp)) (by simp)
        have t2 := hK.cell ((((Kept.refl [] (w.alloc (.cells #[.int .i64 N, .int .i64 fr, .slice cA cL cC, .slice dA dL dC] 37))).alloc (.cells #[.int .i64 m, .int .u8 s, .int .i64 nd] 41)).alloc (.cells #[.int .i64 0, .int .i64 0, .int .i64 0] 33)).cell (p := ⟨w.heap.size, 2, none⟩) (v := .slice cA cL cC) (by simp) (by simp)) (by simp)
        have t3 := hK.cell ((((Kept.refl [] (w.alloc (.cells #[.int .i64 N, .int .i64 fr, .slice cA cL cC, .slice dA dL dC] 37))).alloc (.cells #[.int .i64 m, .int .u8 s, .int .i64 nd] 41)).alloc (.cells #[.int .i64 0, .int .i64 0, .int .i64 0] 33)).cell (p := ⟨w.heap.size, 3, none⟩) (v := .slice dA dL dC) (by simp) (by simp)) (by simp)
        have q0 := hK.cell (((Kept.refl [] ((w.alloc (.cells #[.int .i64 N, .int .i64 fr, .slice cA cL cC, .slice dA dL dC] 37)).alloc (.cells #[.int .i64 m, .int .u8 s, .int .i64 nd] 41))).alloc (.cells #[.int .i64 0, .int .i64 0, .int .i64 0] 33)).cell (p := ⟨w.heap.size + 1, 0, none⟩) (v := .int .i64 m) (by simp) (by simp)) (by simp)
        have q1 := hK.cell (((Kept.refl [] ((w.alloc (.cells #[.int .i64 N, .int .i64 fr, .slice cA cL cC, .slice dA dL dC] 37)).alloc (.cells #[.int .i64 m, .int .u8 s, .int .i64 nd] 41))).alloc (.cells #[.int .i64 0, .int .i64 0, .int .i64 0] 33)).cell (p := ⟨w.heap.size + 1, 1, none⟩) (v := .int .u8 s) (by simp) (by simp)) (by simp)
        have q2 := hK.cell (((Kept.refl [] ((w.alloc (.cells #[.int .i64 N, .int .i64 fr, .slice cA cL cC, .slice dA dL dC] 37)).alloc (.cells #[.int .i64 m, .int .u8 s, .int .i64 nd] 41))).alloc (.cells #[.int .i64 0, .int .i64 0, .int .i64 0] 33)).cell (p := ⟨w.heap.size + 1, 2, none⟩) (v := .int .i64 nd) (by simp) (by simp)) (by simp)
        have K1 := hide (HK0.out.next hK)
        have hbb : w.heap.size < w.heap.size + 1 + 1 := by omega
        clear hK hchk HK0
        obtain ⟨bc, oc, hcA, hcc, -⟩ := (HA.out.kept K1.out).cpus k hkc
        subst hcA
        rw [← HO.out] at hcc
        go_wp2_with fail
        go_region_held3 (fun w' => w'.cell? ⟨w.heap.size, 0, none⟩ = some (.int .i64 N) ∧ w'.cell? ⟨w.heap.size, 2, none⟩ = some (.slice (some ⟨bc, oc, none⟩) cL cC) ∧ w'.cell? ⟨w.heap.size + 1, 0, none⟩ = some (.int .i64 m) ∧ w'.cell? ⟨w.heap.size + 1, 1, none⟩ = some (.int .u8 s) ∧ w'.cell? ⟨w.heap.size + 1, 2, none⟩ = some (.int .i64 nd) ∧ w'.cell? ⟨bc, oc + k, none⟩ = some (.int .i64 own)) (go_keep) (first
          | (go_at_call 18; refine (hst _).mono ?_; rintro e w2 ⟨rfl, hK2⟩; have t0' := hK2.cell t0 (by simp); have t1' := hK2.cell t1 (by simp); have t2' := hK2.cell t2 (by simp); have t3' := hK2.cell t3 (by simp); have q0' := hK2.cell q0 (by simp); have q1' := hK2.cell q1 (by simp); have q2' := hK2.cell q2 (by simp); have hcc' := hK2.cell hcc (by simp)))
        have hB2 := hK2.row hB.drew (by simp)
        have K2 := hide (K1.out.drew.next hK2)
        clear hK2 hB t0 t1 t2 t3 q0 q1 q2 hcc hcc' hst
        go_wp2_with fail
        refine (hpm _).mono ?_
        rintro e w3 ⟨rfl, hK3⟩
        have t0 := hK3.cell t0' (by simp)
        have t1 := hK3.cell t1' (by simp)
        have t2 := hK3.cell t2' (by simp)
        have t3 := hK3.cell t3' (by simp)
        have hB3 := hK3.row hB2 (by simp)
        have K3 := hide (K2.out.next hK3)
        have hnear := hnear w3 (K2.out.next hK3)
        clear hK3 hB2 hpm t0' t1' t2' t3' q0' q1' q2' K2
        go_wp2_with fail
        refine hnear.mono ?_
        rintro e w4 ⟨r, rfl, hr, hK4⟩
        have HNI := hide (HF.out r hr)
        obtain ⟨xv, hxv⟩ : ∃ xv : Int, xv = (r.getD 0 : Nat) := ⟨_, rfl⟩
        obtain ⟨bs, hbs⟩ : ∃ bs, bs = r.isSome := ⟨_, rfl⟩
        rw [← hxv, ← hbs] at HNI
        rw [← hxv, ← hbs]
        have hB := hK4.row hB3 (by simp)
        have K4 := hide (K3.out.next hK4)
        have hw4 : w.heap.size + 1 + 1 < w4.heap.size := (hK4.row hB3 (by simp)).lt
        clear hr hK4 hB3 hnear HF hxv hbs
        have z0 := hB.cell (i := 0) (by omega)
        have z1 := hB.cell (i := 1) (by omega)
        have z2 := hB.cell (i := 2) (by omega)
        have y0 := hB.frozen 0
        have y1 := hB.frozen 1
        have y2 := hB.frozen 2
        obtain ⟨r0, r1, r2, hK2⟩ := put3 hB (.int .i64 xv) (.int .i64 a) (.int .i64 cu)
        have K9 := hide (K4.out.trans hK2 (fun x hx hl => by simp at hx; omega))
        clear hK2 hB
        cases bs with
        | false =>
          go_wp2
          generalize ((w4.setCell ⟨w.heap.size + 1 + 1, 0, none⟩ (.int .i64 xv)).setCell ⟨w.heap.size + 1 + 1, 1, none⟩ (.int .i64 a)).setCell ⟨w.heap.size + 1 + 1, 2, none⟩ (.int .i64 cu) = w9 at r0 r1 r2 K9 ⊢
          have hka := (Kept.refl [] w9).alloc (.cells #[.int .i64 xv, .int .i64 a, .int .i64 cu] 33)
          have r0 := hka.cell r0 (by simp)
          have r1 := hka.cell r1 (by simp)
          have r2 := hka.cell r2 (by simp)
          have K9 := hide (K9.out.next hka)
          generalize w9.alloc (.cells #[.int .i64 xv, .int .i64 a, .int .i64 cu] 33) = w10 at r0 r1 r2 K9 ⊢
          (try simp only [Exit.inBlock, Exit.then])
          refine bodyPost_ret (by simp [results, Try.results7, go_sem, r0, r1, r2]; try rfl) rfl ?_
          exact ⟨xv, a, cu, 5, rfl, HNI.out, K9.out⟩
        | true =>
          go_wp2
          generalize ((w4.setCell ⟨w.heap.size + 1 + 1, 0, none⟩ (.int .i64 xv)).setCell ⟨w.heap.size + 1 + 1, 1, none⟩ (.int .i64 a)).setCell ⟨w.heap.size + 1 + 1, 2, none⟩ (.int .i64 cu) = w9 at r0 r1 r2 K9 ⊢
          have hka := (Kept.refl [] w9).alloc (.cells #[.int .i64 xv, .int .i64 a, .int .i64 cu] 33)
          have r0 := hka.cell r0 (by simp)
          have r1 := hka.cell r1 (by simp)
          have r2 := hka.cell r2 (by simp)
          have K9 := hide (K9.out.next hka)
          generalize w9.alloc (.cells #[.int .i64 xv, .int .i64 a, .int .i64 cu] 33) = w10 at r0 r1 r2 K9 ⊢
          (try simp only [Exit.inBlock, Exit.then])
          refine bodyPost_ret (by simp [results, Try.results7, go_sem, r0, r1, r2]; try rfl) rfl ?_
          exact ⟨xv, a, cu, 0, rfl, HNI.out, K9.out⟩
      · have he : startOf m s nd n own cur = (0, 0, chk m s nd n) := if_neg hp
        rw [he] at hst
        simp only [] at hst
        obtain ⟨c, hc⟩ : ∃ c, c = chk m s nd n := ⟨_, rfl⟩
        rw [← hc] at hst
        have hne : (c != 0) = true := by rw [hc]; simpa using hp
        have HF := hide (show NodeIs n fr cL cz dL L Z m s nd k cur mL mz 0 0 0 c from .inr (.inr (.inl ⟨hok, k, rfl, hkc, hp, rfl, rfl, rfl, hc⟩)))
        unfold pol at hst
        have HA := hide h
        have HO := hide hown
        clear hp hc he h hm hcn hcp hdi hcpu ho hMb hA hown
        go_enter Try.func7, Try.ntmps7
        go_wp2_with fail
        refine hchk.mono ?_
        rintro e w1 ⟨rfl, hK⟩
        have hB := hK.row (row3 _ _) (by simp)
        rw [show (((w.alloc (.cells #[.int .i64 n, .int .i64 fr, .slice cA cL cC, .slice dA dL dC] 37)).alloc (.cells #[.int .i64 m, .int .u8 s, .int .i64 nd] 41)).heap.size) = w.heap.size + 1 + 1 from by simp] at hB
        have t0 := hK.cell ((((Kept.refl [] (w.alloc (.cells #[.int .i64 n, .int .i64 fr, .slice cA cL cC, .slice dA dL dC] 37))).alloc (.cells #[.int .i64 m, .int .u8 s, .int .i64 nd] 41)).alloc (.cells #[.int .i64 0, .int .i64 0, .int .i64 0] 33)).cell (p := ⟨w.heap.size, 0, none⟩) (v := .int .i64 n) (by simp) (by simp)) (by simp)
        have t1 := hK.cell ((((Kept.refl [] (w.alloc (.cells #[.int .i64 n, .int .i64 fr, .slice cA cL cC, .slice dA dL dC] 37))).alloc (.cells #[.int .i64 m, .int .u8 s, .int .i64 nd] 41)).alloc (.cells #[.int .i64 0, .int .i64 0, .int .i64 0] 33)).cell (p := ⟨w.heap.size, 1, none⟩) (v := .int .i64 fr) (by simp) (by simp)) (by simp)
        have t2 := hK.cell ((((Kept.refl [] (w.alloc (.cells #[.int .i64 n, .int .i64 fr, .slice cA cL cC, .slice dA dL dC] 37))).alloc (.cells #[.int .i64 m, .int .u8 s, .int .i64 nd] 41)).alloc (.cells #[.int .i64 0, .int .i64 0, .int .i64 0] 33)).cell (p := ⟨w.heap.size, 2, none⟩) (v := .slice cA cL cC) (by simp) (by simp)) (by simp)
        have t3 := hK.cell ((((Kept.refl [] (w.alloc (.cells #[.int .i64 n, .int .i64 fr, .slice cA cL cC, .slice dA dL dC] 37))).alloc (.cells #[.int .i64 m, .int .u8 s, .int .i64 nd] 41)).alloc (.cells #[.int .i64 0, .int .i64 0, .int .i64 0] 33)).cell (p := ⟨w.heap.size, 3, none⟩) (v := .slice dA dL dC) (by simp) (by simp)) (by simp)
        have q0 := hK.cell (((Kept.refl [] ((w.alloc (.cells #[.int .i64 n, .int .i64 fr, .slice cA cL cC, .slice dA dL dC] 37)).alloc (.cells #[.int .i64 m, .int .u8 s, .int .i64 nd] 41))).alloc (.cells #[.int .i64 0, .int .i64 0, .int .i64 0] 33)).cell (p := ⟨w.heap.size + 1, 0, none⟩) (v := .int .i64 m) (by simp) (by simp)) (by simp)
        have q1 := hK.cell (((Kept.refl [] ((w.alloc (.cells #[.int .i64 n, .int .i64 fr, .slice cA cL cC, .slice dA dL dC] 37)).alloc (.cells #[.int .i64 m, .int .u8 s, .int .i64 nd] 41))).alloc (.cells #[.int .i64 0, .int .i64 0, .int .i64 0] 33)).cell (p := ⟨w.heap.size + 1, 1, none⟩) (v := .int .u8 s) (by simp) (by simp)) (by simp)
        have q2 := hK.cell (((Kept.refl [] ((w.alloc (.cells #[.int .i64 n, .int .i64 fr, .slice cA cL cC, .slice dA dL dC] 37)).alloc (.cells #[.int .i64 m, .int .u8 s, .int .i64 nd] 41))).alloc (.cells #[.int .i64 0, .int .i64 0, .int .i64 0] 33)).cell (p := ⟨w.heap.size + 1, 2, none⟩) (v := .int .i64 nd) (by simp) (by simp)) (by simp)
        have K1 := hide (HK0.out.next hK)
        have hbb : w.heap.size < w.heap.size + 1 + 1 := by omega
        clear hK hchk HK0
        obtain ⟨bc, oc, hcA, hcc, -⟩ := (HA.out.kept K1.out).cpus k hkc
        subst hcA
        rw [← HO.out] at hcc
        go_wp2_with fail
        go_region_held3 (fun w' => w'.cell? ⟨w.heap.size, 0, none⟩ = some (.int .i64 n) ∧ w'.cell? ⟨w.heap.size, 2, none⟩ = some (.slice (some ⟨bc, oc, none⟩) cL cC) ∧ w'.cell? ⟨w.heap.size + 1, 0, none⟩ = some (.int .i64 m) ∧ w'.cell? ⟨w.heap.size + 1, 1, none⟩ = some (.int .u8 s) ∧ w'.cell? ⟨w.heap.size + 1, 2, none⟩ = some (.int .i64 nd) ∧ w'.cell? ⟨bc, oc + k, none⟩ = some (.int .i64 own)) (go_keep) (first
          | (go_at_call 18; refine (hst _).mono ?_; rintro e w2 ⟨rfl, hK2⟩; have t0' := hK2.cell t0 (by simp); have t1' := hK2.cell t1 (by simp); have t2' := hK2.cell t2 (by simp); have t3' := hK2.cell t3 (by simp); have q0' := hK2.cell q0 (by simp); have q1' := hK2.cell q1 (by simp); have q2' := hK2.cell q2 (by simp); have hcc' := hK2.cell hcc (by simp)))
        have hB2 := hK2.row hB.drew (by simp)
        have K2 := hide (K1.out.drew.next hK2)
        clear hK2 hB t0 t1 t2 t3 q0 q1 q2 hcc hcc' hst
        have hB := hB2
        clear hB2
        have z0 := hB.cell (i := 0) (by omega)
        have z1 := hB.cell (i := 1) (by omega)
        have z2 := hB.cell (i := 2) (by omega)
        have y0 := hB.frozen 0
        have y1 := hB.frozen 1
        have y2 := hB.frozen 2
        obtain ⟨r0, r1, r2, hK2⟩ := put3 hB (.int .i64 0) (.int .i64 0) (.int .i64 0)
        have K9 := hide (K2.out.trans hK2 (fun x hx hl => by simp at hx; omega))
        clear hK2 hB
        go_wp2
        generalize ((w2.setCell ⟨w.heap.size + 1 + 1, 0, none⟩ (.int .i64 0)).setCell ⟨w.heap.size + 1 + 1, 1, none⟩ (.int .i64 0)).setCell ⟨w.heap.size + 1 + 1, 2, none⟩ (.int .i64 0) = w9 at r0 r1 r2 K9 ⊢
        (try simp only [Exit.inBlock, Exit.then])
        refine bodyPost_ret (by simp [results, Try.results7, go_sem, r0, r1, r2]; try rfl) rfl ?_
        exact ⟨0, 0, 0, c, rfl, HF.out, K9.out⟩
    · have HF := hide (show NodeIs n fr cL cz dL L Z m s nd cpu cur mL mz 0 0 0 11 from .inr (.inl ⟨hok, hcpu, rfl, rfl, rfl, rfl⟩))
      rcases (show cpu < 0 ∨ (0 ≤ cpu ∧ (cL : Int) ≤ cpu) from by omega) with h1 | ⟨h1, h2⟩
      all_goals
        clear hcpu hA hMb h hm hcn hcp hdi
        go_enter Try.func7, Try.ntmps7
        go_wp2_with fail
        refine hchk.mono ?_
        rintro e w1 ⟨rfl, hK⟩
        have hB := hK.row (row3 _ _) (by simp)
        rw [show (((w.alloc (.cells #[.int .i64 n, .int .i64 fr, .slice cA cL cC, .slice dA dL dC] 37)).alloc (.cells #[.int .i64 m, .int .u8 s, .int .i64 nd] 41)).heap.size) = w.heap.size + 1 + 1 from by simp] at hB
        have t0 := hK.cell ((((Kept.refl [] (w.alloc (.cells #[.int .i64 n, .int .i64 fr, .slice cA cL cC, .slice dA dL dC] 37))).alloc (.cells #[.int .i64 m, .int .u8 s, .int .i64 nd] 41)).alloc (.cells #[.int .i64 0, .int .i64 0, .int .i64 0] 33)).cell (p := ⟨w.heap.size, 0, none⟩) (v := .int .i64 n) (by simp) (by simp)) (by simp)
        have t1 := hK.cell ((((Kept.refl [] (w.alloc (.cells #[.int .i64 n, .int .i64 fr, .slice cA cL cC, .slice dA dL dC] 37))).alloc (.cells #[.int .i64 m, .int .u8 s, .int .i64 nd] 41)).alloc (.cells #[.int .i64 0, .int .i64 0, .int .i64 0] 33)).cell (p := ⟨w.heap.size, 1, none⟩) (v := .int .i64 fr) (by simp) (by simp)) (by simp)
        have t2 := hK.cell ((((Kept.refl [] (w.alloc (.cells #[.int .i64 n, .int .i64 fr, .slice cA cL cC, .slice dA dL dC] 37))).alloc (.cells #[.int .i64 m, .int .u8 s, .int .i64 nd] 41)).alloc (.cells #[.int .i64 0, .int .i64 0, .int .i64 0] 33)).cell (p := ⟨w.heap.size, 2, none⟩) (v := .slice cA cL cC) (by simp) (by simp)) (by simp)
        have t3 := hK.cell ((((Kept.refl [] (w.alloc (.cells #[.int .i64 n, .int .i64 fr, .slice cA cL cC, .slice dA dL dC] 37))).alloc (.cells #[.int .i64 m, .int .u8 s, .int .i64 nd] 41)).alloc (.cells #[.int .i64 0, .int .i64 0, .int .i64 0] 33)).cell (p := ⟨w.heap.size, 3, none⟩) (v := .slice dA dL dC) (by simp) (by simp)) (by simp)
        have q0 := hK.cell (((Kept.refl [] ((w.alloc (.cells #[.int .i64 n, .int .i64 fr, .slice cA cL cC, .slice dA dL dC] 37)).alloc (.cells #[.int .i64 m, .int .u8 s, .int .i64 nd] 41))).alloc (.cells #[.int .i64 0, .int .i64 0, .int .i64 0] 33)).cell (p := ⟨w.heap.size + 1, 0, none⟩) (v := .int .i64 m) (by simp) (by simp)) (by simp)
        have q1 := hK.cell (((Kept.refl [] ((w.alloc (.cells #[.int .i64 n, .int .i64 fr, .slice cA cL cC, .slice dA dL dC] 37)).alloc (.cells #[.int .i64 m, .int .u8 s, .int .i64 nd] 41))).alloc (.cells #[.int .i64 0, .int .i64 0, .int .i64 0] 33)).cell (p := ⟨w.heap.size + 1, 1, none⟩) (v := .int .u8 s) (by simp) (by simp)) (by simp)
        have q2 := hK.cell (((Kept.refl [] ((w.alloc (.cells #[.int .i64 n, .int .i64 fr, .slice cA cL cC, .slice dA dL dC] 37)).alloc (.cells #[.int .i64 m, .int .u8 s, .int .i64 nd] 41))).alloc (.cells #[.int .i64 0, .int .i64 0, .int .i64 0] 33)).cell (p := ⟨w.heap.size + 1, 2, none⟩) (v := .int .i64 nd) (by simp) (by simp)) (by simp)
        have K1 := hide (HK0.out.next hK)
        have hbb : w.heap.size < w.heap.size + 1 + 1 := by omega
        clear hK hchk HK0
        have z0 := hB.cell (i := 0) (by omega)
        have z1 := hB.cell (i := 1) (by omega)
        have z2 := hB.cell (i := 2) (by omega)
        have y0 := hB.frozen 0
        have y1 := hB.frozen 1
        have y2 := hB.frozen 2
        obtain ⟨r0, r1, r2, hK2⟩ := put3 hB (.int .i64 0) (.int .i64 0) (.int .i64 0)
        have K2 := hide (K1.out.trans hK2 (fun x hx hl => by simp at hx; omega))
        clear hK2 hB
        go_wp2
        generalize ((w1.setCell ⟨w.heap.size + 1 + 1, 0, none⟩ (.int .i64 0)).setCell ⟨w.heap.size + 1 + 1, 1, none⟩ (.int .i64 0)).setCell ⟨w.heap.size + 1 + 1, 2, none⟩ (.int .i64 0) = w9 at r0 r1 r2 K2 ⊢
        (try simp only [Exit.inBlock, Exit.then])
        refine bodyPost_ret (by simp [results, Try.results7, go_sem, r0, r1, r2]; try rfl) rfl ?_
        exact ⟨0, 0, 0, 11, rfl, HF.out, K2.out⟩
  · have hne : (tchk n fr cL cz dL L Z != 0) = true := by simpa using hok
    obtain ⟨c, hc⟩ : ∃ c, c = tchk n fr cL cz dL L Z := ⟨_, rfl⟩
    rw [← hc] at hchk hne
    have HC := hide hc
    have HN := hide hok
    clear hc hok h hm hK0
    go_enter Try.func7, Try.ntmps7
    go_wp2_with fail
    refine hchk.mono ?_
    rintro e w1 ⟨rfl, hK⟩
    have hB := hK.row (row3 _ _) (by simp)
    rw [show (((w.alloc (.cells #[.int .i64 n, .int .i64 fr, .slice cA cL cC, .slice dA dL dC] 37)).alloc (.cells #[.int .i64 m, .int .u8 s, .int .i64 nd] 41)).heap.size) = w.heap.size + 1 + 1 from by simp] at hB
    have z0 := hB.cell (i := 0) (by omega)
    have z1 := hB.cell (i := 1) (by omega)
    have z2 := hB.cell (i := 2) (by omega)
    have y0 := hB.frozen 0
    have y1 := hB.frozen 1
    have y2 := hB.frozen 2
    obtain ⟨r0, r1, r2, hK2⟩ := put3 hB (.int .i64 0) (.int .i64 0) (.int .i64 0)
    have K1 := hide ((HK0.out.next hK).trans hK2 (fun x hx hl => by simp at hx; omega))
    clear hK hchk hK2 hB
    go_wp2
    generalize ((w1.setCell ⟨w.heap.size + 1 + 1, 0, none⟩ (.int .i64 0)).setCell ⟨w.heap.size + 1 + 1, 1, none⟩ (.int .i64 0)).setCell ⟨w.heap.size + 1 + 1, 2, none⟩ (.int .i64 0) = w9 at r0 r1 r2 K1 ⊢
    (try simp only [Exit.inBlock, Exit.then])
    refine bodyPost_ret (by simp [results, Try.results7, go_sem, r0, r1, r2]; try rfl) rfl ?_
    exact ⟨0, 0, 0, c, rfl, .inl ⟨HN.out, rfl, rfl, rfl, HC.out⟩, K1.out⟩
end Go.Proofs.Ytnokpecdkibddac.CH
