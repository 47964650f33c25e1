
/-
  No statement of the program: the document's answer of layer 11 (messuageref11: Node), over this seat's translation: the same as the program's.
-/
import Derived.Test.YtnokpecdkibddacChoose
import Derived.Test.YtnokpecdkibddacPolRef
import Derived.Test.YtnokpecdkibddacTopoRef
import Derived.Test.YtnokpecdkibddacZoneRef
namespace Go.Proofs.Ytnokpecdkibddac.CH
open Go.RowKit TP ZN PO

theorem list_some {D : Nat → Int} {n j : Nat} {p : Nat → Bool} {l : List Nat} (hpw : l.Pairwise (nearer D)) (hmem : ∀ x, x ∈ l ↔ x < n) (hj : j < l.length) (hf : ∀ i, i < j → p (l.getD i 0) = false) (hm : p (l.getD j 0) = true) : NearIs D n p (some (l.getD j 0)) := by
  have hg : ∀ i, i < l.length → l.getD i 0 ∈ l := fun i hi => by rw [List.getD_eq_getElem?_getD, List.getElem?_eq_getElem hi]; exact List.getElem_mem hi
  refine NearIs.mk (fun x hx => ?_) (fun h => by cases h)
  simp only [Option.some.injEq] at hx
  subst hx
  refine ⟨(hmem _).1 (hg j hj), hm, fun y hy hp => ?_⟩
  obtain ⟨i, hi, e⟩ := List.getElem_of_mem ((hmem y).2 hy)
  have e2 : l.getD i 0 = y := by rw [List.getD_eq_getElem?_getD, List.getElem?_eq_getElem hi]; exact e
  rcases Nat.lt_trichotomy i j with hij | hij | hij
  · have := hf i hij
    rw [e2, hp] at this; cases this
  · left; rw [← e2, hij]
  · right
    have := List.pairwise_iff_getElem.1 hpw j i hj hi hij
    rw [e] at this
    rw [List.getD_eq_getElem?_getD, List.getElem?_eq_getElem hj]
    exact this
theorem list_none {D : Nat → Int} {n : Nat} {p : Nat → Bool} {l : List Nat} (hmem : ∀ x, x ∈ l ↔ x < n) (hf : ∀ i, i < l.length → p (l.getD i 0) = false) : NearIs D n p none := by
  refine NearIs.mk (fun x hx => by cases hx) (fun _ y hy => ?_)
  obtain ⟨i, hi, e⟩ := List.getElem_of_mem ((hmem y).2 hy)
  have e2 : l.getD i 0 = y := by rw [List.getD_eq_getElem?_getD, List.getElem?_eq_getElem hi]; exact e
  rw [← e2]; exact hf i hi

set_option maxHeartbeats 2000000 in
set_option maxRecDepth 100000 in
theorem rnode_any {n fr : Int} {cA : Option Addr} {cL cC : Nat} {cz : Nat → Int} {dA : Option Addr} {dL dC : Nat} {L : Nat → Nat} {Z : Nat → Nat → Int} {w : World} (h : At w cA cL cz dA dL L Z)
    (m : Int) (s : Nat) (nd cpu cur : Int) (hs : s < 256) {mA : Option Addr} {mL mC : Nat} {mz : Nat → Bool} (hm : IsBools w mA mL mz) :
    Calls Try.prog 10 #[tval n fr cA cL cC dA dL dC, pol m s nd, .int .i64 cpu, .int .i64 cur, .slice mA mL mC] w fun e w' => ∃ x st cu er, e = .returned (.tuple #[.agg #[.int .i64 x, .int .i64 st, .int .i64 cu], .int .i64 er]) ∧
      NodeIs n fr cL cz dL L Z m s nd cpu cur mL mz x st cu er ∧ Kept [] w w' := by
  have hK0 := (((Kept.refl [] w).alloc (.cells #[.int .i64 n, .int .i64 fr, .slice cA cL cC, .slice dA dL dC] 25)).alloc (.cells #[.int .i64 m, .int .u8 s, .int .i64 nd] 27)).alloc (.cells #[.int .i64 0, .int .i64 0, .int .i64 0] 43)
  have hchk := TR.check_any n fr cC dC (h.kept hK0)
  have HK0 := hide hK0
  unfold tval pol
  unfold tval at hchk
  by_cases hok : tchk n fr cL cz dL L Z = 0
  · rw [hok] at hchk
    clear hK0
    obtain ⟨hcn, hcp, hdi⟩ := tchk_ok hok
    have n1 := hcn.1.1
    have n8 := hcn.1.2
    by_cases hcpu : 0 ≤ cpu ∧ cpu < cL
    · obtain ⟨k, rfl⟩ := Int.eq_ofNat_of_zero_le hcpu.1
      have hkc : k < cL := by omega
      have hkci : (k : Int) < (cL : Int) := by omega
      have hpc := PR.check_any m s nd n hs
      unfold pol at hpc
      by_cases hp : chk m s nd n = 0
      · rw [hp] at hpc
        obtain ⟨own, hown⟩ : ∃ o, o = cz k := ⟨_, rfl⟩
        have ho : 0 ≤ own ∧ own < n := by rw [hown]; exact hcp k hkc
        obtain ⟨s0, s1, -⟩ := start_in (cur := cur) hs hp ho
        have hso := PR.startOf_ok (cur := cur) hp (show nodeE own n = 0 from if_pos ho)
        have hst := PR.start_any m s nd own cur hs
        obtain ⟨a, ha⟩ := Int.eq_ofNat_of_zero_le s0
        obtain ⟨cu, hcu⟩ : ∃ c, c = (startOf m s nd n own cur).2.1 := ⟨_, rfl⟩
        have e1 : (PR.rstart m s nd own cur).1 = a := by rw [← ha, hso]
        have e2 : (PR.rstart m s nd own cur).2 = cu := by rw [hcu, hso]
        rw [e1, e2] at hst
        obtain ⟨N, rfl⟩ := Int.eq_ofNat_of_zero_le (show 0 ≤ n by omega)
        have haN : a < N := by omega
        have hps : (if m = 1 then s else ND.run 0 N) = permS m s nd N := by unfold permS; rw [if_pos hp, Int.toNat_natCast]
        have hpm := PR.permitted_ok m s nd N (by omega) n8
        rw [Int.toNat_natCast, hps] at hpm
        obtain ⟨ps, hpse⟩ : ∃ p, p = permS m s nd N := ⟨_, rfl⟩
        have hps2 : ps < 256 := by
          rw [hpse, ← hps]
          split
          · exact hs
          · exact ND.run_lt 0 _ (by omega)
        rw [← hpse] at hpm
        have HF := hide (show ∀ r, NearIs (Z a) N (fun y => ND.hasB ps y && mayB mL mz y) r → NodeIs N fr cL cz dL L Z m s nd k cur mL mz (r.getD 0 : Nat) a cu (if r.isSome then 0 else 5) from
          fun r hr => .inr (.inr (.inr ⟨hok, k, rfl, hkc, hp, a, by omega, by rw [← hown]; exact ha, rfl, by rw [← hown]; exact hcu, r, by rw [← hpse]; exact hr, rfl, rfl⟩)))
        have hord : ∀ w', Kept [] w w' → Calls Try.prog 24 #[tval N fr cA cL cC dA dL dC, .int .i64 a] w' fun e w'' => ∃ v, e = .returned v ∧ Ints w'' w'.heap.size 3 v (zs (rings (Z a) N 246)) ∧ Kept [] w' w'' := fun w' hk => rorder_ok (h.kept hk) hok a haN
        have hmem : ∀ x, x ∈ rings (Z a) N 246 ↔ x < N := by
          intro x
          rw [rings_mem]
          obtain ⟨-, -, hfit⟩ := hdi
          rw [Int.toNat_natCast] at hfit
          constructor
          · exact fun hh => hh.1
          · intro hx
            have h1 := (hfit a haN x hx).1
            unfold fitP at h1
            by_cases e : a = x
            · have := h1.1 e; omega
            · have := h1.2 e; omega
        have hpw := rings_pair (Z a) N 246
        have hlen := rings_len (Z a) N 246
        have n8' : N ≤ 8 := by omega
        generalize rings (Z a) N 246 = l at hord hmem hpw hlen
        have HL := hide (And.intro hmem hpw)
        have HA := hide h
        have HM := hide hm
        have HO := hide hown
        have HOrd := hide hord
        unfold pol at hst hpm
        clear hp hok ha hcu hps hpse h hm hcn hcp hdi hcpu ho hown hso e1 e2 hord hmem hpw
        go_enter Try.func10, Try.ntmps10
        go_wp2_with fail
        refine hchk.mono ?_
        rintro e w1 ⟨rfl, hK⟩
        have hB := hK.row (row3 _ _) (by simp)
        rw [show (((w.alloc (.cells #[.int .i64 N, .int .i64 fr, .slice cA cL cC, .slice dA dL dC] 25)).alloc (.cells #[.int .i64 m, .int .u8 s, .int .i64 nd] 27)).heap.size) = w.heap.size + 1 + 1 from by simp] at hB
        have t0 := hK.cell ((((Kept.refl [] (w.alloc (.cells #[.int .i64 N, .int .i64 fr, .slice cA cL cC, .slice dA dL dC] 25))).alloc (.cells #[.int .i64 m, .int .u8 s, .int .i64 nd] 27)).alloc (.cells #[.int .i64 0, .int .i64 0, .int .i64 0] 43)).cell (p := ⟨w.heap.size, 0, none⟩) (v := .int .i64 N) (by simp) (by simp)) (by simp)
        have t1 := hK.cell ((((Kept.refl [] (w.alloc (.cells #[.int .i64 N, .int .i64 fr, .slice cA cL cC, .slice dA dL dC] 25))).alloc (.cells #[.int .i64 m, .int .u8 s, .int .i64 nd] 27)).alloc (.cells #[.int .i64 0, .int .i64 0, .int .i64 0] 43)).cell (p := ⟨w.heap.size, 1, none⟩) (v := .int .i64 fr) (by simp) (by simp)) (by simp)
        have t2 := hK.cell ((((Kept.refl [] (w.alloc (.cells #[.int .i64 N, .int .i64 fr, .slice cA cL cC, .slice dA dL dC] 25))).alloc (.cells #[.int .i64 m, .int .u8 s, .int .i64 nd] 27)).alloc (.cells #[.int .i64 0, .int .i64 0, .int .i64 0] 43)).cell (p := ⟨w.heap.size, 2, none⟩) (v := .slice cA cL cC) (by simp) (by simp)) (by simp)
        have t3 := hK.cell ((((Kept.refl [] (w.alloc (.cells #[.int .i64 N, .int .i64 fr, .slice cA cL cC, .slice dA dL dC] 25))).alloc (.cells #[.int .i64 m, .int .u8 s, .int .i64 nd] 27)).alloc (.cells #[.int .i64 0, .int .i64 0, .int .i64 0] 43)).cell (p := ⟨w.heap.size, 3, none⟩) (v := .slice dA dL dC) (by simp) (by simp)) (by simp)
        have q0 := hK.cell (((Kept.refl [] ((w.alloc (.cells #[.int .i64 N, .int .i64 fr, .slice cA cL cC, .slice dA dL dC] 25)).alloc (.cells #[.int .i64 m, .int .u8 s, .int .i64 nd] 27))).alloc (.cells #[.int .i64 0, .int .i64 0, .int .i64 0] 43)).cell (p := ⟨w.heap.size + 1, 0, none⟩) (v := .int .i64 m) (by simp) (by simp)) (by simp)
        have q1 := hK.cell (((Kept.refl [] ((w.alloc (.cells #[.int .i64 N, .int .i64 fr, .slice cA cL cC, .slice dA dL dC] 25)).alloc (.cells #[.int .i64 m, .int .u8 s, .int .i64 nd] 27))).alloc (.cells #[.int .i64 0, .int .i64 0, .int .i64 0] 43)).cell (p := ⟨w.heap.size + 1, 1, none⟩) (v := .int .u8 s) (by simp) (by simp)) (by simp)
        have q2 := hK.cell (((Kept.refl [] ((w.alloc (.cells #[.int .i64 N, .int .i64 fr, .slice cA cL cC, .slice dA dL dC] 25)).alloc (.cells #[.int .i64 m, .int .u8 s, .int .i64 nd] 27))).alloc (.cells #[.int .i64 0, .int .i64 0, .int .i64 0] 43)).cell (p := ⟨w.heap.size + 1, 2, none⟩) (v := .int .i64 nd) (by simp) (by simp)) (by simp)
        have K1 := hide (HK0.out.next hK)
        clear hK hchk HK0
        go_wp2_with fail
        refine (hpc _).mono ?_
        rintro e w2 ⟨rfl, hK2⟩
        have hB := hK2.row hB (by simp)
        have t0 := hK2.cell t0 (by simp)
        have t1 := hK2.cell t1 (by simp)
        have t2 := hK2.cell t2 (by simp)
        have t3 := hK2.cell t3 (by simp)
        have q0 := hK2.cell q0 (by simp)
        have q1 := hK2.cell q1 (by simp)
        have q2 := hK2.cell q2 (by simp)
        have K2 := hide (K1.out.next hK2)
        clear hK2 hpc K1
        obtain ⟨bc, oc, hcA, hcc, -⟩ := (HA.out.kept K2.out).cpus k hkc
        subst hcA
        rw [← HO.out] at hcc
        have kz : (0 : Int) ≤ (k : Int) := by omega
        go_wp2_with fail
        go_region_held3 (fun w' => w'.cell? ⟨w.heap.size, 2, none⟩ = some (.slice (some ⟨bc, oc, none⟩) cL cC) ∧ w'.cell? ⟨w.heap.size + 1, 0, none⟩ = some (.int .i64 m) ∧ w'.cell? ⟨w.heap.size + 1, 1, none⟩ = some (.int .u8 s) ∧ w'.cell? ⟨w.heap.size + 1, 2, none⟩ = some (.int .i64 nd) ∧ w'.cell? ⟨bc, oc + k, none⟩ = some (.int .i64 own)) (go_keep) (first
          | (go_at_call 22; refine (hst _).mono ?_; rintro e w3 ⟨rfl, hK3⟩; have t0' := hK3.cell t0 (by simp); have t1' := hK3.cell t1 (by simp); have t2' := hK3.cell t2 (by simp); have t3' := hK3.cell t3 (by simp); have q0' := hK3.cell q0 (by simp); have q1' := hK3.cell q1 (by simp); have q2' := hK3.cell q2 (by simp); have hcc' := hK3.cell hcc (by simp)))
        have hB := hK3.row hB.drew (by simp)
        have K3 := hide (K2.out.drew.next hK3)
        clear hK3 t0 t1 t2 t3 q0 q1 q2 hcc hcc' hst K2
        go_wp2_with fail
        refine (hpm _).mono ?_
        rintro e w4 ⟨rfl, hK4⟩
        have t0 := hK4.cell t0' (by simp)
        have t1 := hK4.cell t1' (by simp)
        have t2 := hK4.cell t2' (by simp)
        have t3 := hK4.cell t3' (by simp)
        have hB := hK4.row hB (by simp)
        have K4 := hide (K3.out.next hK4)
        have hord := HOrd.out w4 (K3.out.next hK4)
        unfold tval at hord
        clear hK4 hpm t0' t1' t2' t3' q0' q1' q2' K3
        go_wp2_with fail
        refine hord.mono ?_
        rintro e w5 ⟨v, rfl, hI, hK5⟩
        have hB := hK5.row hB (by simp)
        have K5 := hide (K4.out.next hK5)
        obtain ⟨ao, cap, rfl, hI2⟩ := hI.isInts (fun x hx => by
          unfold zs at hx
          obtain ⟨y, hy, rfl⟩ := List.mem_map.1 hx
          have := (HL.out.1 _).1 hy
          exact WalkArith.wf_i64 (by simp; omega))
        have hlz : (zs l).length = l.length := by unfold zs; simp
        rw [hlz] at hI2
        rw [hlz]
        have hI3 : ∀ i, i < l.length → ∃ b off, ao = some ⟨b, off, none⟩ ∧ w5.cell? ⟨b, off + i, none⟩ = some (.int .i64 (l.getD i 0 : Nat)) := by
          intro i hi
          obtain ⟨b, off, e, hc, -⟩ := hI2 i hi
          refine ⟨b, off, e, ?_⟩
          rw [hc]
          congr 2
          show (zs l).getD i 0 = _
          unfold zs
          rw [List.getD_eq_getElem?_getD, List.getD_eq_getElem?_getD, List.getElem?_map, List.getElem?_eq_getElem hi]
          rfl
        have hlt : ∀ i, i < l.length → l.getD i 0 < N := fun i hi => (HL.out.1 _).1 (by rw [List.getD_eq_getElem?_getD, List.getElem?_eq_getElem hi]; exact List.getElem_mem hi)
        have HI := hide hI3
        have HB := hide hB
        clear hI hI2 hI3 hK5 hord hlz K4 t0 t1 t2 t3 hB
        have hll : l.length ≤ 4096 := by omega
        go_wp2
        go_loopw [18] (fun i wr => ∃ j : Nat, j ≤ l.length ∧ i = .int .i64 j ∧ wr = w5 ∧ ∀ i, i < j → (ND.hasB ps (l.getD i 0) && mayB mL mz (l.getD i 0)) = false) (fun i _ => l.length - (intOf i).toNat)
        case atStart => exact ⟨0, by omega, rfl, rfl, fun i hi => absurd hi (Nat.not_lt_zero _)⟩
        case round =>
          obtain ⟨j, hj, rfl, hwr, hf⟩ := hrel
          subst wr
          have HG := hide hf
          clear hf
          by_cases hjl : j < l.length
          · have hji : (j : Int) < (l.length : Int) := by omega
            obtain ⟨b, off, hao, hc⟩ := HI.out j hjl
            subst hao
            have hx8 := hlt j hjl
            obtain ⟨y, hy⟩ : ∃ y, y = l.getD j 0 := ⟨_, rfl⟩
            rw [← hy] at hc hx8
            have HY := hide hy
            clear hy
            have hhas := NR.has_any ps y hps2
            have NEXT := hide (show (ND.hasB ps y && mayB mL mz y) = false → ∀ i, i < j + 1 → (ND.hasB ps (l.getD i 0) && mayB mL mz (l.getD i 0)) = false from fun h0 i hi => by
              by_cases e : i = j
              · rw [e, ← HY.out]; exact h0
              · exact HG.out i (by omega))
            cases hby : ND.hasB ps y with
            | false =>
              rw [hby] at hhas
              have OK := hide (NEXT.out (by rw [hby]; rfl))
              go_wp2_with (go_at_call 25; refine (hhas _).mono ?_; rintro e w' ⟨rfl, hw⟩; subst w')
              go_roundw
              case rel => exact ⟨j + 1, by omega, by go_num, trivial, OK.out⟩
              case measure => simp [intOf]; omega
            | true =>
              rw [hby] at hhas
              by_cases hym : y < mL
              · have hymi : (y : Int) < (mL : Int) := by omega
                obtain ⟨mb, mo, hmA, hmc⟩ := (HM.out.kept K5.out) y hym
                subst hmA
                cases hmy : mz y with
                | false =>
                  rw [hmy] at hmc
                  have OK := hide (NEXT.out (by unfold mayB; rw [hmy]; simp))
                  go_wp2_with (go_at_call 25; refine (hhas _).mono ?_; rintro e w' ⟨rfl, hw⟩; subst w')
                  go_roundw
                  case rel => exact ⟨j + 1, by omega, by go_num, trivial, OK.out⟩
                  case measure => simp [intOf]; omega
                | true =>
                  rw [hmy] at hmc
                  have RN := list_some (p := fun y => ND.hasB ps y && mayB mL mz y) HL.out.2 HL.out.1 hjl HG.out (by rw [← HY.out]; unfold mayB; rw [hby, hmy, decide_eq_true hym]; rfl)
                  rw [← HY.out] at RN
                  have FIN := hide (HF.out _ RN)
                  have hB := HB.out
                  clear RN
                  have z0 := hB.cell (i := 0) (by omega)
                  have z1 := hB.cell (i := 1) (by omega)
                  have z2 := hB.cell (i := 2) (by omega)
                  have y0 := hB.frozen 0
                  have y1 := hB.frozen 1
                  have y2 := hB.frozen 2
                  obtain ⟨r0, r1, r2, hK2⟩ := put3 hB (.int .i64 (y : Int)) (.int .i64 a) (.int .i64 cu)
                  have K9 := hide (K5.out.trans hK2 (fun x hx hl => by simp at hx; omega))
                  clear hK2 hB
                  go_wp2_with (go_at_call 25; refine (hhas _).mono ?_; rintro e w' ⟨rfl, hw⟩; subst w')
                  generalize ((w5.setCell ⟨w.heap.size + 1 + 1, 0, none⟩ (.int .i64 (y : Int))).setCell ⟨w.heap.size + 1 + 1, 1, none⟩ (.int .i64 a)).setCell ⟨w.heap.size + 1 + 1, 2, none⟩ (.int .i64 cu) = w9 at r0 r1 r2 K9 ⊢
                  (try simp only [Exit.inBlock, Exit.then])
                  refine bodyPost_ret (by simp [results, Try.results10, go_sem, r0, r1, r2]; try rfl) rfl ?_
                  exact ⟨y, a, cu, 0, rfl, FIN.out, K9.out⟩
              · have hymi : ¬ (y : Int) < (mL : Int) := by omega
                have OK := hide (NEXT.out (by unfold mayB; rw [decide_eq_false hym]; simp))
                go_wp2_with (go_at_call 25; refine (hhas _).mono ?_; rintro e w' ⟨rfl, hw⟩; subst w')
                go_roundw
                case rel => exact ⟨j + 1, by omega, by go_num, trivial, OK.out⟩
                case measure => simp [intOf]; omega
          · have e : j = l.length := by omega
            have FIN := hide (HF.out _ (list_none (p := fun y => ND.hasB ps y && mayB mL mz y) HL.out.1 (fun i hi => HG.out i (by omega))))
            subst e
            have hB := HB.out
            have z0 := hB.cell (i := 0) (by omega)
            have z1 := hB.cell (i := 1) (by omega)
            have z2 := hB.cell (i := 2) (by omega)
            have y0 := hB.frozen 0
            have y1 := hB.frozen 1
            have y2 := hB.frozen 2
            obtain ⟨r0, r1, r2, hK2⟩ := put3 hB (.int .i64 0) (.int .i64 a) (.int .i64 cu)
            have K9 := hide (K5.out.trans hK2 (fun x hx hl => by simp at hx; omega))
            clear hK2 hB
            go_wp2
            generalize ((w5.setCell ⟨w.heap.size + 1 + 1, 0, none⟩ (.int .i64 0)).setCell ⟨w.heap.size + 1 + 1, 1, none⟩ (.int .i64 a)).setCell ⟨w.heap.size + 1 + 1, 2, none⟩ (.int .i64 cu) = w9 at r0 r1 r2 K9 ⊢
            (try simp only [Exit.inBlock, Exit.then])
            refine bodyPost_ret (by simp [results, Try.results10, go_sem, r0, r1, r2]; try rfl) rfl ?_
            exact ⟨0, a, cu, 5, rfl, FIN.out, K9.out⟩
      · obtain ⟨c, hc⟩ : ∃ c, c = chk m s nd n := ⟨_, rfl⟩
        rw [← hc] at hpc
        have hne : (c != 0) = true := by rw [hc]; simpa using hp
        have HF := hide (show NodeIs n fr cL cz dL L Z m s nd k cur mL mz 0 0 0 c from .inr (.inr (.inl ⟨hok, k, rfl, hkc, hp, rfl, rfl, rfl, hc⟩)))
        clear hp hc h hm hcn hcp hdi hcpu
        go_enter Try.func10, Try.ntmps10
        go_wp2_with fail
        refine hchk.mono ?_
        rintro e w1 ⟨rfl, hK⟩
        have hB := hK.row (row3 _ _) (by simp)
        rw [show (((w.alloc (.cells #[.int .i64 n, .int .i64 fr, .slice cA cL cC, .slice dA dL dC] 25)).alloc (.cells #[.int .i64 m, .int .u8 s, .int .i64 nd] 27)).heap.size) = w.heap.size + 1 + 1 from by simp] at hB
        have t0 := hK.cell ((((Kept.refl [] (w.alloc (.cells #[.int .i64 n, .int .i64 fr, .slice cA cL cC, .slice dA dL dC] 25))).alloc (.cells #[.int .i64 m, .int .u8 s, .int .i64 nd] 27)).alloc (.cells #[.int .i64 0, .int .i64 0, .int .i64 0] 43)).cell (p := ⟨w.heap.size, 0, none⟩) (v := .int .i64 n) (by simp) (by simp)) (by simp)
        have t1 := hK.cell ((((Kept.refl [] (w.alloc (.cells #[.int .i64 n, .int .i64 fr, .slice cA cL cC, .slice dA dL dC] 25))).alloc (.cells #[.int .i64 m, .int .u8 s, .int .i64 nd] 27)).alloc (.cells #[.int .i64 0, .int .i64 0, .int .i64 0] 43)).cell (p := ⟨w.heap.size, 1, none⟩) (v := .int .i64 fr) (by simp) (by simp)) (by simp)
        have t2 := hK.cell ((((Kept.refl [] (w.alloc (.cells #[.int .i64 n, .int .i64 fr, .slice cA cL cC, .slice dA dL dC] 25))).alloc (.cells #[.int .i64 m, .int .u8 s, .int .i64 nd] 27)).alloc (.cells #[.int .i64 0, .int .i64 0, .int .i64 0] 43)).cell (p := ⟨w.heap.size, 2, none⟩) (v := .slice cA cL cC) (by simp) (by simp)) (by simp)
        have t3 := hK.cell ((((Kept.refl [] (w.alloc (.cells #[.int .i64 n, .int .i64 fr, .slice cA cL cC, .slice dA dL dC] 25))).alloc (.cells #[.int .i64 m, .int .u8 s, .int .i64 nd] 27)).alloc (.cells #[.int .i64 0, .int .i64 0, .int .i64 0] 43)).cell (p := ⟨w.heap.size, 3, none⟩) (v := .slice dA dL dC) (by simp) (by simp)) (by simp)
        have q0 := hK.cell (((Kept.refl [] ((w.alloc (.cells #[.int .i64 n, .int .i64 fr, .slice cA cL cC, .slice dA dL dC] 25)).alloc (.cells #[.int .i64 m, .int .u8 s, .int .i64 nd] 27))).alloc (.cells #[.int .i64 0, .int .i64 0, .int .i64 0] 43)).cell (p := ⟨w.heap.size + 1, 0, none⟩) (v := .int .i64 m) (by simp) (by simp)) (by simp)
        have q1 := hK.cell (((Kept.refl [] ((w.alloc (.cells #[.int .i64 n, .int .i64 fr, .slice cA cL cC, .slice dA dL dC] 25)).alloc (.cells #[.int .i64 m, .int .u8 s, .int .i64 nd] 27))).alloc (.cells #[.int .i64 0, .int .i64 0, .int .i64 0] 43)).cell (p := ⟨w.heap.size + 1, 1, none⟩) (v := .int .u8 s) (by simp) (by simp)) (by simp)
        have q2 := hK.cell (((Kept.refl [] ((w.alloc (.cells #[.int .i64 n, .int .i64 fr, .slice cA cL cC, .slice dA dL dC] 25)).alloc (.cells #[.int .i64 m, .int .u8 s, .int .i64 nd] 27))).alloc (.cells #[.int .i64 0, .int .i64 0, .int .i64 0] 43)).cell (p := ⟨w.heap.size + 1, 2, none⟩) (v := .int .i64 nd) (by simp) (by simp)) (by simp)
        have K1 := hide (HK0.out.next hK)
        clear hK hchk HK0
        go_wp2_with fail
        refine (hpc _).mono ?_
        rintro e w2 ⟨rfl, hK2⟩
        have hB := hK2.row hB (by simp)
        have K2 := hide (K1.out.next hK2)
        clear hK2 hpc
        have z0 := hB.cell (i := 0) (by omega)
        have z1 := hB.cell (i := 1) (by omega)
        have z2 := hB.cell (i := 2) (by omega)
        have y0 := hB.frozen 0
        have y1 := hB.frozen 1
        have y2 := hB.frozen 2
        obtain ⟨r0, r1, r2, hK2⟩ := put3 hB (.int .i64 0) (.int .i64 0) (.int .i64 0)
        have K9 := hide (K2.out.trans hK2 (fun x hx hl => by simp at hx; omega))
        clear hK2 hB
        go_wp2
        generalize ((w2.setCell ⟨w.heap.size + 1 + 1, 0, none⟩ (.int .i64 0)).setCell ⟨w.heap.size + 1 + 1, 1, none⟩ (.int .i64 0)).setCell ⟨w.heap.size + 1 + 1, 2, none⟩ (.int .i64 0) = w9 at r0 r1 r2 K9 ⊢
        (try simp only [Exit.inBlock, Exit.then])
        refine bodyPost_ret (by simp [results, Try.results10, go_sem, r0, r1, r2]; try rfl) rfl ?_
        exact ⟨0, 0, 0, c, rfl, HF.out, K9.out⟩
    · have HF := hide (show NodeIs n fr cL cz dL L Z m s nd cpu cur mL mz 0 0 0 11 from .inr (.inl ⟨hok, hcpu, rfl, rfl, rfl, rfl⟩))
      rcases (show cpu < 0 ∨ (0 ≤ cpu ∧ (cL : Int) ≤ cpu) from by omega) with h1 | ⟨h1, h2⟩
      all_goals
        clear hcpu h hm hcn hcp hdi
        go_enter Try.func10, Try.ntmps10
        go_wp2_with fail
        refine hchk.mono ?_
        rintro e w1 ⟨rfl, hK⟩
        have hB := hK.row (row3 _ _) (by simp)
        rw [show (((w.alloc (.cells #[.int .i64 n, .int .i64 fr, .slice cA cL cC, .slice dA dL dC] 25)).alloc (.cells #[.int .i64 m, .int .u8 s, .int .i64 nd] 27)).heap.size) = w.heap.size + 1 + 1 from by simp] at hB
        have t0 := hK.cell ((((Kept.refl [] (w.alloc (.cells #[.int .i64 n, .int .i64 fr, .slice cA cL cC, .slice dA dL dC] 25))).alloc (.cells #[.int .i64 m, .int .u8 s, .int .i64 nd] 27)).alloc (.cells #[.int .i64 0, .int .i64 0, .int .i64 0] 43)).cell (p := ⟨w.heap.size, 0, none⟩) (v := .int .i64 n) (by simp) (by simp)) (by simp)
        have t1 := hK.cell ((((Kept.refl [] (w.alloc (.cells #[.int .i64 n, .int .i64 fr, .slice cA cL cC, .slice dA dL dC] 25))).alloc (.cells #[.int .i64 m, .int .u8 s, .int .i64 nd] 27)).alloc (.cells #[.int .i64 0, .int .i64 0, .int .i64 0] 43)).cell (p := ⟨w.heap.size, 1, none⟩) (v := .int .i64 fr) (by simp) (by simp)) (by simp)
        have t2 := hK.cell ((((Kept.refl [] (w.alloc (.cells #[.int .i64 n, .int .i64 fr, .slice cA cL cC, .slice dA dL dC] 25))).alloc (.cells #[.int .i64 m, .int .u8 s, .int .i64 nd] 27)).alloc (.cells #[.int .i64 0, .int .i64 0, .int .i64 0] 43)).cell (p := ⟨w.heap.size, 2, none⟩) (v := .slice cA cL cC) (by simp) (by simp)) (by simp)
        have t3 := hK.cell ((((Kept.refl [] (w.alloc (.cells #[.int .i64 n, .int .i64 fr, .slice cA cL cC, .slice dA dL dC] 25))).alloc (.cells #[.int .i64 m, .int .u8 s, .int .i64 nd] 27)).alloc (.cells #[.int .i64 0, .int .i64 0, .int .i64 0] 43)).cell (p := ⟨w.heap.size, 3, none⟩) (v := .slice dA dL dC) (by simp) (by simp)) (by simp)
        have q0 := hK.cell (((Kept.refl [] ((w.alloc (.cells #[.int .i64 n, .int .i64 fr, .slice cA cL cC, .slice dA dL dC] 25)).alloc (.cells #[.int .i64 m, .int .u8 s, .int .i64 nd] 27))).alloc (.cells #[.int .i64 0, .int .i64 0, .int .i64 0] 43)).cell (p := ⟨w.heap.size + 1, 0, none⟩) (v := .int .i64 m) (by simp) (by simp)) (by simp)
        have q1 := hK.cell (((Kept.refl [] ((w.alloc (.cells #[.int .i64 n, .int .i64 fr, .slice cA cL cC, .slice dA dL dC] 25)).alloc (.cells #[.int .i64 m, .int .u8 s, .int .i64 nd] 27))).alloc (.cells #[.int .i64 0, .int .i64 0, .int .i64 0] 43)).cell (p := ⟨w.heap.size + 1, 1, none⟩) (v := .int .u8 s) (by simp) (by simp)) (by simp)
        have q2 := hK.cell (((Kept.refl [] ((w.alloc (.cells #[.int .i64 n, .int .i64 fr, .slice cA cL cC, .slice dA dL dC] 25)).alloc (.cells #[.int .i64 m, .int .u8 s, .int .i64 nd] 27))).alloc (.cells #[.int .i64 0, .int .i64 0, .int .i64 0] 43)).cell (p := ⟨w.heap.size + 1, 2, none⟩) (v := .int .i64 nd) (by simp) (by simp)) (by simp)
        have K1 := hide (HK0.out.next hK)
        clear hK hchk HK0
        have z0 := hB.cell (i := 0) (by omega)
        have z1 := hB.cell (i := 1) (by omega)
        have z2 := hB.cell (i := 2) (by omega)
        have y0 := hB.frozen 0
        have y1 := hB.frozen 1
        have y2 := hB.frozen 2
        obtain ⟨r0, r1, r2, hK2⟩ := put3 hB (.int .i64 0) (.int .i64 0) (.int .i64 0)
        have K9 := hide (K1.out.trans hK2 (fun x hx hl => by simp at hx; omega))
        clear hK2 hB
        go_wp2
        generalize ((w1.setCell ⟨w.heap.size + 1 + 1, 0, none⟩ (.int .i64 0)).setCell ⟨w.heap.size + 1 + 1, 1, none⟩ (.int .i64 0)).setCell ⟨w.heap.size + 1 + 1, 2, none⟩ (.int .i64 0) = w9 at r0 r1 r2 K9 ⊢
        (try simp only [Exit.inBlock, Exit.then])
        refine bodyPost_ret (by simp [results, Try.results10, go_sem, r0, r1, r2]; try rfl) rfl ?_
        exact ⟨0, 0, 0, 11, rfl, HF.out, K9.out⟩
  · have hne : (tchk n fr cL cz dL L Z != 0) = true := by simpa using hok
    obtain ⟨c, hc⟩ : ∃ c, c = tchk n fr cL cz dL L Z := ⟨_, rfl⟩
    rw [← hc] at hchk hne
    have HF := hide (show NodeIs n fr cL cz dL L Z m s nd cpu cur mL mz 0 0 0 c from .inl ⟨hok, rfl, rfl, rfl, hc⟩)
    clear hc hok h hm hK0
    go_enter Try.func10, Try.ntmps10
    go_wp2_with fail
    refine hchk.mono ?_
    rintro e w1 ⟨rfl, hK⟩
    have hB := hK.row (row3 _ _) (by simp)
    rw [show (((w.alloc (.cells #[.int .i64 n, .int .i64 fr, .slice cA cL cC, .slice dA dL dC] 25)).alloc (.cells #[.int .i64 m, .int .u8 s, .int .i64 nd] 27)).heap.size) = w.heap.size + 1 + 1 from by simp] at hB
    have t0 := hK.cell ((((Kept.refl [] (w.alloc (.cells #[.int .i64 n, .int .i64 fr, .slice cA cL cC, .slice dA dL dC] 25))).alloc (.cells #[.int .i64 m, .int .u8 s, .int .i64 nd] 27)).alloc (.cells #[.int .i64 0, .int .i64 0, .int .i64 0] 43)).cell (p := ⟨w.heap.size, 0, none⟩) (v := .int .i64 n) (by simp) (by simp)) (by simp)
    have t1 := hK.cell ((((Kept.refl [] (w.alloc (.cells #[.int .i64 n, .int .i64 fr, .slice cA cL cC, .slice dA dL dC] 25))).alloc (.cells #[.int .i64 m, .int .u8 s, .int .i64 nd] 27)).alloc (.cells #[.int .i64 0, .int .i64 0, .int .i64 0] 43)).cell (p := ⟨w.heap.size, 1, none⟩) (v := .int .i64 fr) (by simp) (by simp)) (by simp)
    have t2 := hK.cell ((((Kept.refl [] (w.alloc (.cells #[.int .i64 n, .int .i64 fr, .slice cA cL cC, .slice dA dL dC] 25))).alloc (.cells #[.int .i64 m, .int .u8 s, .int .i64 nd] 27)).alloc (.cells #[.int .i64 0, .int .i64 0, .int .i64 0] 43)).cell (p := ⟨w.heap.size, 2, none⟩) (v := .slice cA cL cC) (by simp) (by simp)) (by simp)
    have t3 := hK.cell ((((Kept.refl [] (w.alloc (.cells #[.int .i64 n, .int .i64 fr, .slice cA cL cC, .slice dA dL dC] 25))).alloc (.cells #[.int .i64 m, .int .u8 s, .int .i64 nd] 27)).alloc (.cells #[.int .i64 0, .int .i64 0, .int .i64 0] 43)).cell (p := ⟨w.heap.size, 3, none⟩) (v := .slice dA dL dC) (by simp) (by simp)) (by simp)
    have q0 := hK.cell (((Kept.refl [] ((w.alloc (.cells #[.int .i64 n, .int .i64 fr, .slice cA cL cC, .slice dA dL dC] 25)).alloc (.cells #[.int .i64 m, .int .u8 s, .int .i64 nd] 27))).alloc (.cells #[.int .i64 0, .int .i64 0, .int .i64 0] 43)).cell (p := ⟨w.heap.size + 1, 0, none⟩) (v := .int .i64 m) (by simp) (by simp)) (by simp)
    have q1 := hK.cell (((Kept.refl [] ((w.alloc (.cells #[.int .i64 n, .int .i64 fr, .slice cA cL cC, .slice dA dL dC] 25)).alloc (.cells #[.int .i64 m, .int .u8 s, .int .i64 nd] 27))).alloc (.cells #[.int .i64 0, .int .i64 0, .int .i64 0] 43)).cell (p := ⟨w.heap.size + 1, 1, none⟩) (v := .int .u8 s) (by simp) (by simp)) (by simp)
    have q2 := hK.cell (((Kept.refl [] ((w.alloc (.cells #[.int .i64 n, .int .i64 fr, .slice cA cL cC, .slice dA dL dC] 25)).alloc (.cells #[.int .i64 m, .int .u8 s, .int .i64 nd] 27))).alloc (.cells #[.int .i64 0, .int .i64 0, .int .i64 0] 43)).cell (p := ⟨w.heap.size + 1, 2, none⟩) (v := .int .i64 nd) (by simp) (by simp)) (by simp)
    have K1 := hide (HK0.out.next hK)
    clear hK hchk HK0
    have z0 := hB.cell (i := 0) (by omega)
    have z1 := hB.cell (i := 1) (by omega)
    have z2 := hB.cell (i := 2) (by omega)
    have y0 := hB.frozen 0
    have y1 := hB.frozen 1
    have y2 := hB.frozen 2
    obtain ⟨r0, r1, r2, hK2⟩ := put3 hB (.int .i64 0) (.int .i64 0) (.int .i64 0)
    have K9 := hide (K1.out.trans hK2 (fun x hx hl => by simp at hx; omega))
    clear hK2 hB
    go_wp2
    generalize ((w1.setCell ⟨w.heap.size + 1 + 1, 0, none⟩ (.int .i64 0)).setCell ⟨w.heap.size + 1 + 1, 1, none⟩ (.int .i64 0)).setCell ⟨w.heap.size + 1 + 1, 2, none⟩ (.int .i64 0) = w9 at r0 r1 r2 K9 ⊢
    (try simp only [Exit.inBlock, Exit.then])
    refine bodyPost_ret (by simp [results, Try.results10, go_sem, r0, r1, r2]; try rfl) rfl ?_
    exact ⟨0, 0, 0, c, rfl, HF.out, K9.out⟩
end Go.Proofs.Ytnokpecdkibddac.CH
