/-
  The walk of 'messuagelaw04.ZoneAll', and the given statement of it.
-/
import Derived.Test.YtnokpecdkibddabZnLaw
import Derived.Test.YtnokpecdkibddabZoneRef
import Derived.Test.YtnokpecdkibddabTopoRef
import Derived.Test.YtnokpecdkibddabOpenTopo
import Derived.Test.YtnokpecdkibddabRows
import Derived.BigRegion
import Derived.BigQuiet
namespace Go.Proofs.Ytnokpecdkibddab.LA
open Go.ChangeShapes Go.WideShapes Go.ChangeAt Go.RowKit TP ZN
/-- Which nodes were there already. -/
def vis (f : Nat → Nat) (k x : Nat) : Bool := (List.range k).any (fun j => f j == x)
theorem vis_succ (f : Nat → Nat) (k x : Nat) : vis f (k + 1) x = (vis f k x || (f k == x)) := by
  unfold vis; rw [List.range_succ, List.any_append]; simp
theorem vis_fresh {n k : Nat} {f : Nat → Nat} (h : PermF n f) (hk : k < n) : vis f k (f k) = false := by
  unfold vis
  rw [List.any_eq_false]
  intro j hj he
  have hj2 : j < k := by simpa using hj
  have e : f j = f k := by simpa using he
  have := h.inj j k (by omega) hk e
  omega
set_option maxHeartbeats 4000000 in
set_option maxRecDepth 100000 in
theorem law_any {n fr : Int} {cA : Option Addr} {cL cC : Nat} {cz : Nat → Int} {dA : Option Addr} {dL dC : Nat} {L : Nat → Nat} {Z : Nat → Nat → Int} {w : World} (h : At w cA cL cz dA dL L Z) (hc : cL ≤ cC) (hd : dL ≤ dC) (a : Int) :
    Calls Try.prog 5 #[tval n fr cA cL cC dA dL dC, .int .i64 a] w fun e w' => e = .returned (.bool true) ∧ Kept [] w w' := by
  have hT := tame_any n fr cA cL cC dA dL dC hc hd
  obtain ⟨cl, hcl⟩ : ∃ c, c = min cL 20 := ⟨_, rfl⟩
  obtain ⟨dl, hdl⟩ : ∃ c, c = min dL 10 := ⟨_, rfl⟩
  have hA : At w cA cl cz dA dl L Z := by rw [hcl, hdl]; exact at_min h 20 10
  rw [← hcl, ← hdl] at hT
  have HA := hide hA
  clear h hcl hdl hA
  unfold tval at hT
  unfold tval
  go_enter Try.func5, Try.ntmps5
  go_wp2_with fail
  refine (hT _).mono ?_
  rintro e w1 ⟨rfl, hK⟩
  have hB := hK.row (row4 w 25 _ _ _ _) (by simp)
  have z0 := hB.cell (i := 0) (by omega)
  have z1 := hB.cell (i := 1) (by omega)
  have z2 := hB.cell (i := 2) (by omega)
  have z3 := hB.cell (i := 3) (by omega)
  have y0 := hB.frozen 0
  have y1 := hB.frozen 1
  have y2 := hB.frozen 2
  have y3 := hB.frozen 3
  obtain ⟨tt, hK2⟩ := put4 hB (.int .i64 n) (.int .i64 fr) (.slice cA cl cC) (.slice dA dl dC)
  have K2 := hide ((((Kept.refl [] w).alloc (.cells #[.int .i64 n, .int .i64 fr, .slice cA cL cC, .slice dA dL dC] 25)).next hK).trans hK2 (fun x hx hl => by simp at hx; omega))
  clear hK hK2 hB hT
  go_wp2_with fail
  generalize (((w1.setCell ⟨w.heap.size, 0, none⟩ (.int .i64 n)).setCell ⟨w.heap.size, 1, none⟩ (.int .i64 fr)).setCell ⟨w.heap.size, 2, none⟩ (.slice cA cl cC)).setCell ⟨w.heap.size, 3, none⟩ (.slice dA dl dC) = w2 at tt K2 ⊢
  clear z0 z1 z2 z3 y0 y1 y2 y3
  obtain ⟨t0, t1, t2, t3⟩ := tt
  have hto := to_any n fr cA cl cC dA dl dC
  unfold tval at hto
  refine (hto _).mono ?_
  rintro e w3 ⟨rfl, hK3⟩
  obtain ⟨t0, t1, t2, t3⟩ := cells4 hK3 (by simp) ⟨t0, t1, t2, t3⟩
  have K3 := hide (K2.out.next hK3)
  clear hK3 K2
  by_cases hok : tchk n fr cl cz dl L Z = 0 ∧ 0 ≤ a ∧ a < n
  · obtain ⟨hok, ha0, han⟩ := hok
    obtain ⟨⟨⟨n1, n8⟩, -⟩, -, hdp⟩ := tchk_ok hok
    obtain ⟨N, rfl⟩ := Int.eq_ofNat_of_zero_le (show 0 ≤ n by omega)
    obtain ⟨A, rfl⟩ := Int.eq_ofNat_of_zero_le ha0
    have haN : A < N := by omega
    rw [Int.toNat_natCast] at hdp
    obtain ⟨hdl, hLn, hfit⟩ := hdp
    subst hdl
    have hord : ∀ w', Kept [] w w' → Calls Try.prog 7 #[.agg #[.int .i64 dl, .int .i64 fr, .slice cA cl cC, .slice dA dl dC], .int .i64 A] w' fun e w'' => ∃ nb f, e = .returned (.tuple #[.slice (some ⟨nb, 0, none⟩) dl dl, .int .i64 0]) ∧
      PermF dl f ∧ SortedF (Z A) dl f ∧ w''.rowIs nb 3 dl (nums f) ∧ w'.heap.size ≤ nb ∧ Kept [] w' w'' := fun w' hk => order_ok (HA.out.kept hk) hok A haN
    have hwi : ∀ s : Nat, s < 256 → ∀ w', Kept [] w w' → Calls Try.prog 9 #[.agg #[.int .i64 dl, .int .i64 fr, .slice cA cl cC, .slice dA dl dC], .int .i64 A, .int .u8 s] w' fun e w'' => ∃ f v, e = .returned (.tuple #[v, .int .i64 0]) ∧
      PermF dl f ∧ SortedF (Z A) dl f ∧ Ints w'' w'.heap.size 3 v (zs (wl f s dl)) ∧ Kept [] w' w'' := fun s hs w' hk => within_ok (HA.out.kept hk) hok A haN s hs
    have HW := hide hwi
    obtain ⟨b, off, AA, C, hdA, hcell, hC1, hC2, hints⟩ := HA.out.rows A haN
    rw [hLn A haN] at hcell hints hC1
    subst hdA
    have n8' : dl ≤ 8 := by omega
    have HI := hide hints
    have HC := hide hcell
    have HF := hide (hfit A haN)
    clear hwi hok hLn hints hcell hfit
    go_wp2_with fail
    refine (hord _ K3.out).mono ?_
    rintro e w4 ⟨nb, f, rfl, hP, hS, hR, hnb, hK4⟩
    obtain ⟨t0, t1, t2, t3⟩ := cells4 hK4 (by simp) ⟨t0, t1, t2, t3⟩
    have K4 := hide (K3.out.next hK4)
    have HP := hide (And.intro hP hS)
    clear hK4 hord K3 hP hS hnb
    go_wp2_with fail
    refine (zones_true _).mono ?_
    rintro e w5 ⟨rfl, hK5⟩
    obtain ⟨t0, t1, t2, t3⟩ := cells4 hK5 (by simp) ⟨t0, t1, t2, t3⟩
    have R5 := hide (hK5.row hR (by simp))
    have K5 := hide (K4.out.next hK5)
    clear hK5 K4 hR
    go_wp2_with fail
    refine (hto _).mono ?_
    rintro e w6 ⟨rfl, hK6⟩
    obtain ⟨t0, t1, t2, t3⟩ := cells4 hK6 (by simp) ⟨t0, t1, t2, t3⟩
    have R6 := hide (hK6.row R5.out (by simp))
    have K6 := hide (K5.out.next hK6)
    clear hK6 K5 R5
    go_wp2_with fail
    refine (HW.out 255 (by omega) _ K6.out).mono ?_
    rintro e w7 ⟨g, v7, rfl, hP7, hS7, hI7, hK7⟩
    obtain ⟨t0, t1, t2, t3⟩ := cells4 hK7 (by simp) ⟨t0, t1, t2, t3⟩
    have R7 := hide (hK7.row R6.out (by simp))
    have K7 := hide (K6.out.next hK7)
    rw [wl_one hP7 hS7 HP.out.1 HP.out.2, wl_all n8' HP.out.1] at hI7
    have hw8 : ∀ x, x ∈ zs ((List.range dl).map f) → (Lit.int .i64 x).wf = true := by
      intro x hx
      unfold zs at hx
      obtain ⟨y, hy, rfl⟩ := List.mem_map.1 hx
      obtain ⟨i, hi, rfl⟩ := List.mem_map.1 hy
      have := HP.out.1.lt i (by simpa using hi)
      exact WalkArith.wf_i64 (by simp; omega)
    obtain ⟨ao7, cap7, rfl, hJ7⟩ := hI7.isInts hw8
    have hz8 : (zs ((List.range dl).map f)).length = dl := by unfold zs; simp
    rw [hz8] at hJ7
    rw [hz8]
    have I7 := hide hJ7
    clear hK7 K6 R6 hI7 hJ7 hP7 hS7 hw8
    go_wp2_with fail
    refine (hto _).mono ?_
    rintro e w8 ⟨rfl, hK8⟩
    obtain ⟨t0, t1, t2, t3⟩ := cells4 hK8 (by simp) ⟨t0, t1, t2, t3⟩
    have R8 := hide (hK8.row R7.out (by simp))
    have K8 := hide (K7.out.next hK8)
    have I8 := hide (IsInts.kept I7.out hK8)
    clear hK8 K7 R7 I7
    go_wp2_with fail
    refine (HW.out 0 (by omega) _ K8.out).mono ?_
    rintro e w9 ⟨g9, v9, rfl, -, -, hI9, hK9⟩
    obtain ⟨t0, t1, t2, t3⟩ := cells4 hK9 (by simp) ⟨t0, t1, t2, t3⟩
    have R9 := hide (hK9.row R8.out (by simp))
    have K9 := hide (K8.out.next hK9)
    have I9 := hide (IsInts.kept I8.out hK9)
    rw [wl_none] at hI9
    have hsz : w.heap.size < w9.heap.size := World.block_lt_of_cell? w9 _ t0
    have hnb9 : nb < w9.heap.size := R9.out.lt
    have h79 : ∀ b off, ao7 = some ⟨b, off, none⟩ → b < w9.heap.size := by
      intro b off e
      obtain ⟨b2, o2, e2, hc2, -⟩ := I9.out 0 (by omega)
      rw [e] at e2
      have := World.block_lt_of_cell? w9 _ hc2
      simp at e2 this
      omega
    obtain ⟨ao9, cap9, rfl, -⟩ := hI9.isInts (fun x hx => by simp [zs] at hx)
    have hzn : (zs []).length = 0 := rfl
    rw [hzn]
    clear hK9 K8 R8 I8 hI9 hto HW
    go_wp2
    have hka := (Kept.refl [] w9).alloc (.cells #[.bool false, .bool false, .bool false, .bool false, .bool false, .bool false, .bool false, .bool false] 46)
    have V0 := hide (World.rowIs_alloc w9 #[.bool false, .bool false, .bool false, .bool false, .bool false, .bool false, .bool false, .bool false] 46 (fun _ => .bool false) (by
      intro i hi
      match i, hi with
      | 0, _ => rfl
      | 1, _ => rfl
      | 2, _ => rfl
      | 3, _ => rfl
      | 4, _ => rfl
      | 5, _ => rfl
      | 6, _ => rfl
      | 7, _ => rfl))
    obtain ⟨t0, t1, t2, t3⟩ := cells4 hka (by simp) ⟨t0, t1, t2, t3⟩
    have RA := hide (hka.row R9.out (by simp))
    have KA := hide (K9.out.next hka)
    have IA := hide (IsInts.kept I9.out hka)
    generalize (w9.alloc (.cells #[.bool false, .bool false, .bool false, .bool false, .bool false, .bool false, .bool false, .bool false] 46)) = wA at V0 t0 t1 t2 t3 RA KA IA ⊢
    clear hka R9 K9 I9
    have HS := hide (And.intro hsz (And.intro hnb9 h79))
    have hne : w.heap.size ≠ w9.heap.size := by omega
    have hne2 : nb ≠ w9.heap.size := by omega
    generalize hsb : w9.heap.size = sb at *
    clear hsz hnb9 h79 hsb
    go_loopw [12] (fun i wr => ∃ k : Nat, k ≤ dl ∧ i = .int .i64 k ∧ wr.rowIs sb 46 8 (fun x => .bool (vis f k x)) ∧ Kept [sb] wA wr) (fun i _ => dl - (intOf i).toNat)
    case atStart => exact ⟨0, by omega, rfl, V0.out, Kept.refl _ _⟩
    case round =>
      obtain ⟨k, hk, rfl, hV, hKk⟩ := hrel
      obtain ⟨t0', t1', t2', t3'⟩ := cells4 hKk (by simp; omega) ⟨t0, t1, t2, t3⟩
      have HV := hide hV
      have HK := hide hKk
      clear V0 t0 t1 t2 t3 hV
      by_cases hkl : k < dl
      · have hki : (k : Int) < (dl : Int) := by omega
        have hRk := hKk.row RA.out (by simp; omega)
        have ck := hRk.cell hkl
        unfold nums at ck
        have hx := HP.out.1.lt k hkl
        have hfr := vis_fresh HP.out.1 hkl
        have hKw : Kept [] w wr := by have := KA.out; exact this.trans hKk (fun x hx hl => by have := HS.out.1; simp at hx; omega)
        have hC' := hKw.cell HC.out (by simp)
        obtain ⟨bd, od, hAA, cd, -⟩ := (IsInts.kept HI.out hKw) (f k) hx
        subst hAA
        have hsr := HV.out.cell (i := f k) (by omega)
        have hfz := HV.out.frozen (f k)
        rw [hfr] at hsr
        obtain ⟨x, hxe⟩ : ∃ x, x = f k := ⟨_, rfl⟩
        obtain ⟨zx, hzx⟩ : ∃ z, z = Z A x := ⟨_, rfl⟩
        rw [← hxe] at ck hx cd hsr hfz
        rw [← hzx] at cd
        have d1 : decide ((x : Int) < 0) = false := decide_eq_false (by omega)
        have d2 : ¬ (x : Int) < 0 := by omega
        have d3 : decide (dl ≤ x) = false := decide_eq_false (by omega)
        have HX := hide hxe
        have HZ := hide hzx
        clear hxe hzx hfr hKk hKw hRk
        have ROUND : ∀ w', Kept [] wr w' → (w'.setCell ⟨sb, x, none⟩ (.bool true)).rowIs sb 46 8 (fun y => .bool (vis f (k + 1) y)) ∧ Kept [sb] wA (w'.setCell ⟨sb, x, none⟩ (.bool true)) := by
          intro w' hk
          refine ⟨((hk.row HV.out (by simp)).set x (.bool true)).congr (fun y hy => ?_), ((HK.out.next hk).setCell (fun _ => by simp) _)⟩
          rw [vis_succ, ← HX.out]
          by_cases hxy : y = x
          · subst hxy; simp
          · have : ¬ (x = y) := by omega
            simp [hxy, this]
        by_cases hk0 : k = 0
        · have g0 : decide ((0 : Int) < (k : Int)) = false := decide_eq_false (by omega)
          have g1 : decide (0 < k) = false := decide_eq_false (by omega)
          clear hk0
          go_wp2_with fail
          go_quiet (fail)
          go_wp2
          go_roundw
          case rel =>
            have := ROUND (wr.drewN nq) ((Kept.refl [] wr).drewN nq)
            exact ⟨k + 1, by omega, by go_num, this.1, this.2⟩
          case measure => simp [intOf]; omega
        · obtain ⟨j, hj⟩ : ∃ j, k = j + 1 := ⟨k - 1, by omega⟩
          have g0 : (0 : Int) < (k : Int) := by omega
          have gj : IntKind.i64.wrap ((k : Int) - 1) = (j : Int) := by rw [wrap_small _ (by omega) (by omega)]; omega
          have hjl : j < dl := by omega
          have hji : (j : Int) < (dl : Int) := by omega
          have cj := (HK.out.row RA.out (by simp; omega)).cell hjl
          unfold nums at cj
          have hy := HP.out.1.lt j hjl
          have hso := HP.out.2 j k (by omega) hkl
          have hKw : Kept [] w wr := KA.out.trans HK.out (fun x hx hl => by have := HS.out.1; simp at hx; omega)
          obtain ⟨bd', od', hAA', cd', -⟩ := (IsInts.kept HI.out hKw) (f j) hy
          obtain ⟨rfl, rfl⟩ : bd = bd' ∧ od = od' := by simpa using hAA'
          unfold nearer at hso
          rw [← HX.out] at hso
          rw [← HZ.out] at hso
          obtain ⟨y, hye⟩ : ∃ y, y = f j := ⟨_, rfl⟩
          obtain ⟨zy, hzy⟩ : ∃ z, z = Z A y := ⟨_, rfl⟩
          rw [← hye] at cj hy cd' hso
          rw [← hzy] at cd' hso
          have d5 : decide (zx < zy) = false := decide_eq_false (by omega)
          have hyi : (y : Int) < (dl : Int) := by omega
          have hxi : (x : Int) < (dl : Int) := by omega
          have g1 : 0 < k := by omega
          have HJ := hide hj
          clear hj hye hzy hso hAA' hKw hk0
          go_wp2_with fail
          go_quiet (fail)
          go_wp2
          go_roundw
          case rel =>
            have := ROUND (wr.drewN nq) ((Kept.refl [] wr).drewN nq)
            exact ⟨k + 1, by omega, by go_num, this.1, this.2⟩
          case measure => simp [intOf]; omega
      · have e : k = dl := by omega
        have hRk := HK.out.row RA.out (by simp; omega)
        have hIk := IsInts.keptL IA.out HK.out (fun b' o' e => by have := HS.out.2.2 b' o' e; simp; omega)
        have hl : IsInts .i64 wr (some ⟨nb, 0, none⟩) dl (fun i => (zs ((List.range dl).map f)).getD i 0) := by
          intro i hi
          refine ⟨nb, 0, rfl, ?_, ?_⟩
          · rw [Nat.zero_add, hRk.cell hi]
            unfold nums zs
            simp [List.getD_eq_getElem?_getD, hi]
          · have := HP.out.1.lt i hi
            refine WalkArith.wf_i64 ?_
            unfold zs
            simp [List.getD_eq_getElem?_getD, hi]
            omega
        have hsm := same4_true (c1 := cap7) (c2 := dl) (by unfold maxLen; omega) hIk hl
        have c0 := hRk.cell (i := 0) (by omega)
        unfold nums at c0
        have hf0 : f 0 = A := by
          obtain ⟨i, hi, e2⟩ := HP.out.1.sur A haN
          by_cases e3 : i = 0
          · rw [← e3]; exact e2
          · by_cases e4 : f 0 = A
            · exact e4
            · have h1 := HP.out.2 0 i (by omega) hi
              rw [e2] at h1
              have h2 := (HF.out A haN).1
              have h3 := (HF.out (f 0) (HP.out.1.lt 0 (by omega))).1
              unfold fitP at h2 h3
              have h4 := h2.1 rfl
              have h5 := h3.2 (fun e => e4 e.symm)
              unfold nearer at h1
              omega
        rw [hf0] at c0
        have hKw : Kept [] w wr := KA.out.trans HK.out (fun x hx hl => by have := HS.out.1; simp at hx; omega)
        have KW := hide hKw
        subst e
        clear hRk hIk hl hf0 hKw hKk
        have hdi : (0 : Int) < (k : Int) := by omega
        go_wp2_with (go_at_call 14; refine hsm.mono ?_; rintro e wz ⟨rfl, hKz⟩; have c0 := hKz.cell c0 (by simp); have t0' := hKz.cell t0' (by simp); have KZ := hide (KW.out.next hKz); clear hKz hsm)
        go_ret
        exact ⟨rfl, KZ.out⟩
  · have hord : ∃ c, c ≠ 0 ∧ ∀ w', Kept [] w w' → Calls Try.prog 7 #[.agg #[.int .i64 n, .int .i64 fr, .slice cA cl cC, .slice dA dl dC], .int .i64 a] w' fun e w'' => e = .returned (.tuple #[.slice none 0 0, .int .i64 c]) ∧ Kept [] w' w'' := by
      by_cases h1 : tchk n fr cl cz dl L Z = 0
      · exact ⟨10, by omega, fun w' hk => order_node (HA.out.kept hk) h1 a (fun h => hok ⟨h1, h⟩)⟩
      · exact ⟨_, h1, fun w' hk => order_bad (HA.out.kept hk) h1 a⟩
    obtain ⟨c, hc, hord⟩ := hord
    have hne : (c != 0) = true := by simpa using hc
    clear hok hc HA
    go_wp2_with fail
    refine (hord _ K3.out).mono ?_
    rintro e w4 ⟨rfl, hK4⟩
    have K4 := hide (K3.out.next hK4)
    clear hK4 hord K3 hto t0 t1 t2 t3
    go_wp2_with fail
    refine (zones_true _).mono ?_
    rintro e w5 ⟨rfl, hK5⟩
    have K5 := hide (K4.out.next hK5)
    clear hK5 K4
    go_wp2_with fail
    refine (zones_true _).mono ?_
    rintro e w6 ⟨rfl, hK6⟩
    have K6 := hide (K5.out.next hK6)
    clear hK6 K5
    go_wp2
    go_ret
    exact ⟨rfl, K6.out⟩

theorem own : ownKnob Try.prog.godebug = none := by kernel_rfl
theorem laidOut : laidOutB Try.prog = true := by kernel_rfl

set_option maxRecDepth 100000 in
theorem lifted (os : Os) (started : os.Started) (H : Type) (enc : TypeId × Value → H) :
    ReturnsInHanded {} Try.checked os 5 .any (Rows.zoneAllSpec.pre6 enc Try.prog Try.f5 Rows.zoneAllRow.domain false) (Rows.zoneAllSpec.post enc Try.prog Try.f5 false true false false) := by
  refine returnsInHanded_of_change (C := Try.checked) own started (by kernel_rfl) Try.func5
    (ChangeSpec.witness6 (enc := enc) (C := Try.checked) false ⟨#[], #[.agg #[.int .i64 0, .int .i64 0, .slice none 0 0, .slice none 0 0], .int .i64 0], []⟩ 8 (by kernel_rfl) (by kernel_rfl) (by kernel_rfl) (by kernel_rfl)) ?_
  intro W base args ds gs before hval0 hW hcnd _
  have hval : ∀ (j : Nat) t v, Try.f5.params[j]? = some t → args[j]? = some v → Value.okWide Try.prog W .any base t v := hval0
  have hW' := hW
  obtain ⟨p, q, hA0, hV, rfl, hfz, hnd⟩ := hW
  have hA : DataW.TrodAll enc Try.prog W 0 (fun _ => true) true Try.f5.params.toList args.toList ds p := hA0
  have hK := hA
  rw [Try.params5] at hA hval
  obtain ⟨v0, vs0, d0, ds0, p0, q0, hargs, rfl, rfl, h0, r0⟩ := trodAll_cons hA
  obtain ⟨v1, vs1, d1, ds1, p1, q1, rfl, rfl, rfl, h1, r1⟩ := trodAll_cons r0
  obtain ⟨rfl, rfl, rfl⟩ := trodAll_nil r1
  obtain rfl : args = #[v0, v1] := by cases args; simp_all
  obtain ⟨rfl, rfl⟩ := trodVars_none hV
  obtain ⟨n, fr, cA, cL, cC, cz, dA, dL, dC, L, Z, rfl, hc, hd, wn, wfr, hAt⟩ := open_topo (e2 := 3) (e3 := 22) (q3 := 3) Try.underlying25 (by kernel_rfl) rfl rfl rfl rfl (by kernel_rfl) (by kernel_rfl) (by kernel_rfl) (by kernel_rfl) (by kernel_rfl) (by kernel_rfl) (by kernel_rfl) (by kernel_rfl) (by kernel_rfl) (by kernel_rfl) (by kernel_rfl) (by kernel_rfl) (by kernel_rfl) (by kernel_rfl) h0
  obtain ⟨a, rfl, rfl, rfl, w1⟩ := open_int Try.underlying3 (hval 1 3 v1 rfl rfl) h1
  clear hA0 hval0
  refine (law_any hAt hc hd a).mono fun e W' ⟨he, hk⟩ => ?_
  subst he
  exact ⟨_, rfl, _, _, _, [], _, [], hW', trodAll_mk1 (shut_bool Try.underlying4 _), trodAll_below laidOut hk.below _ _ _ _ hK (by kernel_rfl), rfl, hk.below.frame _, fun h => by cases h⟩

theorem said : Rows.ZoneAllSaid :=
  OpenClaim.holds_of_wide 5 Try.f5 rfl rfl rfl rfl rfl rfl rfl ⟨rfl, rfl, rfl, rfl, rfl⟩ rfl rfl rfl rfl rfl (by kernel_rfl) Try.func5 (by kernel_rfl)
    (of_decide_eq_true (by kernel_rfl)) (by unfold Func.isWrapper; first | (rw [if_pos (by decide +kernel)]; kernel_rfl) | (rw [if_neg (by decide +kernel)]; exact ⟨rfl, rfl⟩))
    (fun os started H enc _ => lifted os started H enc)
end Go.Proofs.Ytnokpecdkibddab.LA
