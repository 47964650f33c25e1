/-
  The walk of 'messuagelaw04.ZoneOrders', and the given statement of it.
-/
import Derived.Test.YtnokpecdkibddabZnRef2
import Derived.Test.YtnokpecdkibddabTopoRef
import Derived.Test.YtnokpecdkibddabOpenAsk
import Derived.Test.YtnokpecdkibddabRows
import Derived.BigRegion
import Derived.BigQuiet
import Derived.Deep.RegionHeld3
import Derived.Deep.Light
namespace Go.Proofs.Ytnokpecdkibddab.LO
open Go.ChangeShapes Go.WideShapes Go.ChangeAt Go.RowKit TP ZN
/-- The law's own variables lie where they lay. -/
structure ST (w : World) (n fr : Int) (cA : Option Addr) (cl cC : Nat) (dA : Option Addr) (dl dC : Nat) (nd : Int) (s : Nat) (mA : Option Addr) (mL mC : Nat) (W : World) : Prop where
  kept : Kept [] w W
  t : W.cell? ⟨w.heap.size, 0, none⟩ = some (.int .i64 n) ∧ W.cell? ⟨w.heap.size, 1, none⟩ = some (.int .i64 fr) ∧ W.cell? ⟨w.heap.size, 2, none⟩ = some (.slice cA cl cC) ∧ W.cell? ⟨w.heap.size, 3, none⟩ = some (.slice dA dl dC)
  a : W.cell? ⟨w.heap.size + 1, 0, none⟩ = some (.int .i64 nd) ∧ W.cell? ⟨w.heap.size + 1, 1, none⟩ = some (.int .u8 s) ∧ W.cell? ⟨w.heap.size + 1, 2, none⟩ = some (.slice mA mL mC)
theorem ST.next {w : World} {n fr : Int} {cA : Option Addr} {cl cC : Nat} {dA : Option Addr} {dl dC : Nat} {nd : Int} {s : Nat} {mA : Option Addr} {mL mC : Nat} {W W' : World} (h : ST w n fr cA cl cC dA dl dC nd s mA mL mC W) (hk : Kept [] W W') : ST w n fr cA cl cC dA dl dC nd s mA mL mC W' :=
  ⟨h.kept.next hk, cells4 hk (by simp) h.t, hk.cell h.a.1 (by simp), hk.cell h.a.2.1 (by simp), hk.cell h.a.2.2 (by simp)⟩
theorem infoB : (Try.prog.info? 4).map (fun i => (i.zero, i.size, i.bytes)) = some (some (.bool false), 1, 1) := by kernel_rfl
/-- The numbers of a list. -/
def Zl (l : List Nat) (i : Nat) : Int := (zs l).getD i 0
theorem Zl_at {l : List Nat} {i : Nat} (h : i < l.length) : Zl l i = (l.getD i 0 : Nat) := by
  unfold Zl zs
  rw [List.getD_eq_getElem?_getD, List.getD_eq_getElem?_getD, List.getElem?_map, List.getElem?_eq_getElem h]
  rfl
/-- What Nearest tells. -/
def NrIs (D : Nat → Int) (n : Nat) (p : Nat → Bool) (y : Nat) (ok : Bool) : Prop := ∃ r : Option Nat, y = r.getD 0 ∧ ok = r.isSome ∧ NearIs D n p r
set_option maxHeartbeats 4000000 in
set_option maxRecDepth 100000 in
theorem law_any {n fr : Int} {cA : Option Addr} {cL cC : Nat} {cz : Nat → Int} {dA : Option Addr} {dL dC : Nat} {L : Nat → Nat} {Z : Nat → Nat → Int} {w : World} (h : At w cA cL cz dA dL L Z) (hc : cL ≤ cC) (hd : dL ≤ dC) (a : Int) (s : Nat) (hs : s < 256) {mA : Option Addr} {ML mC : Nat} {mz : Nat → Bool} (hm : IsBools w mA ML mz) (hml : ML ≤ mC) (hmc : mC ≤ maxLen) :
    Calls Try.prog 3 #[tval n fr cA cL cC dA dL dC, .agg #[.int .i64 a, .int .u8 s, .slice mA ML mC]] w fun e w' => e = .returned (.bool true) ∧ Kept [] w w' := by
  have hT := tame_any n fr cA cL cC dA dL dC hc hd
  obtain ⟨cl, hcl⟩ : ∃ c, c = min cL 20 := ⟨_, rfl⟩
  obtain ⟨dl, hdl⟩ : ∃ c, c = min dL 10 := ⟨_, rfl⟩
  obtain ⟨mL, hmL⟩ : ∃ c, c = min ML 10 := ⟨_, rfl⟩
  have hA : At w cA cl cz dA dl L Z := by rw [hcl, hdl]; exact at_min h 20 10
  rw [← hcl, ← hdl] at hT
  have HA := hide hA
  have hm' : IsBools w mA mL mz := fun i hi => hm i (by omega)
  have HM := hide hm'
  have hml2 : mL ≤ maxLen := by omega
  have hcut := run_cut0 (P := Try.prog) Try.underlying26 infoB mA ML mC .i64 (j := min (ML : Int) 10) mL (by omega) (by omega)
  clear h hcl hdl hA hm hm' hmL
  unfold tval at hT
  unfold tval
  go_enter Try.func3, Try.ntmps3
  go_wp2_with fail
  refine (hT _).mono ?_
  rintro e w1 ⟨rfl, hK⟩
  have k2 := (Kept.refl [] (w.alloc (.cells #[.int .i64 n, .int .i64 fr, .slice cA cL cC, .slice dA dL dC] 25)))
  have k1 := k2.alloc (.cells #[.int .i64 a, .int .u8 s, .slice mA ML mC] 28)
  have hB := hK.row (k1.row (row4 w 25 _ _ _ _) (by simp)) (by simp)
  have hs0 : (w.alloc (.cells #[.int .i64 n, .int .i64 fr, .slice cA cL cC, .slice dA dL dC] 25)).heap.size = w.heap.size + 1 := by simp
  have a0 := hK.cell (p := ⟨w.heap.size + 1, 0, none⟩) (v := .int .i64 a) (by rw [← hs0]; simp) (by simp)
  have a1 := hK.cell (p := ⟨w.heap.size + 1, 1, none⟩) (v := .int .u8 s) (by rw [← hs0]; simp) (by simp)
  have a2 := hK.cell (p := ⟨w.heap.size + 1, 2, none⟩) (v := .slice mA ML mC) (by rw [← hs0]; simp) (by simp)
  have z0 := hB.cell (i := 0) (by omega)
  have z1 := hB.cell (i := 1) (by omega)
  have z2 := hB.cell (i := 2) (by omega)
  have z3 := hB.cell (i := 3) (by omega)
  have y0 := hB.frozen 0
  have y1 := hB.frozen 1
  have y2 := hB.frozen 2
  have y3 := hB.frozen 3
  obtain ⟨tt, hK2⟩ := put4 hB (.int .i64 n) (.int .i64 fr) (.slice cA cl cC) (.slice dA dl dC)
  have a0 := hK2.cell a0 (by simp)
  have a1 := hK2.cell a1 (by simp)
  have a2 := hK2.cell a2 (by simp)
  have K2 := hide (((((Kept.refl [] w).alloc (.cells #[.int .i64 n, .int .i64 fr, .slice cA cL cC, .slice dA dL dC] 25)).alloc (.cells #[.int .i64 a, .int .u8 s, .slice mA ML mC] 28)).next hK).trans hK2 (fun x hx hl => by simp at hx; omega))
  clear hK hK2 hB hs0 k1 k2 hT
  go_wp2_with fail
  generalize (((w1.setCell ⟨w.heap.size, 0, none⟩ (.int .i64 n)).setCell ⟨w.heap.size, 1, none⟩ (.int .i64 fr)).setCell ⟨w.heap.size, 2, none⟩ (.slice cA cl cC)).setCell ⟨w.heap.size, 3, none⟩ (.slice dA dl dC) = w2 at tt a0 a1 a2 K2 ⊢
  clear z0 z1 z2 z3 y0 y1 y2 y3
  have S2 : ST w n fr cA cl cC dA dl dC a s mA ML mC w2 := ⟨K2.out, tt, a0, a1, a2⟩
  obtain ⟨t0, t1, t2, t3⟩ := tt
  clear K2
  have hto := to_any n fr cA cl cC dA dl dC
  unfold tval at hto
  by_cases hok : tchk n fr cl cz dl L Z = 0 ∧ 0 ≤ a ∧ a < n
  · obtain ⟨hok, ha0, han⟩ := hok
    obtain ⟨⟨⟨n1, n8⟩, -⟩, -, hdp⟩ := tchk_ok hok
    obtain ⟨N, rfl⟩ := Int.eq_ofNat_of_zero_le (show 0 ≤ n by omega)
    obtain ⟨A, rfl⟩ := Int.eq_ofNat_of_zero_le ha0
    have haN : A < N := by omega
    rw [Int.toNat_natCast] at hdp
    have hdl := hdp.1
    subst hdl
    have n8' : dl ≤ 8 := by omega
    have hord : ∀ w', Kept [] w w' → Calls Try.prog 7 #[.agg #[.int .i64 dl, .int .i64 fr, .slice cA cl cC, .slice dA dl dC], .int .i64 A] w' fun e w'' => ∃ nb f, e = .returned (.tuple #[.slice (some ⟨nb, 0, none⟩) dl dl, .int .i64 0]) ∧
      PermF dl f ∧ SortedF (Z A) dl f ∧ w''.rowIs nb 3 dl (nums f) ∧ w'.heap.size ≤ nb ∧ Kept [] w' w'' := fun w' hk => order_ok (HA.out.kept hk) hok A haN
    have hwi : ∀ w', Kept [] w w' → Calls Try.prog 9 #[.agg #[.int .i64 dl, .int .i64 fr, .slice cA cl cC, .slice dA dl dC], .int .i64 A, .int .u8 s] w' fun e w'' => ∃ f v, e = .returned (.tuple #[v, .int .i64 0]) ∧
      PermF dl f ∧ SortedF (Z A) dl f ∧ Ints w'' w'.heap.size 3 v (zs (wl f s dl)) ∧ Kept [] w' w'' := fun w' hk => within_ok (HA.out.kept hk) hok A haN s hs
    have hnear : ∀ w', Kept [] w w' → Calls Try.prog 10 #[.agg #[.int .i64 dl, .int .i64 fr, .slice cA cl cC, .slice dA dl dC], .int .i64 A, .int .u8 s, .slice mA mL mC] w' fun e w'' => ∃ (y : Nat) (ok : Bool), e = .returned (.tuple #[.int .i64 y, .bool ok]) ∧
      NrIs (Z A) dl (fun x => ND.hasB s x && mayB mL mz x) y ok ∧ Kept [] w' w'' := fun w' hk => (nearest_ok (HA.out.kept hk) hok A haN s hs (HM.out.kept hk) hml2).mono (by rintro e w'' ⟨r, rfl, h1, h2⟩; exact ⟨_, _, rfl, ⟨r, rfl, rfl, h1⟩, h2⟩)
    have hchk : ∀ w', Kept [] w w' → Calls Try.prog 12 #[.agg #[.int .i64 dl, .int .i64 fr, .slice cA cl cC, .slice dA dl dC]] w' fun e w'' => e = .returned (.int .i64 0) ∧ Kept [] w' w'' := fun w' hk => by
      have := TR.check_any dl fr cC dC (HA.out.kept hk)
      rw [hok] at this
      exact this
    have hrw : ∀ w', Kept [] w w' → Calls Try.prog 13 #[.agg #[.int .i64 dl, .int .i64 fr, .slice cA cl cC, .slice dA dl dC], .int .i64 A, .int .u8 s] w' fun e w'' => ∃ v, e = .returned v ∧ Ints w'' w'.heap.size 3 v (zs ((rings (Z A) dl 246).filter (fun x : Nat => ND.hasB s x))) ∧ Kept [] w' w'' := fun w' hk => rwithin_ok (HA.out.kept hk) hok A haN s hs
    have hro : ∀ w', Kept [] w w' → Calls Try.prog 15 #[.agg #[.int .i64 dl, .int .i64 fr, .slice cA cl cC, .slice dA dl dC], .int .i64 A] w' fun e w'' => ∃ v, e = .returned v ∧ Ints w'' w'.heap.size 3 v (zs (rings (Z A) dl 246)) ∧ Kept [] w' w'' := fun w' hk => rorder_ok (HA.out.kept hk) hok A haN
    obtain ⟨l0, hl0⟩ : ∃ l, l = rings (Z A) dl 246 := ⟨_, rfl⟩
    obtain ⟨lst, hls⟩ : ∃ l, l = l0.filter (fun x : Nat => ND.hasB s x) := ⟨_, rfl⟩
    rw [← hl0, ← hls] at hrw
    rw [← hl0] at hro
    have HWL := hide (show ∀ f, PermF dl f → SortedF (Z A) dl f → wl f s dl = lst from fun f h1 h2 => by rw [hls, hl0]; exact wl_rings hdp haN h1 h2 s)
    have HML := hide (show ∀ f, PermF dl f → SortedF (Z A) dl f → (List.range dl).map f = l0 from fun f h1 h2 => by rw [hl0]; exact map_rings n8' hdp haN h1 h2)
    have HSF := hide (show ∀ f, PermF dl f → SortedF (Z A) dl f → f 0 = A from fun f h1 h2 => head_self hdp haN h1 h2)
    have HPW := hide (show lst.Pairwise (nearer (Z A)) from by rw [hls, hl0]; exact List.Pairwise.filter _ (rings_pair _ _ _))
    have HMM := hide (show ∀ x, x ∈ lst ↔ x < dl ∧ ND.hasB s x = true from fun x => by rw [hls, hl0, List.mem_filter, rings_in hdp haN])
    clear hl0 hls
    have HNR := hide hnear
    have HWI := hide hwi
    have HCH := hide hchk
    have HRW := hide hrw
    have HRO := hide hro
    have hA0 : (0 : Int) ≤ (A : Int) := by omega
    have hAi : (A : Int) < (dl : Int) := by omega
    clear hcut
    clear hok hdp hnear hwi hchk hrw hro
    clear t0 t1 t2 t3 a0 a1 a2
    have S2d : ST w dl fr cA cl cC dA dl dC A s mA ML mC w2.drew := ⟨S2.kept.drew, S2.t, S2.a⟩
    obtain ⟨t0, t1, t2, t3⟩ := S2.t
    obtain ⟨a0, a1, a2⟩ := S2.a
    go_region_held3 (fun w' => w'.cell? ⟨w.heap.size, 0, none⟩ = some (.int .i64 dl) ∧ w'.cell? ⟨w.heap.size, 1, none⟩ = some (.int .i64 fr) ∧ w'.cell? ⟨w.heap.size, 2, none⟩ = some (.slice cA cl cC) ∧ w'.cell? ⟨w.heap.size, 3, none⟩ = some (.slice dA dl dC) ∧ w'.cell? ⟨w.heap.size + 1, 0, none⟩ = some (.int .i64 A) ∧ w'.cell? ⟨w.heap.size + 1, 1, none⟩ = some (.int .u8 s) ∧ w'.cell? ⟨w.heap.size + 1, 2, none⟩ = some (.slice mA ML mC)) (go_keep) (first
      | (go_at_call 8; refine (hto _).mono ?_; rintro e wa ⟨rfl, hKa⟩; have Sa := S2d.next hKa; obtain ⟨t0', t1', t2', t3'⟩ := Sa.t; obtain ⟨a0', a1', a2'⟩ := Sa.a)
      | (go_at_call 7; refine (hord _ Sa.kept).mono ?_; rintro e w3 ⟨nb, f, rfl, hP, hS, hR, -, hKb⟩; have S3 := Sa.next hKb; obtain ⟨t0'', t1'', t2'', t3''⟩ := S3.t; obtain ⟨a0'', a1'', a2''⟩ := S3.a))
    have HP := hide (And.intro hP hS)
    have R3 := hide hR
    clear hP hS hR hord hKa hKb Sa S2d S2
    clear t0 t1 t2 t3 a0 a1 a2 t0' t1' t2' t3' a0' a1' a2' t0'' t1'' t2'' t3'' a0'' a1'' a2''
    obtain ⟨t0, t1, t2, t3⟩ := S3.t
    obtain ⟨a0, a1, a2⟩ := S3.a
    go_wp2_with fail
    clear t0 t1 t2 t3 a0 a1 a2
    have S3d : ST w dl fr cA cl cC dA dl dC A s mA ML mC w3.drew := ⟨S3.kept.drew, S3.t, S3.a⟩
    obtain ⟨t0, t1, t2, t3⟩ := S3.t
    obtain ⟨a0, a1, a2⟩ := S3.a
    go_region_held3 (fun w' => w'.cell? ⟨w.heap.size, 0, none⟩ = some (.int .i64 dl) ∧ w'.cell? ⟨w.heap.size, 1, none⟩ = some (.int .i64 fr) ∧ w'.cell? ⟨w.heap.size, 2, none⟩ = some (.slice cA cl cC) ∧ w'.cell? ⟨w.heap.size, 3, none⟩ = some (.slice dA dl dC) ∧ w'.cell? ⟨w.heap.size + 1, 0, none⟩ = some (.int .i64 A) ∧ w'.cell? ⟨w.heap.size + 1, 1, none⟩ = some (.int .u8 s) ∧ w'.cell? ⟨w.heap.size + 1, 2, none⟩ = some (.slice mA ML mC)) (go_keep) (first
      | (go_at_call 8; refine (hto _).mono ?_; rintro e wa ⟨rfl, hKa⟩; have Sa := S3d.next hKa; obtain ⟨t0', t1', t2', t3'⟩ := Sa.t; obtain ⟨a0', a1', a2'⟩ := Sa.a)
      | (go_at_call 9; refine (HWI.out _ Sa.kept).mono ?_; rintro e w4 ⟨g, v, rfl, hP, hS, hI, hKb⟩; have S4 := Sa.next hKb; obtain ⟨t0'', t1'', t2'', t3''⟩ := S4.t; obtain ⟨a0'', a1'', a2''⟩ := S4.a))
    have R4 := hide (hKb.row (hKa.row R3.out.drew (by simp)) (by simp))
    have hll : lst.length ≤ dl := by rw [← HWL.out g hP hS]; exact wl_le _ _ _
    have hl8 : ∀ x, x ∈ lst → x < 8 := fun x hx => by have := ((HMM.out x).1 hx).1; omega
    rw [HWL.out g hP hS] at hI
    have hzw : ∀ l : List Nat, (∀ x, x ∈ l → x < 8) → ∀ x, x ∈ zs l → (Lit.int .i64 x).wf = true := by
      intro l h x hx
      unfold zs at hx
      obtain ⟨y, hy, rfl⟩ := List.mem_map.1 hx
      have := h y hy
      exact WalkArith.wf_i64 (by simp; omega)
    have hzl : ∀ l : List Nat, (zs l).length = l.length := fun l => by unfold zs; simp
    have HZW := hide (And.intro hzw hzl)
    obtain ⟨ao4, cap4, rfl, hJ⟩ := hI.isInts (hzw lst hl8)
    rw [hzl] at hJ
    rw [hzl]
    have I4 := hide (show IsInts .i64 w4 ao4 lst.length (Zl lst) from hJ)
    clear hzw hzl hI hJ hP hS HWI hKa hKb Sa S3d S3 R3
    clear t0 t1 t2 t3 a0 a1 a2 t0' t1' t2' t3' a0' a1' a2' t0'' t1'' t2'' t3'' a0'' a1'' a2''
    obtain ⟨t0, t1, t2, t3⟩ := S4.t
    obtain ⟨a0, a1, a2⟩ := S4.a
    go_wp2_with fail
    clear t0 t1 t2 t3 a0 a1 a2
    have S4d : ST w dl fr cA cl cC dA dl dC A s mA ML mC w4.drew := ⟨S4.kept.drew, S4.t, S4.a⟩
    obtain ⟨t0, t1, t2, t3⟩ := S4.t
    obtain ⟨a0, a1, a2⟩ := S4.a
    go_region_held3 (fun w' => w'.cell? ⟨w.heap.size, 0, none⟩ = some (.int .i64 dl) ∧ w'.cell? ⟨w.heap.size, 1, none⟩ = some (.int .i64 fr) ∧ w'.cell? ⟨w.heap.size, 2, none⟩ = some (.slice cA cl cC) ∧ w'.cell? ⟨w.heap.size, 3, none⟩ = some (.slice dA dl dC) ∧ w'.cell? ⟨w.heap.size + 1, 0, none⟩ = some (.int .i64 A) ∧ w'.cell? ⟨w.heap.size + 1, 1, none⟩ = some (.int .u8 s) ∧ w'.cell? ⟨w.heap.size + 1, 2, none⟩ = some (.slice mA ML mC)) (go_keep) (first
      | (go_at_call 8; refine (hto _).mono ?_; rintro e wa ⟨rfl, hKa⟩; have Sa := S4d.next hKa; obtain ⟨t0', t1', t2', t3'⟩ := Sa.t; obtain ⟨a0', a1', a2'⟩ := Sa.a)
      | (go_at_call 10; refine (HNR.out _ Sa.kept).mono ?_; rintro e w5 ⟨y, ok, rfl, hNr, hKb⟩; have S5 := Sa.next hKb; obtain ⟨t0'', t1'', t2'', t3''⟩ := S5.t; obtain ⟨a0'', a1'', a2''⟩ := S5.a))
    have R5 := hide (hKb.row (hKa.row R4.out.drew (by simp)) (by simp))
    have I5 := hide (IsInts.kept (IsInts.kept (show IsInts .i64 w4.drew ao4 lst.length (Zl lst) from I4.out) hKa) hKb)
    have HR := hide hNr
    clear hNr HNR hKa hKb Sa S4d S4 R4 I4
    clear t0 t1 t2 t3 a0 a1 a2 t0' t1' t2' t3' a0' a1' a2' t0'' t1'' t2'' t3'' a0'' a1'' a2''
    obtain ⟨t0, t1, t2, t3⟩ := S5.t
    obtain ⟨a0, a1, a2⟩ := S5.a
    go_wp2_with fail
    refine (zones_true _).mono ?_
    rintro e w6 ⟨rfl, hK⟩
    have S6 := S5.next hK
    have R6 := hide (hK.row R5.out (by simp))
    have I6 := hide (IsInts.kept I5.out hK)
    clear hK S5 R5 I5 t0 t1 t2 t3 a0 a1 a2
    obtain ⟨t0, t1, t2, t3⟩ := S6.t
    obtain ⟨a0, a1, a2⟩ := S6.a
    go_wp2_with fail
    refine (HCH.out _ S6.kept).mono ?_
    rintro e w7 ⟨rfl, hK⟩
    have S7 := S6.next hK
    have R7 := hide (hK.row R6.out (by simp))
    have I7 := hide (IsInts.kept I6.out hK)
    clear hK S6 R6 I6 HCH t0 t1 t2 t3 a0 a1 a2
    obtain ⟨t0, t1, t2, t3⟩ := S7.t
    obtain ⟨a0, a1, a2⟩ := S7.a
    have g1 : decide ((A : Int) < 0) = false := decide_eq_false (by omega)
    have g2 : decide (dl ≤ A) = false := decide_eq_false (by omega)
    go_wp2_with fail
    try simp only [g1, g2, Bool.or_false, Bool.false_or]
    have hll0 : l0.length = dl := by rw [← HML.out f HP.out.1 HP.out.2]; simp
    have hl08 : ∀ x, x ∈ l0 → x < 8 := by
      intro x hx
      rw [← HML.out f HP.out.1 HP.out.2] at hx
      obtain ⟨i, hi, rfl⟩ := List.mem_map.1 hx
      have := HP.out.1.lt i (by simpa using hi)
      omega
    have hrw : ∀ w', Kept [] w w' → Calls Try.prog 13 #[.agg #[.int .i64 dl, .int .i64 fr, .slice cA cl cC, .slice dA dl dC], .int .i64 A, .int .u8 s] w' fun e w'' => ∃ ao cap, e = .returned (.slice ao lst.length cap) ∧ IsInts .i64 w'' ao lst.length (Zl lst) ∧ Kept [] w' w'' := fun w' hk => (HRW.out w' hk).mono (by
      rintro e w'' ⟨v, rfl, h1, h2⟩
      obtain ⟨ao, cap, rfl, hJ⟩ := h1.isInts (HZW.out.1 lst hl8)
      rw [HZW.out.2] at hJ
      rw [HZW.out.2]
      exact ⟨ao, cap, rfl, hJ, h2⟩)
    have hro : ∀ w', Kept [] w w' → Calls Try.prog 15 #[.agg #[.int .i64 dl, .int .i64 fr, .slice cA cl cC, .slice dA dl dC], .int .i64 A] w' fun e w'' => ∃ ao cap, e = .returned (.slice ao dl cap) ∧ IsInts .i64 w'' ao dl (Zl l0) ∧ Kept [] w' w'' := fun w' hk => (HRO.out w' hk).mono (by
      rintro e w'' ⟨v, rfl, h1, h2⟩
      obtain ⟨ao, cap, rfl, hJ⟩ := h1.isInts (HZW.out.1 l0 hl08)
      rw [HZW.out.2, hll0] at hJ
      rw [HZW.out.2, hll0]
      exact ⟨ao, cap, rfl, hJ, h2⟩)
    have HRO2 := hide hro
    clear hro HRO HRW
    refine (hrw _ S7.kept).mono ?_
    rintro e w8 ⟨ao8, cap8, rfl, hI8, hK⟩
    have S8 := S7.next hK
    have R8 := hide (hK.row R7.out (by simp))
    have I8 := hide (IsInts.kept I7.out hK)
    have J8 := hide hI8
    have L8 := hide (show IsInts .i64 w8 (some ⟨nb, 0, none⟩) dl (Zl l0) from by
      intro i hi
      refine ⟨nb, 0, rfl, ?_, ?_⟩
      · rw [Nat.zero_add, R8.out.cell hi, Zl_at (by omega), ← HML.out f HP.out.1 HP.out.2]
        unfold nums
        simp [List.getD_eq_getElem?_getD, hi]
      · rw [Zl_at (by omega)]
        have := hl08 (l0.getD i 0) (by rw [List.getD_eq_getElem?_getD, List.getElem?_eq_getElem (by omega)]; exact List.getElem_mem _)
        exact WalkArith.wf_i64 (by omega))
    have c0 := R8.out.cell (i := 0) (by omega)
    unfold nums at c0
    rw [HSF.out f HP.out.1 HP.out.2] at c0
    clear hrw hI8 hK S7 R7 I7 R8 t0 t1 t2 t3 a0 a1 a2 hl8 hl08 HZW HSF HML HWL hll0
    obtain ⟨t0, t1, t2, t3⟩ := S8.t
    obtain ⟨a0, a1, a2⟩ := S8.a
    have hdm : dl ≤ maxLen := by unfold maxLen; omega
    have hlm : lst.length ≤ maxLen := by unfold maxLen; omega
    have hd0 : (0 : Int) < (dl : Int) := by omega
    have hd1 : 0 < dl := by omega
    have hd2 : ¬ dl = 0 := by omega
    have hd3 : dl ≠ 0 := by omega
    have hd4 : decide (dl ≤ 0) = false := decide_eq_false (by omega)
    go_wp2_with fail
    have S8d : ST w dl fr cA cl cC dA dl dC A s mA ML mC w8.drew := ⟨S8.kept.drew, S8.t, S8.a⟩
    have hKd := (Kept.refl [] w8).drew
    clear t0 t1 t2 t3 a0 a1 a2
    obtain ⟨t0, t1, t2, t3⟩ := S8d.t
    obtain ⟨a0, a1, a2⟩ := S8d.a
    have c0d := hKd.cell c0 (by simp)
    have L8d := hide (IsInts.kept L8.out hKd)
    have I8d := hide (IsInts.kept I8.out hKd)
    have J8d := hide (IsInts.kept J8.out hKd)
    clear hKd L8 I8 J8 hto HA
    go_region_held3 (fun w' => w'.cell? ⟨w.heap.size, 0, none⟩ = some (.int .i64 dl) ∧ w'.cell? ⟨w.heap.size, 1, none⟩ = some (.int .i64 fr) ∧ w'.cell? ⟨w.heap.size, 2, none⟩ = some (.slice cA cl cC) ∧ w'.cell? ⟨w.heap.size, 3, none⟩ = some (.slice dA dl dC) ∧ w'.cell? ⟨w.heap.size + 1, 0, none⟩ = some (.int .i64 A) ∧ w'.cell? ⟨w.heap.size + 1, 1, none⟩ = some (.int .u8 s) ∧ w'.cell? ⟨w.heap.size + 1, 2, none⟩ = some (.slice mA ML mC) ∧ w'.cell? ⟨nb, 0, none⟩ = some (.int .i64 A)) (refine ⟨?_, ?_, ?_, ?_, ?_, ?_, ?_, ?_⟩ <;> assumption) (first
      | (go_at_call 15; refine (HRO2.out _ S8d.kept).mono ?_; rintro e w9 ⟨ao9, cap9, rfl, hI9, hK9⟩; have S9 := S8d.next hK9; obtain ⟨t0', t1', t2', t3'⟩ := S9.t; obtain ⟨a0', a1', a2'⟩ := S9.a; have c0' := hK9.cell c0d (by simp); have J9 := hide hI9; clear hI9; have hsm1 := same4_true (c1 := dl) (c2 := cap9) hdm (IsInts.kept L8d.out hK9) J9.out)
      | (go_at_call 14; with_reducible refine hsm1.mono ?_; rintro e w10 ⟨rfl, hK10⟩; have S10 := S9.next hK10; obtain ⟨t0'', t1'', t2'', t3''⟩ := S10.t; obtain ⟨a0'', a1'', a2''⟩ := S10.a; have c0'' := hK10.cell c0' (by simp); have M10 := hide (IsInts.kept (IsInts.kept I8d.out hK9) hK10); have N10 := hide (IsInts.kept (IsInts.kept J8d.out hK9) hK10); have hsm2 := same4_true (c1 := cap4) (c2 := cap8) hlm M10.out N10.out; clear hsm1)
      | (go_at_call 14; with_reducible refine hsm2.mono ?_; rintro e w11 ⟨rfl, hK11⟩; have S11 := S10.next hK11; obtain ⟨tx0, tx1, tx2, tx3⟩ := S11.t; obtain ⟨ax0, ax1, ax2⟩ := S11.a; have cx0 := hK11.cell c0'' (by simp); have N11 := hide (IsInts.kept N10.out hK11)))
    have K11 := hide S11.kept
    have HN11 := hide (show ∀ i, i < lst.length → ∃ b off, ao8 = some ⟨b, off, none⟩ ∧ w11.cell? ⟨b, off + i, none⟩ = some (.int .i64 (lst.getD i 0 : Nat)) from by
      intro i hi
      obtain ⟨b, off, e, hc, -⟩ := N11.out i hi
      rw [Zl_at hi] at hc
      exact ⟨b, off, e, hc⟩)
    clear t0 t1 t2 t3 a0 a1 a2 t0' t1' t2' t3' a0' a1' a2' t0'' t1'' t2'' t3'' a0'' a1'' a2'' tx0 tx1 tx2 tx3 ax0 ax1 ax2 c0 c0' c0'' cx0 S8 S8d S9 S10 S11 M10 N10 N11 hsm2 HRO2 I8d J8d L8d J9
    go_wp2
    go_loopw [14] (fun i wr => ∃ j : Nat, j ≤ lst.length ∧ i = .int .i64 j ∧ wr = w11 ∧ ∀ i, i < j → (ND.hasB s (lst.getD i 0) && mayB mL mz (lst.getD i 0)) = false) (fun i _ => lst.length - (intOf i).toNat)
    case atStart => exact ⟨0, by omega, rfl, rfl, fun i hi => absurd hi (Nat.not_lt_zero _)⟩
    case round =>
      obtain ⟨j, hj, rfl, hwr, hf⟩ := hrel
      subst wr
      have HG := hide hf
      clear hf
      by_cases hjl : j < lst.length
      · have hji : (j : Int) < (lst.length : Int) := by omega
        obtain ⟨b, off, hao, hc⟩ := HN11.out j hjl
        subst hao
        obtain ⟨x, hx⟩ : ∃ x, x = lst.getD j 0 := ⟨_, rfl⟩
        have hxm : x ∈ lst := by rw [hx, List.getD_eq_getElem?_getD, List.getElem?_eq_getElem hjl]; exact List.getElem_mem hjl
        obtain ⟨hx8, hbx⟩ := (HMM.out x).1 hxm
        rw [← hx] at hc
        have HX := hide hx
        clear hx hxm
        have NEXT := hide (show (ND.hasB s x && mayB mL mz x) = false → ∀ i, i < j + 1 → (ND.hasB s (lst.getD i 0) && mayB mL mz (lst.getD i 0)) = false from fun h0 i hi => by
          by_cases e : i = j
          · rw [e, ← HX.out]; exact h0
          · exact HG.out i (by omega))
        by_cases hym : x < mL
        · have hymi : (x : Int) < (mL : Int) := by omega
          obtain ⟨mb, mo, hmA, hmc⟩ := (HM.out.kept K11.out) x hym
          subst hmA
          cases hmy : mz x with
          | false =>
            rw [hmy] at hmc
            have OK := hide (NEXT.out (by unfold mayB; rw [hmy]; simp))
            clear hbx
            go_wp2
            go_roundw
            case rel => exact ⟨j + 1, by omega, by go_num, trivial, OK.out⟩
            case measure => simp [intOf]; omega
          | true =>
            rw [hmy] at hmc
            have RN := list_some (D := Z A) (n := dl) (p := fun y => ND.hasB s y && mayB mL mz y) HPW.out (fun y hy => by
              rw [HMM.out y]
              simp only [Bool.and_eq_true] at hy
              exact ⟨fun h => h.1, fun h => ⟨h, hy.1⟩⟩) (fun y hy => ((HMM.out y).1 hy).1) hjl HG.out (by rw [← HX.out]; unfold mayB; rw [hbx, hmy, decide_eq_true hym]; rfl)
            rw [← HX.out] at RN
            obtain ⟨r, e1, e2, e3⟩ := HR.out
            have e4 := e3.unique RN
            subst e4
            have e5 : y = x := e1
            have e6 : ok = true := e2
            clear e1 e2 e3 RN hbx
            subst e5 e6
            go_wp2
            go_ret
            exact ⟨rfl, K11.out⟩
        · have hymi : ¬ (x : Int) < (mL : Int) := by omega
          have OK := hide (NEXT.out (by unfold mayB; rw [decide_eq_false hym]; simp))
          clear hbx
          go_wp2
          go_roundw
          case rel => exact ⟨j + 1, by omega, by go_num, trivial, OK.out⟩
          case measure => simp [intOf]; omega
      · have e : j = lst.length := by omega
        have RN := list_none (D := Z A) (n := dl) (l := lst) (p := fun y => ND.hasB s y && mayB mL mz y) (fun y hy => by
          rw [HMM.out y]
          simp only [Bool.and_eq_true] at hy
          exact ⟨fun h => h.1, fun h => ⟨h, hy.1⟩⟩) (fun i hi => HG.out i (by omega))
        obtain ⟨r, e1, e2, e3⟩ := HR.out
        have e4 := e3.unique RN
        subst e4
        have e5 : y = 0 := e1
        have e6 : ok = false := e2
        have hji : ¬ (j : Int) < (lst.length : Int) := by omega
        clear e1 e2 e3 RN e
        subst e5 e6
        go_wp2
        go_ret
        exact ⟨rfl, K11.out⟩
  · have hQ : ∃ t q c, c ≠ 0 ∧ (t = tchk n fr cl cz dl L Z) ∧ (q = c) ∧ ((t = c) ∨ (t = 0 ∧ c = 10 ∧ (a < 0 ∨ (0 ≤ a ∧ n ≤ a)))) ∧ ∀ w', Kept [] w w' → Calls Try.prog 7 #[tval n fr cA cl cC dA dl dC, .int .i64 a] w' fun e w'' => e = .returned (.tuple #[.slice none 0 0, .int .i64 c]) ∧ Kept [] w' w'' := by
      by_cases h1 : tchk n fr cl cz dl L Z = 0
      · exact ⟨_, _, 10, by omega, rfl, rfl, .inr ⟨h1, rfl, by omega⟩, fun w' hk => order_node (HA.out.kept hk) h1 a (fun h => hok ⟨h1, h⟩)⟩
      · exact ⟨_, _, _, h1, rfl, rfl, .inl rfl, fun w' hk => order_bad (HA.out.kept hk) h1 a⟩
    obtain ⟨t, q, c, hc, ht, hq, hQ, hord⟩ := hQ
    have hwi := fun w' (hk : Kept [] w w') => within_bad (w := w') hc a s (fun w'' hk' => hord w'' (hk.next hk'))
    have hnear := fun w' (hk : Kept [] w w') => nearest_bad (w := w') hc a s mA mL mC (fun w'' hk' => hord w'' (hk.next hk'))
    have hchk : ∀ w', Kept [] w w' → Calls Try.prog 12 #[.agg #[.int .i64 n, .int .i64 fr, .slice cA cl cC, .slice dA dl dC]] w' fun e w'' => e = .returned (.int .i64 t) ∧ Kept [] w' w'' := fun w' hk => by
      have := TR.check_any n fr cC dC (HA.out.kept hk)
      rw [← ht] at this
      exact this
    unfold tval at hord hwi hnear
    have HNR := hide hnear
    have HWI := hide hwi
    have HCH := hide hchk
    have HQ := hide (And.intro hc hQ)
    clear hnear hwi hchk hok ht hq hcut hc hQ
    clear t0 t1 t2 t3 a0 a1 a2
    have S2d : ST w n fr cA cl cC dA dl dC a s mA ML mC w2.drew := ⟨S2.kept.drew, S2.t, S2.a⟩
    obtain ⟨t0, t1, t2, t3⟩ := S2.t
    obtain ⟨a0, a1, a2⟩ := S2.a
    go_region_held3 (fun w' => w'.cell? ⟨w.heap.size, 0, none⟩ = some (.int .i64 n) ∧ w'.cell? ⟨w.heap.size, 1, none⟩ = some (.int .i64 fr) ∧ w'.cell? ⟨w.heap.size, 2, none⟩ = some (.slice cA cl cC) ∧ w'.cell? ⟨w.heap.size, 3, none⟩ = some (.slice dA dl dC) ∧ w'.cell? ⟨w.heap.size + 1, 0, none⟩ = some (.int .i64 a) ∧ w'.cell? ⟨w.heap.size + 1, 1, none⟩ = some (.int .u8 s) ∧ w'.cell? ⟨w.heap.size + 1, 2, none⟩ = some (.slice mA ML mC)) (go_keep) (first
      | (go_at_call 8; refine (hto _).mono ?_; rintro e wa ⟨rfl, hKa⟩; have Sa := S2d.next hKa; obtain ⟨t0', t1', t2', t3'⟩ := Sa.t; obtain ⟨a0', a1', a2'⟩ := Sa.a)
      | (go_at_call 7; refine (hord _ Sa.kept).mono ?_; rintro e w3 ⟨rfl, hKb⟩; have S3 := Sa.next hKb; obtain ⟨t0'', t1'', t2'', t3''⟩ := S3.t; obtain ⟨a0'', a1'', a2''⟩ := S3.a))
    clear hord hKa hKb Sa S2d S2
    clear t0 t1 t2 t3 a0 a1 a2 t0' t1' t2' t3' a0' a1' a2' t0'' t1'' t2'' t3'' a0'' a1'' a2''
    obtain ⟨t0, t1, t2, t3⟩ := S3.t
    obtain ⟨a0, a1, a2⟩ := S3.a
    go_wp2_with fail
    clear t0 t1 t2 t3 a0 a1 a2
    have S3d : ST w n fr cA cl cC dA dl dC a s mA ML mC w3.drew := ⟨S3.kept.drew, S3.t, S3.a⟩
    obtain ⟨t0, t1, t2, t3⟩ := S3.t
    obtain ⟨a0, a1, a2⟩ := S3.a
    go_region_held3 (fun w' => w'.cell? ⟨w.heap.size, 0, none⟩ = some (.int .i64 n) ∧ w'.cell? ⟨w.heap.size, 1, none⟩ = some (.int .i64 fr) ∧ w'.cell? ⟨w.heap.size, 2, none⟩ = some (.slice cA cl cC) ∧ w'.cell? ⟨w.heap.size, 3, none⟩ = some (.slice dA dl dC) ∧ w'.cell? ⟨w.heap.size + 1, 0, none⟩ = some (.int .i64 a) ∧ w'.cell? ⟨w.heap.size + 1, 1, none⟩ = some (.int .u8 s) ∧ w'.cell? ⟨w.heap.size + 1, 2, none⟩ = some (.slice mA ML mC)) (go_keep) (first
      | (go_at_call 8; refine (hto _).mono ?_; rintro e wa ⟨rfl, hKa⟩; have Sa := S3d.next hKa; obtain ⟨t0', t1', t2', t3'⟩ := Sa.t; obtain ⟨a0', a1', a2'⟩ := Sa.a)
      | (go_at_call 9; refine (HWI.out _ Sa.kept).mono ?_; rintro e w4 ⟨rfl, hKb⟩; have S4 := Sa.next hKb; obtain ⟨t0'', t1'', t2'', t3''⟩ := S4.t; obtain ⟨a0'', a1'', a2''⟩ := S4.a))
    clear HWI hKa hKb Sa S3d S3
    clear t0 t1 t2 t3 a0 a1 a2 t0' t1' t2' t3' a0' a1' a2' t0'' t1'' t2'' t3'' a0'' a1'' a2''
    obtain ⟨t0, t1, t2, t3⟩ := S4.t
    obtain ⟨a0, a1, a2⟩ := S4.a
    go_wp2_with fail
    clear t0 t1 t2 t3 a0 a1 a2
    have S4d : ST w n fr cA cl cC dA dl dC a s mA ML mC w4.drew := ⟨S4.kept.drew, S4.t, S4.a⟩
    obtain ⟨t0, t1, t2, t3⟩ := S4.t
    obtain ⟨a0, a1, a2⟩ := S4.a
    go_region_held3 (fun w' => w'.cell? ⟨w.heap.size, 0, none⟩ = some (.int .i64 n) ∧ w'.cell? ⟨w.heap.size, 1, none⟩ = some (.int .i64 fr) ∧ w'.cell? ⟨w.heap.size, 2, none⟩ = some (.slice cA cl cC) ∧ w'.cell? ⟨w.heap.size, 3, none⟩ = some (.slice dA dl dC) ∧ w'.cell? ⟨w.heap.size + 1, 0, none⟩ = some (.int .i64 a) ∧ w'.cell? ⟨w.heap.size + 1, 1, none⟩ = some (.int .u8 s) ∧ w'.cell? ⟨w.heap.size + 1, 2, none⟩ = some (.slice mA ML mC)) (go_keep) (first
      | (go_at_call 8; refine (hto _).mono ?_; rintro e wa ⟨rfl, hKa⟩; have Sa := S4d.next hKa; obtain ⟨t0', t1', t2', t3'⟩ := Sa.t; obtain ⟨a0', a1', a2'⟩ := Sa.a)
      | (go_at_call 10; refine (HNR.out _ Sa.kept).mono ?_; rintro e w5 ⟨rfl, hKb⟩; have S5 := Sa.next hKb; obtain ⟨t0'', t1'', t2'', t3''⟩ := S5.t; obtain ⟨a0'', a1'', a2''⟩ := S5.a))
    clear HNR hKa hKb Sa S4d S4
    clear t0 t1 t2 t3 a0 a1 a2 t0' t1' t2' t3' a0' a1' a2' t0'' t1'' t2'' t3'' a0'' a1'' a2''
    obtain ⟨t0, t1, t2, t3⟩ := S5.t
    obtain ⟨a0, a1, a2⟩ := S5.a
    go_wp2_with fail
    refine (zones_true _).mono ?_
    rintro e w6 ⟨rfl, hK⟩
    have S6 := S5.next hK
    clear hK S5 t0 t1 t2 t3 a0 a1 a2
    obtain ⟨t0, t1, t2, t3⟩ := S6.t
    obtain ⟨a0, a1, a2⟩ := S6.a
    go_wp2_with fail
    refine (HCH.out _ S6.kept).mono ?_
    rintro e w7 ⟨rfl, hK⟩
    have S7 := S6.next hK
    have K7 := hide S7.kept
    clear hK S6 HCH t0 t1 t2 t3 a0 a1 a2
    obtain ⟨t0, t1, t2, t3⟩ := S7.t
    obtain ⟨a0, a1, a2⟩ := S7.a
    clear S7 hto HA HM
    obtain ⟨hc, hQ⟩ := HQ.out
    clear HQ
    rcases hQ with hQ | ⟨hQ, hQc, hQa⟩
    · subst hQ
      have e1 : (t == 0) = false := by simpa using hc
      have e2 : (t != 0) = true := by simpa using hc
      have e3 : (t == t) = true := by simp
      clear hc
      go_wp2
      go_ret
      exact ⟨rfl, K7.out⟩
    · subst hQ hQc
      rcases hQa with hQa | ⟨h0, hQa⟩
      · go_wp2
        go_ret
        exact ⟨rfl, K7.out⟩
      · go_wp2
        go_ret
        exact ⟨rfl, K7.out⟩

theorem own : ownKnob Try.prog.godebug = none := by kernel_rfl
theorem laidOut : laidOutB Try.prog = true := by kernel_rfl

set_option maxRecDepth 100000 in
theorem lifted (os : Os) (started : os.Started) (H : Type) (enc : TypeId × Value → H) :
    ReturnsInHanded {} Try.checked os 3 .any (Rows.zoneOrdersSpec.pre6 enc Try.prog Try.f3 Rows.zoneOrdersRow.domain false) (Rows.zoneOrdersSpec.post enc Try.prog Try.f3 false true false false) := by
  refine returnsInHanded_of_change (C := Try.checked) own started (by kernel_rfl) Try.func3
    (ChangeSpec.witness6 (enc := enc) (C := Try.checked) false ⟨#[], #[.agg #[.int .i64 0, .int .i64 0, .slice none 0 0, .slice none 0 0], .agg #[.int .i64 0, .int .u8 0, .slice none 0 0]], []⟩ 8 (by kernel_rfl) (by kernel_rfl) (by kernel_rfl) (by kernel_rfl)) ?_
  intro W base args ds gs before hval0 hW hcnd _
  have hval : ∀ (j : Nat) t v, Try.f3.params[j]? = some t → args[j]? = some v → Value.okWide Try.prog W .any base t v := hval0
  have hW' := hW
  obtain ⟨p, q, hA0, hV, rfl, hfz, hnd⟩ := hW
  have hA : DataW.TrodAll enc Try.prog W 0 (fun _ => true) true Try.f3.params.toList args.toList ds p := hA0
  have hK := hA
  rw [Try.params3] at hA hval
  obtain ⟨v0, vs0, d0, ds0, p0, q0, hargs, rfl, rfl, h0, r0⟩ := trodAll_cons hA
  obtain ⟨v1, vs1, d1, ds1, p1, q1, rfl, rfl, rfl, h1, r1⟩ := trodAll_cons r0
  obtain ⟨rfl, rfl, rfl⟩ := trodAll_nil r1
  obtain rfl : args = #[v0, v1] := by cases args; simp_all
  obtain ⟨rfl, rfl⟩ := trodVars_none hV
  obtain ⟨n, fr, cA, cL, cC, cz, dA, dL, dC, L, Z, rfl, hc, hd, wn, wfr, hAt⟩ := open_topo (e2 := 3) (e3 := 22) (q3 := 3) Try.underlying25 (by kernel_rfl) rfl rfl rfl rfl (by kernel_rfl) (by kernel_rfl) (by kernel_rfl) (by kernel_rfl) (by kernel_rfl) (by kernel_rfl) (by kernel_rfl) (by kernel_rfl) (by kernel_rfl) (by kernel_rfl) (by kernel_rfl) (by kernel_rfl) (by kernel_rfl) (by kernel_rfl) h0
  obtain ⟨nd, si, mA, mL, mC, mz, rfl, hm1, hm2, hm3, wc, wcu, hMb⟩ := open_ask2 (k0 := .i64) (k1 := .u8) (e2 := 4) Try.underlying28 (by kernel_rfl) rfl rfl rfl (by kernel_rfl) (by kernel_rfl) (by kernel_rfl) (by kernel_rfl) (by kernel_rfl) (by kernel_rfl) (by kernel_rfl) (by kernel_rfl) h1
  obtain ⟨s, rfl⟩ := Int.eq_ofNat_of_zero_le (bounds_u8 wcu).1
  have hs : s < 256 := by have := (bounds_u8 wcu).2; omega
  clear hA0 hval0
  refine (law_any hAt hc hd nd s hs hMb hm1 hm2).mono fun e W' ⟨he, hk⟩ => ?_
  subst he
  exact ⟨_, rfl, _, _, _, [], _, [], hW', trodAll_mk1 (shut_bool Try.underlying4 _), trodAll_below laidOut hk.below _ _ _ _ hK (by kernel_rfl), rfl, hk.below.frame _, fun h => by cases h⟩

theorem said : Rows.ZoneOrdersSaid :=
  OpenClaim.holds_of_wide 3 Try.f3 rfl rfl rfl rfl rfl rfl rfl ⟨rfl, rfl, rfl, rfl, rfl⟩ rfl rfl rfl rfl rfl (by kernel_rfl) Try.func3 (by kernel_rfl)
    (of_decide_eq_true (by kernel_rfl)) (by unfold Func.isWrapper; first | (rw [if_pos (by decide +kernel)]; kernel_rfl) | (rw [if_neg (by decide +kernel)]; exact ⟨rfl, rfl⟩))
    (fun os started H enc _ => lifted os started H enc)
end Go.Proofs.Ytnokpecdkibddab.LO
