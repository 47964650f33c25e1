/-
  StatsCounts: for every number of nodes and every row of events the law answers true, and its arguments read behind the call as before; no condition.
-/
import Derived.Test.YtbejafjpdplofaaSts8
import Derived.Test.YtbejafjpdplofaaSts6
import Derived.Test.YtbejafjpdplofaaRows
namespace Go.Proofs.Ytbejafjpdplofaa.LK
open Go.ChangeShapes Go.WideShapes Go.ChangeAt Go.RowKit St By
theorem lt_of_cell {w : World} {b i : Nat} {v : Value} (h : w.cell? ⟨b, i, none⟩ = some v) : b < w.heap.size := World.block_lt_of_cell? w ⟨b, i, none⟩ h
theorem infoR : ∃ i, Try.prog.info? 38 = some i ∧ i.zero = some (.agg #[.int .i64 0, .int .i64 0, .int .i64 0, .bool false]) ∧ i.size = 4 ∧ i.bytes = 32 := by
  have h : (Try.prog.info? 38).map (fun i => (i.zero, i.size, i.bytes)) = some (some (.agg #[.int .i64 0, .int .i64 0, .int .i64 0, .bool false]), 4, 32) := by kernel_rfl
  obtain ⟨ti, hti, hz⟩ := Option.map_eq_some_iff.1 h
  simp only [Prod.mk.injEq] at hz
  exact ⟨ti, hti, hz.1, hz.2.1, hz.2.2⟩
/-- A log behind W, and the events that went in, in a row of the law's own. -/
structure LC (W w : World) (p cb n : Nat) (ev : Value) (l : List Ex) (av : Value) : Prop where
  lb : LB W w p cb n ev l
  own : w.ownsRow W.heap.size 38 4 av (evs n l).length (fl (evs n l))
  ap : ∀ b, av.ownBlock = some b → b ∉ foot p cb ev
section
variable {W w : World} {p cb n : Nat} {ev : Value} {l : List Ex} {av : Value}
theorem LC.next {w' : World} (h : LC W w p cb n ev l av) (k : Kept [] w w') : LC W w' p cb n ev l av := ⟨h.lb.next k, own_kept h.own k (by simp), h.ap⟩
/-- Behind an Add, ahead of the append. -/
structure LD (W w : World) (p cb n : Nat) (ev : Value) (l : List Ex) (av : Value) (x : Ex) : Prop where
  lb : LB W w p cb n ev (l ++ [x])
  own : w.ownsRow W.heap.size 38 4 av (evs n l).length (fl (evs n l))
  ap : ∀ b, av.ownBlock = some b → b ∉ foot p cb ev
theorem LD.next {w' : World} {x : Ex} (h : LD W w p cb n ev l av x) (k : Kept [] w w') : LD W w' p cb n ev l av x := ⟨h.lb.next k, own_kept h.own k (by simp), h.ap⟩
theorem LC.add (h : LC W w p cb n ev l av) (hn0 : 0 < n) (x : Ex) (hl : l.length ≤ 1000) : Calls Try.prog 9 #[.pointer (some ⟨p, 0, none⟩), .agg #[.int .i64 x.a, .int .i64 x.b, .int .i64 x.c, .bool x.d]] w fun e w' =>
    e = .returned (.int .i64 (errR n x)) ∧ ∃ ev', LD W w' p cb n ev' l av x ∧ Kept (foot p cb ev) w w' := by
  refine (h.lb.add hn0 x hl).mono ?_
  rintro e w' ⟨rfl, ev', h1, h2, h3⟩
  refine ⟨rfl, ev', ⟨h1, own_keptF h.own h2 h.ap, fun b hb hf => ?_⟩, h2⟩
  rcases h3 b hf with e | e
  · exact h.ap b hb e
  · have := (h.own.lt b hb).2; omega
theorem LD.no {x : Ex} (h : LD W w p cb n ev l av x) (hx : x.ok n = false) : LC W w p cb n ev (l ++ [x]) av :=
  ⟨h.lb, by rw [evs_snoc, hx]; exact h.own, h.ap⟩
theorem LD.yes {x : Ex} {w2 w5 : World} {v' : Value} (h : LD W w p cb n ev l av x) (hx : x.ok n = true) (hw : Kept [] w w2) (o : w5.ownsRow W.heap.size 38 4 v' ((evs n l).length + 1) (fl (evs n l) ++ x.ev.v)) (g : w2.grownBy w5 av.ownBlock)
    (b5 : v'.ownBlock = av.ownBlock ∨ v'.ownBlock = some w2.heap.size) : LC W w5 p cb n ev (l ++ [x]) v' := by
  have K : Kept av.ownBlock.toList w w5 := (hw.mono (M := av.ownBlock.toList) (fun _ hm _ => by cases hm)).trans (Kept.of_grownBy (L := av.ownBlock.toList) g (fun k hk _ => by rw [hk]; simp)) (fun _ hm _ => hm)
  refine ⟨⟨h.lb.la.kept K (fun b hb hm => h.ap b (by simpa using hm) hb), h.lb.kept.trans K (fun y hy hl => ?_), h.lb.far⟩, ?_, fun b hb hf => ?_⟩
  · have := (h.own.lt y (by simpa using hy)).1; omega
  · rw [evs_snoc, if_pos hx, List.length_append, fl_append, fl_one]; exact o
  · rcases b5 with e | e
    · exact h.ap b (by rw [← e]; exact hb) hf
    · rw [e] at hb
      cases hb
      have := h.lb.la.lt hf
      have := hw.size
      omega
end
/-- The sums over the nodes below k. -/
def sm (l : List Ev) (q r : Nat) : Nat → Nat
  | 0 => 0
  | k + 1 => sm l q r k + cn l (k * 6 + q) + cn l (k * 6 + r)
theorem sm_nil (q r : Nat) : ∀ k, sm [] q r k = 0
  | 0 => rfl
  | k + 1 => by unfold sm; rw [sm_nil q r k]; rfl
theorem cn_cons (x : Ev) (l : List Ev) (k q : Nat) (hq : q < 6) : cn (x :: l) (k * 6 + q) = cn l (k * 6 + q) + (if pE x k q then 1 else 0) := by
  unfold cn
  rw [List.countP_cons, show (k * 6 + q) / 6 = k by omega, show (k * 6 + q) % 6 = q by omega]
theorem sm_cons (x : Ev) (l : List Ev) (q r : Nat) (hq : q < 6) (hr : r < 6) (h : ∀ k, (if pE x k q then 1 else 0) + (if pE x k r then 1 else 0) = if x.a = k then 1 else 0) : ∀ k, sm (x :: l) q r k = sm l q r k + (if x.a < k then 1 else 0)
  | 0 => by simp [sm]
  | k + 1 => by
    unfold sm
    rw [sm_cons x l q r hq hr h k, cn_cons x l k q hq, cn_cons x l k r hr]
    have hk := h k
    generalize (if pE x k q = true then 1 else 0) = A at hk ⊢
    generalize (if pE x k r = true then 1 else 0) = B at hk ⊢
    by_cases e1 : x.a = k
    · rw [if_pos e1] at hk
      rw [show (if x.a < k then 1 else 0) = 0 from if_neg (by omega), show (if x.a < k + 1 then 1 else 0) = 1 from if_pos (by omega)]; omega
    · rw [if_neg e1] at hk
      by_cases e2 : x.a < k
      · rw [show (if x.a < k then 1 else 0) = 1 from if_pos e2, show (if x.a < k + 1 then 1 else 0) = 1 from if_pos (by omega)]; omega
      · rw [show (if x.a < k then 1 else 0) = 0 from if_neg e2, show (if x.a < k + 1 then 1 else 0) = 0 from if_neg (by omega)]; omega
theorem sm_all (q r n : Nat) (hq : q < 6) (hr : r < 6) (h : ∀ (x : Ev) k, (if pE x k q then 1 else 0) + (if pE x k r then 1 else 0) = if x.a = k then 1 else 0) : ∀ l : List Ev, (∀ x, x ∈ l → x.a < n) → sm l q r n = l.length
  | [], _ => sm_nil q r n
  | x :: l, hl => by
    rw [sm_cons x l q r hq hr (h x), sm_all q r n hq hr h l (fun y hy => hl y (List.mem_cons_of_mem _ hy)), if_pos (hl x List.mem_cons_self)]
    rfl
theorem p01 (x : Ev) (k : Nat) : (if pE x k 0 then 1 else 0) + (if pE x k 1 then 1 else 0) = if x.a = k then 1 else 0 := by
  unfold pE
  by_cases e : x.a = k <;> by_cases e2 : x.b = k <;> simp [e, e2]
theorem p34 (x : Ev) (k : Nat) : (if pE x k 3 then 1 else 0) + (if pE x k 4 then 1 else 0) = if x.a = k then 1 else 0 := by
  unfold pE
  by_cases e : x.a = k <;> by_cases e2 : x.c = k <;> simp [e, e2]
theorem evs_lt (n : Nat) (l : List Ex) : ∀ y, y ∈ evs n l → y.a < n := by
  intro y hy
  unfold evs at hy
  obtain ⟨x, hx, rfl⟩ := List.mem_map.1 hy
  have h2 := (List.mem_filter.1 hx).2
  have hr : (0 ≤ x.a ∧ x.a < n) ∧ (0 ≤ x.b ∧ x.b < n) ∧ (0 ≤ x.c ∧ x.c < n) := of_decide_eq_true h2
  show x.a.toNat < n
  omega
theorem sm_le (l : List Ev) (q r : Nat) : ∀ k, sm l q r k ≤ 2 * k * l.length
  | 0 => by simp [sm]
  | k + 1 => by
    unfold sm
    have h1 := sm_le l q r k
    have h2 := cn_le l (k * 6 + q)
    have h3 := cn_le l (k * 6 + r)
    have h4 : 2 * (k + 1) * l.length = 2 * k * l.length + 2 * l.length := by rw [Nat.mul_add, Nat.add_mul]
    omega
theorem eqT6 (d : Nat) (a b c e f g : Int) (w : World) : (Op.equalIn (d + 2) 40 (.agg #[.int .i64 a, .int .i64 b, .int .i64 c, .int .i64 e, .int .i64 f, .int .i64 g]) (.agg #[.int .i64 a, .int .i64 b, .int .i64 c, .int .i64 e, .int .i64 f, .int .i64 g])).run Try.prog w = .ok true w := by
  rw [Op.equalIn]
  simp only [Sem.run_bind, run_underlying Try.underlying40, Result.andThen_ok]
  have h0 : ∀ (x1 x2 x3 x4 x5 x6 : Value) (w : World), (part 3 #[x1, x2, x3, x4, x5, x6] 0).run Try.prog w = .ok x1 w := fun _ _ _ _ _ _ w => by simp [part, Try.isAgg3]
  have h1 : ∀ (x1 x2 x3 x4 x5 x6 : Value) (w : World), (part 3 #[x1, x2, x3, x4, x5, x6] 1).run Try.prog w = .ok x2 w := fun _ _ _ _ _ _ w => by simp [part, Try.isAgg3]
  have h2 : ∀ (x1 x2 x3 x4 x5 x6 : Value) (w : World), (part 3 #[x1, x2, x3, x4, x5, x6] 2).run Try.prog w = .ok x3 w := fun _ _ _ _ _ _ w => by simp [part, Try.isAgg3]
  have h3 : ∀ (x1 x2 x3 x4 x5 x6 : Value) (w : World), (part 3 #[x1, x2, x3, x4, x5, x6] 3).run Try.prog w = .ok x4 w := fun _ _ _ _ _ _ w => by simp [part, Try.isAgg3]
  have h4 : ∀ (x1 x2 x3 x4 x5 x6 : Value) (w : World), (part 3 #[x1, x2, x3, x4, x5, x6] 4).run Try.prog w = .ok x5 w := fun _ _ _ _ _ _ w => by simp [part, Try.isAgg3]
  have h5 : ∀ (x1 x2 x3 x4 x5 x6 : Value) (w : World), (part 3 #[x1, x2, x3, x4, x5, x6] 5).run Try.prog w = .ok x6 w := fun _ _ _ _ _ _ w => by simp [part, Try.isAgg3]
  have eq3 : ∀ (d : Nat) (x : Int) (w : World), (Op.equalIn (d + 1) 3 (.int .i64 x) (.int .i64 x)).run Try.prog w = .ok true w := fun d x w => by
    rw [Op.equalIn]; simp [run_underlying Try.underlying3]
  simp only [Try.sizeOf3, Result.andThen_ok]
  rw [Std.Legacy.Range.forIn_eq_forIn_range']
  simp [List.range', h0, h1, h2, h3, h4, h5, eq3]
set_option maxRecDepth 20000 in
set_option maxHeartbeats 4000000 in
theorem walkA (x : Int) (hx : x < 1 ∨ 8 < x) {ao : Option Addr} {len cap : Nat} (w : World) : Calls Try.prog 3 #[.int .i64 x, .slice ao len cap] w fun e w' => e = .returned (.bool true) ∧ Kept [] w w' := by
  have HX := hide hx
  have hnil := fun w => node_nil 0 w
  unfold zC at hnil
  have HN := hide hnil
  clear hx hnil
  go_enter Try.func3, Try.ntmps3
  go_wp2_with (first | (go_at_call 6; refine (none_ok _).mono ?_; rintro e w' ⟨rfl, hw⟩; subst w') | (go_at_call 7; refine (HN.out _).mono ?_; rintro e w1 ⟨rfl, hk1⟩))
  refine (counts_true _).mono ?_
  rintro e w2 ⟨rfl, hk2⟩
  have K2 := hide ((hk1.alloc (.cells #[.int .i64 0, .int .i64 0, .int .i64 0, .int .i64 0, .int .i64 0, .int .i64 0] 24)).next hk2)
  clear hk1 hk2 HN
  go_wp2_with (first | (go_at_call 6; refine (none_ok _).mono ?_; rintro e w' ⟨rfl, hw⟩; subst w') | (go_at_call 9; refine (add_nil _ _ _ _ _).mono ?_; rintro e w3 ⟨rfl, hk3⟩) | (go_at_call 10; refine (events_nil _).mono ?_; rintro e w' ⟨rfl, hw⟩; subst w'))
  refine (new_no x HX.out _).mono ?_
  rintro e w' ⟨rfl, hw⟩
  subst w'
  have K3 := hide (K2.out.next hk3)
  clear hk3 K2
  rcases HX.out with h | h
  · clear HX
    go_wp2
    go_ret
    exact ⟨rfl, K3.out⟩
  · have h1 : ¬ x < 1 := by omega
    clear HX
    go_wp2
    go_ret
    exact ⟨rfl, K3.out⟩
set_option maxRecDepth 20000 in
set_option maxHeartbeats 8000000 in
theorem walkB (n : Nat) (h1 : 1 ≤ n) (h8 : n ≤ 8) {ao : Option Addr} {len cap : Nat} {X : Nat → Ex} {w : World} (_hl : len ≤ maxLen) (hX : IsExs w ao len X) : Calls Try.prog 3 #[.int .i64 n, .slice ao len cap] w fun e w' => e = .returned (.bool true) ∧ Kept [] w w' := by
  unfold maxLen at _hl
  have HX := hide hX
  have hnil := fun w => node_nil 0 w
  unfold zC at hnil
  have HN := hide hnil
  obtain ⟨i3, I3, Z3, S3, B3⟩ := infoR
  have I := hide I3
  have Z := hide Z3
  have SZ := hide S3
  have B := hide B3
  have hn1 : ¬ (n : Int) < 1 := by omega
  have hn8 : ¬ 8 < (n : Int) := by omega
  clear hX hnil I3 Z3 S3 B3
  go_enter Try.func3, Try.ntmps3
  go_wp2_with (first | (go_at_call 6; refine (none_ok _).mono ?_; rintro e w' ⟨rfl, hw⟩; subst w') | (go_at_call 7; refine (HN.out _).mono ?_; rintro e w1 ⟨rfl, hk1⟩))
  refine (counts_true _).mono ?_
  rintro e w2 ⟨rfl, hk2⟩
  have K2 := hide ((hk1.alloc (.cells #[.int .i64 0, .int .i64 0, .int .i64 0, .int .i64 0, .int .i64 0, .int .i64 0] 24)).next hk2)
  clear hk1 hk2 HN
  go_wp2_with (first | (go_at_call 6; refine (none_ok _).mono ?_; rintro e w' ⟨rfl, hw⟩; subst w') | (go_at_call 9; refine (add_nil _ _ _ _ _).mono ?_; rintro e w3 ⟨rfl, hk3⟩) | (go_at_call 10; refine (events_nil _).mono ?_; rintro e w' ⟨rfl, hw⟩; subst w'))
  refine (new_ok n h1 h8 _).mono ?_
  rintro e w4 ⟨p, cb, rfl, hL, hf, hk4⟩
  have A4 := hide (show LC w w4 p cb n (.slice none 0 0) (fw X 0) (.slice none 0 0) from ⟨LB.of_new (K2.out.next hk3) hL hf hk4, World.ownsRow_nil _ _ _ _, fun b hb => by cases hb⟩)
  clear hL hf hk4 hk3 K2
  go_wp2_with fail
  go_loopw [9, 10] (fun av v wr => ∃ (i : Nat) (ev : Value), v = .int .i64 i ∧ i ≤ len ∧ i ≤ 60 ∧ LC w wr p cb n ev (fw X i) av) (fun _ v _ => 60 - (intOf v).toNat)
  case atStart => exact ⟨0, _, rfl, by omega, by omega, A4.out⟩
  case round =>
    obtain ⟨i, ev, rfl, hi1, hi2, hA⟩ := hrel
    have A := hide hA
    clear hA A4
    by_cases hi : i < len ∧ i < 60
    · obtain ⟨bb, off, rfl, y0, y1, y2, y3⟩ := (HX.out.kept A.out.lb.kept) i hi.1
      have hi0 : (0 : Int) ≤ (i : Int) := by omega
      have hi3 : (i : Int) < (len : Int) := by omega
      have hi4 : (i : Int) < 60 := by omega
      have hfl := hide (show (fw X i).length ≤ 60 by simp [fw]; omega)
      obtain ⟨x, hx⟩ : ∃ x, X i = x := ⟨_, rfl⟩
      rw [hx] at y0 y1 y2 y3
      have HXI := hide hx
      obtain ⟨xa, xb, xc, xd⟩ := x
      simp only at y0 y1 y2 y3
      have CX := hide (Cel.new wr ⟨xa, xb, xc, xd⟩)
      have KX := (Kept.refl [] wr).alloc (Ex.obj ⟨xa, xb, xc, xd⟩)
      have A1 := hide (A.out.next KX)
      have NF := hide (show wr.heap.size ∉ foot p cb ev from fun hm => Nat.lt_irrefl _ (A.out.lb.la.lt hm))
      obtain ⟨z0, z1, z2, z3⟩ := CX.out
      unfold Ex.obj at CX A1 z0 z1 z2 z3
      clear hx KX A
      go_wp2_with fail
      refine (A1.out.add h1 ⟨xa, xb, xc, xd⟩ (by have := hfl.out; omega)).mono ?_
      rintro e w5 ⟨rfl, ev5, hD, k5⟩
      have D5 := hide hD
      obtain ⟨t0, t1, t2, t3⟩ := CX.out.kept k5 NF.out
      have C5 := hide (CX.out.kept k5 NF.out)
      have hlt := hide (show wr.heap.size ∉ ([] : List Nat) by simp)
      clear hD k5 CX A1 NF z0 z1 z2 z3 y0 y1 y2 y3 hlt
      generalize wr.heap.size = xp at *
      have hr := fun w => right_any xa xb xc xd (n : Int) w
      cases hok : Ex.ok n ⟨xa, xb, xc, xd⟩ with
      | true =>
        have hrr : (0 ≤ xa ∧ xa < n) ∧ (0 ≤ xb ∧ xb < n) ∧ (0 ≤ xc ∧ xc < n) := of_decide_eq_true hok
        obtain ⟨xan, rfl⟩ := Int.eq_ofNat_of_zero_le hrr.1.1
        obtain ⟨xbn, rfl⟩ := Int.eq_ofNat_of_zero_le hrr.2.1.1
        obtain ⟨xcn, rfl⟩ := Int.eq_ofNat_of_zero_le hrr.2.2.1
        rw [show rightB (n : Int) xan xbn xcn = true from hok] at hr
        have hle := evs_le n (fw X i)
        have HLE := hide (show (evs n (fw X i)).length ≤ 60 from Nat.le_trans hle hfl.out)
        have HR := hide hr
        have herr : errR n ⟨xan, xbn, xcn, xd⟩ = 0 := by unfold errR; rw [hok]; rfl
        rw [herr]
        have HOK := hide hok
        clear hr hok herr hrr hle
        go_wp2_with (first
          | (go_at_call 12; refine (HR.out _).mono ?_; rintro e w6 ⟨rfl, hk6⟩; have D6 := hide (D5.out.next hk6); obtain ⟨s0, s1, s2, s3⟩ := C5.out.kept hk6 (by simp))
          | (at_builtin; refine wpList_append_own_at _ rfl _ _ _ rfl w.heap.size 38 i3 (.agg #[.int .i64 0, .int .i64 0, .int .i64 0, .bool false]) 4 32 Try.underlying22 I.out Z.out SZ.out B.out rfl (by decide) u9 (evs n (fw X i)).length (fl (evs n (fw X i))) rfl (own_kept D6.out.own ((Kept.refl [] w6).alloc _) (by simp)) ⟨_, 0, none⟩ 1 1 [.int .i64 xan, .int .i64 xbn, .int .i64 xcn, .bool xd] rfl rfl (fun j u hj => news_four (w := w6) j u hj) (one_v ⟨xan, xbn, xcn, xd⟩) (by have := HLE.out; unfold maxLen; omega) (by have := HLE.out; omega) (by have := D6.out.lb.kept.size; simp; omega) ?_))
        intro v7 w7 o7 g7 _ b7
        have A7 := hide (D6.out.yes HOK.out ((Kept.refl [] w6).alloc _) o7 g7 (by simpa using b7))
        clear o7 g7 b7 D6 D5 C5 HR hk6
        go_wp2
        go_roundw
        case rel => exact ⟨i + 1, _, by go_num, by omega, by omega, by rw [fw_succ, HXI.out]; exact A7.out⟩
        case measure => simp [intOf]; omega
      | false =>
        rw [show rightB (n : Int) xa xb xc = false from hok] at hr
        have HR := hide hr
        have herr : errR n ⟨xa, xb, xc, xd⟩ = 10 := by unfold errR; rw [hok]; rfl
        rw [herr]
        have HOK := hide hok
        clear hr hok herr
        go_wp2_with (go_at_call 12; refine (HR.out _).mono ?_; rintro e w6 ⟨rfl, hk6⟩)
        have A6 := hide ((D5.out.next hk6).no HOK.out)
        clear hk6 D5 C5 HR
        go_roundw
        case rel => exact ⟨i + 1, _, by go_num, by omega, by omega, by rw [fw_succ, HXI.out]; exact A6.out⟩
        case measure => simp [intOf]; omega
    · have hnn : ¬ ((i : Int) < len ∧ (i : Int) < 60) := by omega
      obtain ⟨l, hl⟩ : ∃ l, evs n (fw X i) = l := ⟨_, rfl⟩
      have hlen : l.length ≤ 60 := by rw [← hl]; exact Nat.le_trans (evs_le n (fw X i)) (by simp [fw]; omega)
      have HL := hide hlen
      have HLT := hide (show ∀ y, y ∈ l → y.a < n by rw [← hl]; exact evs_lt n (fw X i))
      have HE := hide hl
      obtain ⟨ao, cp, hav⟩ := own_shapeS A.out.own
      rw [hl] at hav
      subst hav
      have A0 := hide A.out
      clear A HX hl hlen
      by_cases hkl : (i : Int) < len
      all_goals
        first | (have hk40 : ¬ ((i : Int) < 60) := by omega) | skip
        clear hnn
        go_wp2_with fail
        go_loopw [13, 14, 15] (fun sv ov v wr => ∃ k : Nat, k ≤ n ∧ v = .int .i64 k ∧ sv = .int .i64 (sm l 0 1 k : Nat) ∧ ov = .int .i64 (sm l 3 4 k : Nat) ∧ LC w wr p cb n ev (fw X i) (.slice ao l.length cp)) (fun _ _ v _ => n - (intOf v).toNat)
        case atStart => exact ⟨0, by omega, rfl, rfl, rfl, A0.out⟩
        case round =>
          obtain ⟨k, hk, rfl, rfl, rfl, hA⟩ := hrel
          have A := hide hA
          clear hA A0
          by_cases hkn : k < n
          · have hki : (k : Int) < (n : Int) := by omega
            have hnode := node_ok (k := k) A.out.lb.la.sc hkn h8
            rw [HE.out] at hnode
            have hs1 := sm_le l 0 1 k
            have hs2 := sm_le l 3 4 k
            have hs3 : 2 * k * l.length ≤ 2 * 8 * 60 := Nat.mul_le_mul (by omega) HL.out
            have e01 : sm l 0 1 (k + 1) = sm l 0 1 k + cn l (k * 6) + cn l (k * 6 + 1) := rfl
            have e34 : sm l 3 4 (k + 1) = sm l 3 4 k + cn l (k * 6 + 3) + cn l (k * 6 + 4) := rfl
            have hrc := fun (w : World) (h : IsEvs w ao l) => rcounts_ok (cap := cp) l h (by have := HL.out; omega) k
            unfold aggC at hnode hrc
            obtain ⟨y0, hy0⟩ : ∃ y, cn l (k * 6) = y := ⟨_, rfl⟩
            have b0 : y0 ≤ 60 := by rw [← hy0]; exact Nat.le_trans (cn_le _ _) HL.out
            obtain ⟨y1, hy1⟩ : ∃ y, cn l (k * 6 + 1) = y := ⟨_, rfl⟩
            have b1 : y1 ≤ 60 := by rw [← hy1]; exact Nat.le_trans (cn_le _ _) HL.out
            obtain ⟨y2, hy2⟩ : ∃ y, cn l (k * 6 + 2) = y := ⟨_, rfl⟩
            have b2 : y2 ≤ 60 := by rw [← hy2]; exact Nat.le_trans (cn_le _ _) HL.out
            obtain ⟨y3, hy3⟩ : ∃ y, cn l (k * 6 + 3) = y := ⟨_, rfl⟩
            have b3 : y3 ≤ 60 := by rw [← hy3]; exact Nat.le_trans (cn_le _ _) HL.out
            obtain ⟨y4, hy4⟩ : ∃ y, cn l (k * 6 + 4) = y := ⟨_, rfl⟩
            have b4 : y4 ≤ 60 := by rw [← hy4]; exact Nat.le_trans (cn_le _ _) HL.out
            obtain ⟨y5, hy5⟩ : ∃ y, cn l (k * 6 + 5) = y := ⟨_, rfl⟩
            have b5 : y5 ≤ 60 := by rw [← hy5]; exact Nat.le_trans (cn_le _ _) HL.out
            rw [hy0, hy1, hy2, hy3, hy4, hy5] at hnode
            simp only [hy0, hy1, hy2, hy3, hy4, hy5] at hrc
            rw [hy0, hy1] at e01
            rw [hy3, hy4] at e34
            have HN := hide hnode
            have HRC := hide hrc
            have E01 := hide e01
            have E34 := hide e34
            obtain ⟨s1, hs1e⟩ : ∃ s1, sm l 0 1 k = s1 := ⟨_, rfl⟩
            obtain ⟨s2, hs2e⟩ : ∃ s2, sm l 3 4 k = s2 := ⟨_, rfl⟩
            rw [hs1e] at hs1 E01 ⊢
            rw [hs2e] at hs2 E34 ⊢
            clear hnode hrc e01 e34 hy0 hy1 hy2 hy3 hy4 hy5 hs1e hs2e
            go_wp2_with fail
            refine HN.out.mono ?_
            rintro e w5 ⟨rfl, hk5⟩
            have r5 := fun j hj => row6 w5 24 (.int .i64 y0) (.int .i64 y1) (.int .i64 y2) (.int .i64 y3) (.int .i64 y4) (.int .i64 y5) j hj
            have A5 := hide (A.out.next (hk5.alloc (.cells #[.int .i64 y0, .int .i64 y1, .int .i64 y2, .int .i64 y3, .int .i64 y4, .int .i64 y5] 24)))
            have n0 := r5 0 (by omega)
            have n1 := r5 1 (by omega)
            have n2 := r5 2 (by omega)
            have n3 := r5 3 (by omega)
            have n4 := r5 4 (by omega)
            have n5 := r5 5 (by omega)
            clear hk5 A r5 HN
            go_wp2_with fail
            generalize w5.alloc (.cells #[.int .i64 y0, .int .i64 y1, .int .i64 y2, .int .i64 y3, .int .i64 y4, .int .i64 y5] 24) = w6 at *
            generalize w5.heap.size = q5 at *
            simp at n0 n1 n2 n3 n4 n5
            have hq6 : ∀ w : World, (Op.equalIn 10000 40 (.agg #[.int .i64 y0, .int .i64 y1, .int .i64 y2, .int .i64 y3, .int .i64 y4, .int .i64 y5]) (.agg #[.int .i64 y0, .int .i64 y1, .int .i64 y2, .int .i64 y3, .int .i64 y4, .int .i64 y5])).run Try.prog w = .ok true w := fun w => eqT6 9998 y0 y1 y2 y3 y4 y5 w
            go_region_held3 (fun w' => w'.cell? ⟨q5, 0, none⟩ = some (.int .i64 y0) ∧ w'.cell? ⟨q5, 1, none⟩ = some (.int .i64 y1) ∧ w'.cell? ⟨q5, 2, none⟩ = some (.int .i64 y2) ∧ w'.cell? ⟨q5, 3, none⟩ = some (.int .i64 y3) ∧ w'.cell? ⟨q5, 4, none⟩ = some (.int .i64 y4) ∧ w'.cell? ⟨q5, 5, none⟩ = some (.int .i64 y5)) (go_keep) (first
              | (go_at_call 13; refine (HRC.out _ (IsEvs.of_own (HE.out ▸ A5.out.own))).mono ?_; rintro e w7 ⟨rfl, hk7⟩; have h7 : Kept [] w6 w7 := ⟨hk7.os, hk7.tape, hk7.output, hk7.size, hk7.block⟩; have t0 := h7.cell n0 (by simp); have t1 := h7.cell n1 (by simp); have t2 := h7.cell n2 (by simp); have t3 := h7.cell n3 (by simp); have t4 := h7.cell n4 (by simp); have t5 := h7.cell n5 (by simp)))
            rename_i hHeld
            clear hHeld
            have A7 := hide (A5.out.next h7)
            have f0 : IntKind.i64.wrap ((s1 : Int) + (y0 : Int)) = (s1 : Int) + (y0 : Int) := by rw [IntKind.wrap_i64]; omega
            have f1 : IntKind.i64.wrap ((s1 : Int) + (y0 : Int) + (y1 : Int)) = (s1 : Int) + (y0 : Int) + (y1 : Int) := by rw [IntKind.wrap_i64]; omega
            have f3 : IntKind.i64.wrap ((s2 : Int) + (y3 : Int)) = (s2 : Int) + (y3 : Int) := by rw [IntKind.wrap_i64]; omega
            have f4 : IntKind.i64.wrap ((s2 : Int) + (y3 : Int) + (y4 : Int)) = (s2 : Int) + (y3 : Int) + (y4 : Int) := by rw [IntKind.wrap_i64]; omega
            clear hk7 h7 A5 n0 n1 n2 n3 n4 n5 hq6 HRC hs1 hs2 hs3
            go_wp2_with fail
            go_quiet (fail)
            go_wp2
            go_roundw
            case rel => exact ⟨k + 1, by omega, by go_num, by rw [E01.out]; go_num, by rw [E34.out]; go_num, A7.out.next ((Kept.refl [] w7).drewN _)⟩
            case measure => simp [intOf]; omega
          · have hkn2 : k = n := by omega
            subst hkn2
            have hs1 := sm_all 0 1 k (by decide) (by decide) p01 l HLT.out
            have hs2 := sm_all 3 4 k (by decide) (by decide) p34 l HLT.out
            rw [hs1, hs2]
            have hno := node_no A.out.lb.la.sc (by omega) (x := (k : Int)) (by omega)
            unfold zC at hno
            have HNO := hide hno
            have hki : ¬ (k : Int) < (k : Int) := by omega
            have hll := HL.out
            clear hs1 hs2 hno
            go_wp2_with fail
            refine HNO.out.mono ?_
            rintro e w5 ⟨rfl, hk5⟩
            have A5 := hide (A.out.next (hk5.alloc (.cells #[.int .i64 0, .int .i64 0, .int .i64 0, .int .i64 0, .int .i64 0, .int .i64 0] 24)))
            clear hk5 A HNO
            go_wp2_with fail
            generalize w5.alloc (.cells #[.int .i64 0, .int .i64 0, .int .i64 0, .int .i64 0, .int .i64 0, .int .i64 0] 24) = w6 at *
            generalize w5.heap.size = q5 at *
            have hev := events_ok A5.out.lb.la (by omega) (by rw [HE.out]; omega)
            rw [HE.out] at hev
            refine hev.mono ?_
            rintro e w7 ⟨v7, rfl, o7, k7⟩
            obtain ⟨ao7, cp7, hv7⟩ := own_shapeS o7
            subst hv7
            have hA7 := A5.out.next k7
            have E7 := hide (IsEvs.of_own o7)
            have F7 := hide (IsEvs.of_own (HE.out ▸ hA7.own))
            have K7 := hide hA7.lb.kept
            clear hev o7 k7 A5 hA7
            go_wp2_with fail
            go_loopw [21] (fun v wr => ∃ j : Nat, j ≤ l.length ∧ v = .int .i64 j ∧ Kept [] w7 wr) (fun v _ => l.length - (intOf v).toNat)
            case atStart => exact ⟨0, by omega, rfl, Kept.refl _ _⟩
            case round =>
              obtain ⟨j, hj, rfl, hK⟩ := hrel
              have KJ := hide hK
              by_cases hjl : j < l.length
              · have hji : (j : Int) < (l.length : Int) := by omega
                have hj0 : (0 : Int) ≤ (j : Int) := by omega
                obtain ⟨b1, rfl, a0, a1, a2, a3⟩ := (E7.out.kept hK) j hjl
                obtain ⟨b2, rfl, c0, c1, c2, c3⟩ := (F7.out.kept hK) j hjl
                generalize l.getD j ⟨0, 0, 0, false⟩ = x at a0 a1 a2 a3 c0 c1 c2 c3
                obtain ⟨xa, xb, xc, xd⟩ := x
                simp only at a0 a1 a2 a3 c0 c1 c2 c3
                clear hK
                go_wp2_with fail
                go_quiet (fail)
                go_wp2
                go_roundw
                case rel => exact ⟨j + 1, by omega, by go_num, KJ.out.drewN _⟩
                case measure => simp [intOf]; omega
              · have hji : ¬ (j : Int) < (l.length : Int) := by omega
                go_wp2
                go_ret
                exact ⟨rfl, K7.out.next KJ.out⟩
theorem walk (x : Int) {ao : Option Addr} {len cap : Nat} {X : Nat → Ex} {w : World} (hl : len ≤ maxLen) (hX : IsExs w ao len X) : Calls Try.prog 3 #[.int .i64 x, .slice ao len cap] w fun e w' => e = .returned (.bool true) ∧ Kept [] w w' := by
  by_cases h : 1 ≤ x ∧ x ≤ 8
  · obtain ⟨n, rfl⟩ := Int.eq_ofNat_of_zero_le (show 0 ≤ x by omega)
    exact walkB n (by omega) (by omega) hl hX
  · exact walkA x (by omega) w

theorem own : ownKnob Try.prog.godebug = none := by kernel_rfl
theorem laidOut : laidOutB Try.prog = true := by kernel_rfl

set_option maxRecDepth 100000 in
theorem lifted (os : Os) (started : os.Started) (H : Type) (enc : TypeId × Value → H) :
    ReturnsInHanded {} Try.checked os 3 .any (Rows.statsCountsSpec.pre6 enc Try.prog Try.f3 Rows.statsCountsRow.domain false) (Rows.statsCountsSpec.post enc Try.prog Try.f3 false true false false) := by
  refine returnsInHanded_of_change (C := Try.checked) own started (by kernel_rfl) Try.func3
    (ChangeSpec.witness6 (enc := enc) (C := Try.checked) false ⟨#[], #[.int .i64 0, .slice none 0 0], []⟩ 8 (by kernel_rfl) (by kernel_rfl) (by kernel_rfl) (by kernel_rfl)) ?_
  intro W base args ds gs before hval0 hW hcnd _
  have hval : ∀ (j : Nat) t v, Try.f3.params[j]? = some t → args[j]? = some v → Value.okWide Try.prog W .any base t v := hval0
  have hW' := hW
  obtain ⟨p, q, hA0, hV, rfl, hfz, hnd⟩ := hW
  have hA : DataW.TrodAll enc Try.prog W 0 (fun _ => true) true Try.f3.params.toList args.toList ds p := hA0
  have hK := hA
  rw [Try.params3] at hA hval
  obtain ⟨v0, vs0, d0, ds0, p0, q0, hargs, rfl, rfl, h0, r0⟩ := trodAll_cons hA
  obtain ⟨v1, vs1, d1, ds1, p1, q1, rfl, rfl, rfl, h1, r1⟩ := trodAll_cons r0
  obtain ⟨rfl, rfl, rfl⟩ := trodAll_nil r1
  obtain rfl : args = #[v0, v1] := by cases args; simp_all
  obtain ⟨rfl, rfl⟩ := trodVars_none hV
  obtain ⟨x, rfl, rfl, rfl, w0⟩ := open_int Try.underlying3 (hval 0 3 v0 rfl rfl) h0
  obtain ⟨a1, len1, cap1, X1, rfl, hl1, hX1⟩ := open_exs (okWide_slice Try.underlying22 (hval 1 22 v1 rfl rfl)) h1
  clear hA0 hval0
  refine (walk x hl1 hX1 (w := W)).mono fun e W' ⟨he, hk⟩ => ?_
  subst he
  exact ⟨_, rfl, _, _, _, [], _, [], hW', trodAll_mk1 (shut_bool Try.underlying4 _), trodAll_below laidOut hk.below _ _ _ _ hK (by kernel_rfl), rfl, hk.below.frame _, fun h => by cases h⟩

theorem said : Rows.StatsCountsSaid :=
  OpenClaim.holds_of_wide 3 Try.f3 rfl rfl rfl rfl rfl rfl rfl ⟨rfl, rfl, rfl, rfl, rfl⟩ rfl rfl rfl rfl rfl (by kernel_rfl) Try.func3 (by kernel_rfl)
    (of_decide_eq_true (by kernel_rfl)) (by unfold Func.isWrapper; first | (rw [if_pos (by decide +kernel)]; kernel_rfl) | (rw [if_neg (by decide +kernel)]; exact ⟨rfl, rfl⟩))
    (fun os started H enc _ => lifted os started H enc)
end Go.Proofs.Ytbejafjpdplofaa.LK
