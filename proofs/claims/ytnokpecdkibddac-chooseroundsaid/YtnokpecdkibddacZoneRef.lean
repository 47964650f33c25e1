
/-
  No statement of the program: the document's answer of layer 4 (messuageref04: Order), over this seat's translation.
-/
import Derived.Test.YtnokpecdkibddacZone5
namespace Go.Proofs.Ytnokpecdkibddac.ZN
open Go.RowKit TP

/-- The first k nodes at distance d. -/
def ring (D : Nat → Int) (d : Int) (k : Nat) : List Nat := (List.range k).filter (fun x => D x == d)
theorem ring_hit {D : Nat → Int} {d : Int} {k : Nat} (h : D k = d) : ring D d (k + 1) = ring D d k ++ [k] := by
  unfold ring; rw [List.range_succ, List.filter_append]; simp [h]
theorem ring_miss {D : Nat → Int} {d : Int} {k : Nat} (h : D k ≠ d) : ring D d (k + 1) = ring D d k := by
  unfold ring; rw [List.range_succ, List.filter_append]; simp [h]
/-- The nodes at the first i distances, from 10 on. -/
def rings (D : Nat → Int) (N : Nat) : Nat → List Nat
  | 0 => []
  | i + 1 => rings D N i ++ ring D (10 + (i : Int)) N
theorem ring_mem {D : Nat → Int} {d : Int} {k x : Nat} : x ∈ ring D d k ↔ x < k ∧ D x = d := by
  unfold ring; simp [List.mem_filter]
theorem rings_mem {D : Nat → Int} {N i x : Nat} : x ∈ rings D N i ↔ x < N ∧ 10 ≤ D x ∧ D x < 10 + (i : Int) := by
  induction i with
  | zero =>
    constructor
    · intro h; simp [rings] at h
    · intro h; omega
  | succ i ih =>
    unfold rings
    rw [List.mem_append, ih, ring_mem]
    omega
theorem ring_pair (D : Nat → Int) (d : Int) (k : Nat) : (ring D d k).Pairwise (nearer D) := by
  unfold ring
  rw [List.pairwise_filter]
  have h1 : (List.range k).Pairwise (fun a b => a < b) := List.pairwise_lt_range
  refine h1.imp (fun {a b} hab ha hb => ?_)
  simp at ha hb
  right
  exact ⟨by rw [ha, hb], hab⟩
theorem rings_pair (D : Nat → Int) (N i : Nat) : (rings D N i).Pairwise (nearer D) := by
  induction i with
  | zero => exact List.Pairwise.nil
  | succ i ih =>
    unfold rings
    rw [List.pairwise_append]
    refine ⟨ih, ring_pair _ _ _, fun x hx y hy => ?_⟩
    rw [rings_mem] at hx
    rw [ring_mem] at hy
    left
    omega
theorem rings_len (D : Nat → Int) (N i : Nat) : (rings D N i).length ≤ i * N := by
  induction i with
  | zero => simp [rings]
  | succ i ih =>
    unfold rings
    rw [List.length_append, Nat.add_mul, Nat.one_mul]
    have : (ring D (10 + (i : Int)) N).length ≤ N := by
      unfold ring; exact Nat.le_trans (List.length_filter_le _ _) (by simp)
    omega
theorem ring_len (D : Nat → Int) (d : Int) (k : Nat) : (ring D d k).length ≤ k := by
  unfold ring; exact Nat.le_trans (List.length_filter_le _ _) (by simp)
set_option maxHeartbeats 2000000 in
set_option maxRecDepth 100000 in
theorem rorder_ok {N : Nat} {fr : Int} {cA : Option Addr} {cL cC : Nat} {cz : Nat → Int} {dA : Option Addr} {dL dC : Nat} {L : Nat → Nat} {Z : Nat → Nat → Int} {w : World} (h : At w cA cL cz dA dL L Z)
    (hok : tchk N fr cL cz dL L Z = 0) (a : Nat) (ha : a < N) :
    Calls Try.prog 24 #[tval N fr cA cL cC dA dL dC, .int .i64 a] w fun e w' => ∃ v, e = .returned v ∧ Ints w' w.heap.size 3 v (zs (rings (Z a) N 246)) ∧ Kept [] w w' := by
  obtain ⟨i0, hi, hz0, hz1, hz2⟩ := info_parts ND.info3
  have hK0 := (Kept.refl [] w).alloc (.cells #[.int .i64 N, .int .i64 fr, .slice cA cL cC, .slice dA dL dC] 25)
  obtain ⟨⟨⟨n1, n8⟩, -⟩, -, hdL, hLr, -⟩ := tchk_ok hok
  rw [Int.toNat_natCast] at hdL hLr
  subst hdL
  obtain ⟨b, off, A, C, hdA, hcell, hC1, hC2, hints⟩ := (h.kept hK0).rows a ha
  subst hdA
  rw [hLr a ha] at hcell hints hC1
  have n8' : dL ≤ 8 := by omega
  have hai : (a : Int) < (dL : Int) := by omega
  have HI := hide hints
  have HK0 := hide hK0
  clear hok h hK0 hints
  unfold tval
  go_enter Try.func24, Try.ntmps24
  go_wp2
  generalize hw0 : w.alloc (.cells #[.int .i64 dL, .int .i64 fr, .slice cA cL cC, .slice (some ⟨b, off, none⟩) dL dC] 25) = w0 at HI HK0 hcell ⊢
  have b0 : w0.cell? ⟨w.heap.size, 0, none⟩ = some (.int .i64 dL) := by rw [← hw0]; simp
  have b3 : w0.cell? ⟨w.heap.size, 3, none⟩ = some (.slice (some ⟨b, off, none⟩) dL dC) := by rw [← hw0]; simp
  clear hw0
  go_loopw [5, 6] (fun v d wr => ∃ i : Nat, i ≤ 246 ∧ d = .int .i64 (10 + (i : Int)) ∧ Ints wr w0.heap.size 3 v (zs (rings (Z a) dL i)) ∧ Kept [] w0 wr) (fun _ d _ => 256 - (intOf d).toNat)
  case atStart => exact ⟨0, by omega, rfl, World.ownsRow_nil _ _ _ _, Kept.refl _ _⟩
  case round =>
    obtain ⟨i, hi246, rfl, hown, hKi⟩ := hrel
    have hlen := rings_len (Z a) dL i
    by_cases hlt : i < 246
    · obtain ⟨d, hd⟩ : ∃ d : Int, d = 10 + (i : Int) := ⟨_, rfl⟩
      have hd2 : d ≤ 255 := by omega
      have hd1 : 10 ≤ d := by omega
      rw [← hd]
      have HD := hide hd
      have R0 := hide (And.intro hown hKi)
      clear hd hown hKi
      go_wp2
      go_loopw [5, 7] (fun v k wr => ∃ j : Nat, j ≤ dL ∧ k = .int .i64 j ∧ Ints wr w0.heap.size 3 v (zs (rings (Z a) dL i ++ ring (Z a) d j)) ∧ Kept [] w0 wr) (fun _ k _ => dL - (intOf k).toNat)
      case atStart => exact ⟨0, by omega, rfl, by simpa [ring] using R0.out.1, R0.out.2⟩
      case round =>
        obtain ⟨j, hj, rfl, hown, hKj⟩ := hrel
        clear R0
        have c0 := hKj.cell b0 (by simp)
        have c3 := hKj.cell b3 (by simp)
        have cr := hKj.cell hcell (by simp)
        by_cases hjl : j < dL
        · have hji : (j : Int) < (dL : Int) := by omega
          obtain ⟨b2, o2, hA2, hcy, -⟩ := IsInts.kept HI.out hKj j hjl
          subst hA2
          by_cases hdj : Z a j = d
          · rw [hdj] at hcy
            have hrl := ring_len (Z a) d j
            have hlz : (zs (rings (Z a) dL i ++ ring (Z a) d j)).length = (rings (Z a) dL i).length + (ring (Z a) d j).length := by unfold zs; simp
            have hbig : (rings (Z a) dL i).length + (ring (Z a) d j).length + 1 ≤ 4096 := by
              have : i * dL ≤ 246 * 8 := Nat.mul_le_mul (by omega) (by omega)
              omega
            have hsz := hKj.size
            go_wp2_with (at_builtin; refine wpList_append_own _ rfl _ _ 22 rfl w0.heap.size 3 i0 (.int .i64 0) 1 8 Try.underlying22 hi hz0 hz1 hz2 rfl (by decide) _ _ _ rfl (World.ownsRow.alloc hown _) ⟨wr.heap.size, 0, none⟩ 1 1 [.int .i64 j] rfl rfl news_one (by intro u hu; simp at hu; subst hu; rfl) (by unfold maxLen; omega) (by omega) (by simp; omega) ?_)
            intro v' w2 hown' hgrow _
            have hO : Ints w2 w0.heap.size 3 v' (zs (rings (Z a) dL i ++ ring (Z a) d (j + 1))) := by
              unfold Ints; rw [ring_hit hdj, ← List.append_assoc]; unfold zs; rw [List.map_append, List.map_append]; simpa [zs, Nat.add_assoc] using hown'
            have hK2 : Kept [] w0 w2 := own_grown (World.ownsRow.alloc hown _) hgrow w0 (hKj.alloc _) (Nat.le_refl _)
            have R := hide (And.intro hO hK2)
            clear hown' hgrow hown hKj hO hK2 hsz c0 c3 cr hcy
            go_wp2
            go_roundw
            case rel => exact ⟨j + 1, by omega, by go_num, R.out⟩
            case measure => simp [intOf]; omega
          · have hne : (Z a j == d) = false := by simpa using hdj
            have R := hide (And.intro hown hKj)
            clear hown hKj
            go_wp2
            go_roundw
            case rel => exact ⟨j + 1, by omega, by go_num, by rw [ring_miss hdj]; exact R.out⟩
            case measure => simp [intOf]; omega
        · have e : j = dL := by omega
          subst e
          have R := hide (And.intro hown hKj)
          clear hown hKj
          go_wp2
          have hd10 := HD.out
          refine ⟨⟨i + 1, by omega, by congr 1; push_cast; omega, ?_⟩, by simp only [intOf]; omega⟩
          unfold rings
          rw [← HD.out]
          exact R.out
    · have e : i = 246 := by omega
      subst e
      have R := hide (And.intro hown hKi)
      clear hown hKi
      have hs0 := HK0.out.size
      go_wp2
      go_ret
      exact ⟨_, rfl, own_base R.out.1 hs0, HK0.out.next R.out.2⟩
end Go.Proofs.Ytnokpecdkibddac.ZN
