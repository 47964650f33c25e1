/-
  The walk of 'messuagelaw10.PolicyMore', and the given statement of it.
-/
import Derived.Test.YtpnlialhefknnaaPolRef
import Derived.Test.YtpnlialhefknnaaOpenAgg
import Derived.Test.YtpnlialhefknnaaRows
import Derived.Deep.RegionHeld3
namespace Go.Proofs.Ytpnlialhefknnaa.LM
open Go.ChangeShapes Go.WideShapes Go.ChangeAt Go.RowKit ND PO
theorem cells3 {w w1 : World} (hK : Kept [] w w1) {b : Nat} {x y z : Value} (h : w.cell? ⟨b, 0, none⟩ = some x ∧ w.cell? ⟨b, 1, none⟩ = some y ∧ w.cell? ⟨b, 2, none⟩ = some z) :
    w1.cell? ⟨b, 0, none⟩ = some x ∧ w1.cell? ⟨b, 1, none⟩ = some y ∧ w1.cell? ⟨b, 2, none⟩ = some z :=
  ⟨hK.cell h.1 (by simp), hK.cell h.2.1 (by simp), hK.cell h.2.2 (by simp)⟩
theorem facts {m : Int} {s s' : Nat} {nd nd' : Int} (h1 : s' = s ∨ (m ≠ 1 ∧ m ≠ 2)) (h2 : nd' = nd ∨ m ≠ 3) :
    chk m s' nd' 8 = chk m s nd 8 ∧ permS m s' nd' 8 = permS m s nd 8 ∧ startOf m s' nd' 8 5 2 = startOf m s nd 8 5 2 := by
  have hc : chk m s' nd' 8 = chk m s nd 8 := by
    unfold chk
    by_cases h0 : m = 0
    · simp [h0]
    by_cases h12 : m = 1 ∨ m = 2
    · have : s' = s := by omega
      subst this; simp [h0, h12]
    by_cases h3 : m = 3
    · have : nd' = nd := by omega
      subst this; simp [h3]
    simp [h0, h12, h3]
  refine ⟨hc, ?_, ?_⟩
  · unfold permS
    rw [hc]
    by_cases h1' : m = 1
    · have : s' = s := by omega
      subst this; rfl
    · simp [h1']
  · unfold startOf
    rw [hc]
    by_cases hm2 : m = 2
    · have : s' = s := by omega
      subst this; simp [hm2]
    by_cases h3 : m = 3
    · have : nd' = nd := by omega
      subst this; simp [h3]
    simp [hm2, h3]
set_option maxHeartbeats 4000000 in
set_option maxRecDepth 20000 in
theorem law_any (m : Int) (s : Nat) (nd : Int) (t : Nat) (node : Int) (hs : s < 256) (ht : t < 256) (w : World) : Calls Try.prog 5 #[pol m s nd, .int .u8 t, .int .i64 node] w fun e w' => e = .returned (.bool true) ∧ Kept [] w w' := by
  have hto := PR.to_any
  have h4 : m = 1 ∨ m = 2 ∨ m = 3 ∨ (¬ m = 1 ∧ ¬ m = 2 ∧ ¬ m = 3) := by omega
  rcases h4 with rfl | rfl | rfl | ⟨g1, g2, g3⟩
  · obtain ⟨f1, f2, f3⟩ := facts (m := 1) (s := s) (s' := s) (nd := nd) (nd' := node) (by omega) (by omega)
    have hcP := PO.check_any 1 s nd 8 hs
    have hpP := PO.permitted_any 1 s nd 8 hs
    have hsP := PO.start_any 1 s nd 8 5 2 hs
    have hcQ := PO.check_any 1 s node 8 (by assumption)
    have hpQ := PO.permitted_any 1 s node 8 (by assumption)
    have hsQ := PO.start_any 1 s node 8 5 2 (by assumption)
    rw [f1] at hcQ hpQ
    rw [f2] at hpQ
    rw [f3] at hsQ
    clear f1 f2 f3
    have htP := PR.to_any 1 s nd
    have htQ := PR.to_any 1 s node
    generalize permS 1 s nd 8 = ps at *
    generalize startOf 1 s nd 8 5 2 = st at *
    generalize chk 1 s nd 8 = c at *
    obtain ⟨st1, st2, st3⟩ := st
    simp only [] at hsP hsQ
    unfold pol at *
    go_enter Try.func5, Try.ntmps5
    go_wp2_with fail
    refine (htP _).mono ?_
    rintro e w1 ⟨rfl, hK⟩
    have K1 := hide ((((Kept.refl [] w).alloc (.cells #[.int .i64 1, .int .u8 s, .int .i64 nd] 23)).alloc (.cells #[.int .i64 1, .int .u8 s, .int .i64 node] 23)).next hK)
    obtain ⟨p0, p1, p2⟩ := cells3 hK (b := w.heap.size) (x := .int .i64 1) (y := .int .u8 s) (z := .int .i64 nd) ⟨by simp, by simp, by simp⟩
    obtain ⟨a0, a1, a2⟩ := cells3 hK (b := w.heap.size + 1) (x := .int .i64 1) (y := .int .u8 s) (z := .int .i64 node) ⟨by simp, by simp, by simp⟩
    generalize hb1 : w.heap.size + 1 = b1 at a0 a1 a2 ⊢
    generalize hb : w.heap.size = b at p0 p1 p2 ⊢
    clear hb1 hb hK
    go_wp2_with fail
    refine (hpP _).mono ?_
    rintro e w2 ⟨rfl, hK⟩
    obtain ⟨q0, q1, q2⟩ := cells3 hK ⟨p0, p1, p2⟩
    obtain ⟨d0, d1, d2⟩ := cells3 hK ⟨a0, a1, a2⟩
    have K2 := hide (K1.out.next hK)
    clear hK p0 p1 p2 a0 a1 a2 K1
    go_wp2_with fail
    refine (htQ _).mono ?_
    rintro e w3 ⟨rfl, hK⟩
    obtain ⟨p0, p1, p2⟩ := cells3 hK ⟨q0, q1, q2⟩
    obtain ⟨a0, a1, a2⟩ := cells3 hK ⟨d0, d1, d2⟩
    have K3 := hide (K2.out.next hK)
    clear hK q0 q1 q2 d0 d1 d2 K2
    go_wp2_with fail
    refine (hpQ _).mono ?_
    rintro e w4 ⟨rfl, hK⟩
    obtain ⟨q0, q1, q2⟩ := cells3 hK ⟨p0, p1, p2⟩
    obtain ⟨d0, d1, d2⟩ := cells3 hK ⟨a0, a1, a2⟩
    have K4 := hide (K3.out.next hK)
    clear hK p0 p1 p2 a0 a1 a2 K3
    go_wp2_with fail
    refine (htP _).mono ?_
    rintro e w5 ⟨rfl, hK⟩
    obtain ⟨p0, p1, p2⟩ := cells3 hK ⟨q0, q1, q2⟩
    obtain ⟨a0, a1, a2⟩ := cells3 hK ⟨d0, d1, d2⟩
    have K5 := hide (K4.out.next hK)
    clear hK q0 q1 q2 d0 d1 d2 K4
    go_wp2_with fail
    refine (hsP _).mono ?_
    rintro e w6 ⟨rfl, hK⟩
    obtain ⟨q0, q1, q2⟩ := cells3 hK ⟨p0, p1, p2⟩
    obtain ⟨d0, d1, d2⟩ := cells3 hK ⟨a0, a1, a2⟩
    have K6 := hide (K5.out.next hK)
    clear hK p0 p1 p2 a0 a1 a2 K5
    go_wp2_with fail
    refine (htQ _).mono ?_
    rintro e w7 ⟨rfl, hK⟩
    obtain ⟨p0, p1, p2⟩ := cells3 hK ⟨q0, q1, q2⟩
    obtain ⟨a0, a1, a2⟩ := cells3 hK ⟨d0, d1, d2⟩
    have K7 := hide (K6.out.next hK)
    clear hK q0 q1 q2 d0 d1 d2 K6
    go_wp2_with fail
    refine (hsQ _).mono ?_
    rintro e w8 ⟨rfl, hK⟩
    obtain ⟨q0, q1, q2⟩ := cells3 hK ⟨p0, p1, p2⟩
    obtain ⟨d0, d1, d2⟩ := cells3 hK ⟨a0, a1, a2⟩
    have K8 := hide (K7.out.next hK)
    have hcB : ∀ v, v = Value.agg #[.int .i64 1, .int .u8 s, .int .i64 nd] ∨ v = Value.agg #[.int .i64 1, .int .u8 s, .int .i64 node] → ∀ w, Calls Try.prog 12 #[v, .int .i64 8] w fun e w' => e = .returned (.int .i64 c) ∧ Kept [] w w' := by
      rintro v (rfl | rfl) w'
      · exact hcP w'
      · exact hcQ w'
    clear hK p0 p1 p2 a0 a1 a2 K7 hpP hpQ hsP hsQ hcP hcQ htP htQ
    go_wp2_with fail
    have k8 : Kept [] w w8.drew := K8.out.drew
    clear K8
    go_region_held3 (fun w' => w'.cell? ⟨b, 0, none⟩ = some (.int .i64 1) ∧ w'.cell? ⟨b, 1, none⟩ = some (.int .u8 s) ∧ w'.cell? ⟨b, 2, none⟩ = some (.int .i64 nd) ∧ w'.cell? ⟨b1, 0, none⟩ = some (.int .i64 1) ∧ w'.cell? ⟨b1, 1, none⟩ = some (.int .u8 s) ∧ w'.cell? ⟨b1, 2, none⟩ = some (.int .i64 node)) (go_keep) (first
      | (go_at_call 11; refine (PR.starts_true _).mono ?_; rintro e wN ⟨rfl, hKN⟩; have kN := Kept.next (a := w) (L := []) (by assumption) hKN; obtain ⟨_, _, _⟩ := cells3 (b := b) (x := .int .i64 1) (y := .int .u8 s) (z := .int .i64 nd) hKN ⟨by assumption, by assumption, by assumption⟩; obtain ⟨_, _, _⟩ := cells3 (b := b1) (x := .int .i64 1) (y := .int .u8 s) (z := .int .i64 node) hKN ⟨by assumption, by assumption, by assumption⟩; clear hKN)
      | (go_at_call 9; refine (hto _ _ _ _).mono ?_; rintro e wN ⟨rfl, hKN⟩; have kN := Kept.next (a := w) (L := []) (by assumption) hKN; obtain ⟨_, _, _⟩ := cells3 (b := b) (x := .int .i64 1) (y := .int .u8 s) (z := .int .i64 nd) hKN ⟨by assumption, by assumption, by assumption⟩; obtain ⟨_, _, _⟩ := cells3 (b := b1) (x := .int .i64 1) (y := .int .u8 s) (z := .int .i64 node) hKN ⟨by assumption, by assumption, by assumption⟩; clear hKN)
      | (go_at_call 12; refine (hcB _ (by first | exact Or.inl rfl | exact Or.inr rfl) _).mono ?_; rintro e wN ⟨rfl, hKN⟩; have kN := Kept.next (a := w) (L := []) (by assumption) hKN; obtain ⟨_, _, _⟩ := cells3 (b := b) (x := .int .i64 1) (y := .int .u8 s) (z := .int .i64 nd) hKN ⟨by assumption, by assumption, by assumption⟩; obtain ⟨_, _, _⟩ := cells3 (b := b1) (x := .int .i64 1) (y := .int .u8 s) (z := .int .i64 node) hKN ⟨by assumption, by assumption, by assumption⟩; clear hKN))
    go_wp2
    go_ret
    exact ⟨by simp, by assumption⟩
  · obtain ⟨f1, f2, f3⟩ := facts (m := 2) (s := s) (s' := s) (nd := nd) (nd' := node) (by omega) (by omega)
    have hcP := PO.check_any 2 s nd 8 hs
    have hpP := PO.permitted_any 2 s nd 8 hs
    have hsP := PO.start_any 2 s nd 8 5 2 hs
    have hcQ := PO.check_any 2 s node 8 (by assumption)
    have hpQ := PO.permitted_any 2 s node 8 (by assumption)
    have hsQ := PO.start_any 2 s node 8 5 2 (by assumption)
    rw [f1] at hcQ hpQ
    rw [f2] at hpQ
    rw [f3] at hsQ
    clear f1 f2 f3
    have htP := PR.to_any 2 s nd
    have htQ := PR.to_any 2 s node
    generalize permS 2 s nd 8 = ps at *
    generalize startOf 2 s nd 8 5 2 = st at *
    generalize chk 2 s nd 8 = c at *
    obtain ⟨st1, st2, st3⟩ := st
    simp only [] at hsP hsQ
    unfold pol at *
    go_enter Try.func5, Try.ntmps5
    go_wp2_with fail
    refine (htP _).mono ?_
    rintro e w1 ⟨rfl, hK⟩
    have K1 := hide ((((Kept.refl [] w).alloc (.cells #[.int .i64 2, .int .u8 s, .int .i64 nd] 23)).alloc (.cells #[.int .i64 2, .int .u8 s, .int .i64 node] 23)).next hK)
    obtain ⟨p0, p1, p2⟩ := cells3 hK (b := w.heap.size) (x := .int .i64 2) (y := .int .u8 s) (z := .int .i64 nd) ⟨by simp, by simp, by simp⟩
    obtain ⟨a0, a1, a2⟩ := cells3 hK (b := w.heap.size + 1) (x := .int .i64 2) (y := .int .u8 s) (z := .int .i64 node) ⟨by simp, by simp, by simp⟩
    generalize hb1 : w.heap.size + 1 = b1 at a0 a1 a2 ⊢
    generalize hb : w.heap.size = b at p0 p1 p2 ⊢
    clear hb1 hb hK
    go_wp2_with fail
    refine (hpP _).mono ?_
    rintro e w2 ⟨rfl, hK⟩
    obtain ⟨q0, q1, q2⟩ := cells3 hK ⟨p0, p1, p2⟩
    obtain ⟨d0, d1, d2⟩ := cells3 hK ⟨a0, a1, a2⟩
    have K2 := hide (K1.out.next hK)
    clear hK p0 p1 p2 a0 a1 a2 K1
    go_wp2_with fail
    refine (htQ _).mono ?_
    rintro e w3 ⟨rfl, hK⟩
    obtain ⟨p0, p1, p2⟩ := cells3 hK ⟨q0, q1, q2⟩
    obtain ⟨a0, a1, a2⟩ := cells3 hK ⟨d0, d1, d2⟩
    have K3 := hide (K2.out.next hK)
    clear hK q0 q1 q2 d0 d1 d2 K2
    go_wp2_with fail
    refine (hpQ _).mono ?_
    rintro e w4 ⟨rfl, hK⟩
    obtain ⟨q0, q1, q2⟩ := cells3 hK ⟨p0, p1, p2⟩
    obtain ⟨d0, d1, d2⟩ := cells3 hK ⟨a0, a1, a2⟩
    have K4 := hide (K3.out.next hK)
    clear hK p0 p1 p2 a0 a1 a2 K3
    go_wp2_with fail
    refine (htP _).mono ?_
    rintro e w5 ⟨rfl, hK⟩
    obtain ⟨p0, p1, p2⟩ := cells3 hK ⟨q0, q1, q2⟩
    obtain ⟨a0, a1, a2⟩ := cells3 hK ⟨d0, d1, d2⟩
    have K5 := hide (K4.out.next hK)
    clear hK q0 q1 q2 d0 d1 d2 K4
    go_wp2_with fail
    refine (hsP _).mono ?_
    rintro e w6 ⟨rfl, hK⟩
    obtain ⟨q0, q1, q2⟩ := cells3 hK ⟨p0, p1, p2⟩
    obtain ⟨d0, d1, d2⟩ := cells3 hK ⟨a0, a1, a2⟩
    have K6 := hide (K5.out.next hK)
    clear hK p0 p1 p2 a0 a1 a2 K5
    go_wp2_with fail
    refine (htQ _).mono ?_
    rintro e w7 ⟨rfl, hK⟩
    obtain ⟨p0, p1, p2⟩ := cells3 hK ⟨q0, q1, q2⟩
    obtain ⟨a0, a1, a2⟩ := cells3 hK ⟨d0, d1, d2⟩
    have K7 := hide (K6.out.next hK)
    clear hK q0 q1 q2 d0 d1 d2 K6
    go_wp2_with fail
    refine (hsQ _).mono ?_
    rintro e w8 ⟨rfl, hK⟩
    obtain ⟨q0, q1, q2⟩ := cells3 hK ⟨p0, p1, p2⟩
    obtain ⟨d0, d1, d2⟩ := cells3 hK ⟨a0, a1, a2⟩
    have K8 := hide (K7.out.next hK)
    have hcB : ∀ v, v = Value.agg #[.int .i64 2, .int .u8 s, .int .i64 nd] ∨ v = Value.agg #[.int .i64 2, .int .u8 s, .int .i64 node] → ∀ w, Calls Try.prog 12 #[v, .int .i64 8] w fun e w' => e = .returned (.int .i64 c) ∧ Kept [] w w' := by
      rintro v (rfl | rfl) w'
      · exact hcP w'
      · exact hcQ w'
    clear hK p0 p1 p2 a0 a1 a2 K7 hpP hpQ hsP hsQ hcP hcQ htP htQ
    go_wp2_with fail
    have k8 : Kept [] w w8.drew := K8.out.drew
    clear K8
    go_region_held3 (fun w' => w'.cell? ⟨b, 0, none⟩ = some (.int .i64 2) ∧ w'.cell? ⟨b, 1, none⟩ = some (.int .u8 s) ∧ w'.cell? ⟨b, 2, none⟩ = some (.int .i64 nd) ∧ w'.cell? ⟨b1, 0, none⟩ = some (.int .i64 2) ∧ w'.cell? ⟨b1, 1, none⟩ = some (.int .u8 s) ∧ w'.cell? ⟨b1, 2, none⟩ = some (.int .i64 node)) (go_keep) (first
      | (go_at_call 11; refine (PR.starts_true _).mono ?_; rintro e wN ⟨rfl, hKN⟩; have kN := Kept.next (a := w) (L := []) (by assumption) hKN; obtain ⟨_, _, _⟩ := cells3 (b := b) (x := .int .i64 2) (y := .int .u8 s) (z := .int .i64 nd) hKN ⟨by assumption, by assumption, by assumption⟩; obtain ⟨_, _, _⟩ := cells3 (b := b1) (x := .int .i64 2) (y := .int .u8 s) (z := .int .i64 node) hKN ⟨by assumption, by assumption, by assumption⟩; clear hKN)
      | (go_at_call 9; refine (hto _ _ _ _).mono ?_; rintro e wN ⟨rfl, hKN⟩; have kN := Kept.next (a := w) (L := []) (by assumption) hKN; obtain ⟨_, _, _⟩ := cells3 (b := b) (x := .int .i64 2) (y := .int .u8 s) (z := .int .i64 nd) hKN ⟨by assumption, by assumption, by assumption⟩; obtain ⟨_, _, _⟩ := cells3 (b := b1) (x := .int .i64 2) (y := .int .u8 s) (z := .int .i64 node) hKN ⟨by assumption, by assumption, by assumption⟩; clear hKN)
      | (go_at_call 12; refine (hcB _ (by first | exact Or.inl rfl | exact Or.inr rfl) _).mono ?_; rintro e wN ⟨rfl, hKN⟩; have kN := Kept.next (a := w) (L := []) (by assumption) hKN; obtain ⟨_, _, _⟩ := cells3 (b := b) (x := .int .i64 2) (y := .int .u8 s) (z := .int .i64 nd) hKN ⟨by assumption, by assumption, by assumption⟩; obtain ⟨_, _, _⟩ := cells3 (b := b1) (x := .int .i64 2) (y := .int .u8 s) (z := .int .i64 node) hKN ⟨by assumption, by assumption, by assumption⟩; clear hKN))
    go_wp2
    go_ret
    exact ⟨by simp, by assumption⟩
  · obtain ⟨f1, f2, f3⟩ := facts (m := 3) (s := s) (s' := t) (nd := nd) (nd' := nd) (by omega) (by omega)
    have hcP := PO.check_any 3 s nd 8 hs
    have hpP := PO.permitted_any 3 s nd 8 hs
    have hsP := PO.start_any 3 s nd 8 5 2 hs
    have hcQ := PO.check_any 3 t nd 8 (by assumption)
    have hpQ := PO.permitted_any 3 t nd 8 (by assumption)
    have hsQ := PO.start_any 3 t nd 8 5 2 (by assumption)
    rw [f1] at hcQ hpQ
    rw [f2] at hpQ
    rw [f3] at hsQ
    clear f1 f2 f3
    have htP := PR.to_any 3 s nd
    have htQ := PR.to_any 3 t nd
    generalize permS 3 s nd 8 = ps at *
    generalize startOf 3 s nd 8 5 2 = st at *
    generalize chk 3 s nd 8 = c at *
    obtain ⟨st1, st2, st3⟩ := st
    simp only [] at hsP hsQ
    unfold pol at *
    go_enter Try.func5, Try.ntmps5
    go_wp2_with fail
    refine (htP _).mono ?_
    rintro e w1 ⟨rfl, hK⟩
    have K1 := hide ((((Kept.refl [] w).alloc (.cells #[.int .i64 3, .int .u8 s, .int .i64 nd] 23)).alloc (.cells #[.int .i64 3, .int .u8 t, .int .i64 nd] 23)).next hK)
    obtain ⟨p0, p1, p2⟩ := cells3 hK (b := w.heap.size) (x := .int .i64 3) (y := .int .u8 s) (z := .int .i64 nd) ⟨by simp, by simp, by simp⟩
    obtain ⟨a0, a1, a2⟩ := cells3 hK (b := w.heap.size + 1) (x := .int .i64 3) (y := .int .u8 t) (z := .int .i64 nd) ⟨by simp, by simp, by simp⟩
    generalize hb1 : w.heap.size + 1 = b1 at a0 a1 a2 ⊢
    generalize hb : w.heap.size = b at p0 p1 p2 ⊢
    clear hb1 hb hK
    go_wp2_with fail
    refine (hpP _).mono ?_
    rintro e w2 ⟨rfl, hK⟩
    obtain ⟨q0, q1, q2⟩ := cells3 hK ⟨p0, p1, p2⟩
    obtain ⟨d0, d1, d2⟩ := cells3 hK ⟨a0, a1, a2⟩
    have K2 := hide (K1.out.next hK)
    clear hK p0 p1 p2 a0 a1 a2 K1
    go_wp2_with fail
    refine (htQ _).mono ?_
    rintro e w3 ⟨rfl, hK⟩
    obtain ⟨p0, p1, p2⟩ := cells3 hK ⟨q0, q1, q2⟩
    obtain ⟨a0, a1, a2⟩ := cells3 hK ⟨d0, d1, d2⟩
    have K3 := hide (K2.out.next hK)
    clear hK q0 q1 q2 d0 d1 d2 K2
    go_wp2_with fail
    refine (hpQ _).mono ?_
    rintro e w4 ⟨rfl, hK⟩
    obtain ⟨q0, q1, q2⟩ := cells3 hK ⟨p0, p1, p2⟩
    obtain ⟨d0, d1, d2⟩ := cells3 hK ⟨a0, a1, a2⟩
    have K4 := hide (K3.out.next hK)
    clear hK p0 p1 p2 a0 a1 a2 K3
    go_wp2_with fail
    refine (htP _).mono ?_
    rintro e w5 ⟨rfl, hK⟩
    obtain ⟨p0, p1, p2⟩ := cells3 hK ⟨q0, q1, q2⟩
    obtain ⟨a0, a1, a2⟩ := cells3 hK ⟨d0, d1, d2⟩
    have K5 := hide (K4.out.next hK)
    clear hK q0 q1 q2 d0 d1 d2 K4
    go_wp2_with fail
    refine (hsP _).mono ?_
    rintro e w6 ⟨rfl, hK⟩
    obtain ⟨q0, q1, q2⟩ := cells3 hK ⟨p0, p1, p2⟩
    obtain ⟨d0, d1, d2⟩ := cells3 hK ⟨a0, a1, a2⟩
    have K6 := hide (K5.out.next hK)
    clear hK p0 p1 p2 a0 a1 a2 K5
    go_wp2_with fail
    refine (htQ _).mono ?_
    rintro e w7 ⟨rfl, hK⟩
    obtain ⟨p0, p1, p2⟩ := cells3 hK ⟨q0, q1, q2⟩
    obtain ⟨a0, a1, a2⟩ := cells3 hK ⟨d0, d1, d2⟩
    have K7 := hide (K6.out.next hK)
    clear hK q0 q1 q2 d0 d1 d2 K6
    go_wp2_with fail
    refine (hsQ _).mono ?_
    rintro e w8 ⟨rfl, hK⟩
    obtain ⟨q0, q1, q2⟩ := cells3 hK ⟨p0, p1, p2⟩
    obtain ⟨d0, d1, d2⟩ := cells3 hK ⟨a0, a1, a2⟩
    have K8 := hide (K7.out.next hK)
    have hcB : ∀ v, v = Value.agg #[.int .i64 3, .int .u8 s, .int .i64 nd] ∨ v = Value.agg #[.int .i64 3, .int .u8 t, .int .i64 nd] → ∀ w, Calls Try.prog 12 #[v, .int .i64 8] w fun e w' => e = .returned (.int .i64 c) ∧ Kept [] w w' := by
      rintro v (rfl | rfl) w'
      · exact hcP w'
      · exact hcQ w'
    clear hK p0 p1 p2 a0 a1 a2 K7 hpP hpQ hsP hsQ hcP hcQ htP htQ
    go_wp2_with fail
    have k8 : Kept [] w w8.drew := K8.out.drew
    clear K8
    go_region_held3 (fun w' => w'.cell? ⟨b, 0, none⟩ = some (.int .i64 3) ∧ w'.cell? ⟨b, 1, none⟩ = some (.int .u8 s) ∧ w'.cell? ⟨b, 2, none⟩ = some (.int .i64 nd) ∧ w'.cell? ⟨b1, 0, none⟩ = some (.int .i64 3) ∧ w'.cell? ⟨b1, 1, none⟩ = some (.int .u8 t) ∧ w'.cell? ⟨b1, 2, none⟩ = some (.int .i64 nd)) (go_keep) (first
      | (go_at_call 11; refine (PR.starts_true _).mono ?_; rintro e wN ⟨rfl, hKN⟩; have kN := Kept.next (a := w) (L := []) (by assumption) hKN; obtain ⟨_, _, _⟩ := cells3 (b := b) (x := .int .i64 3) (y := .int .u8 s) (z := .int .i64 nd) hKN ⟨by assumption, by assumption, by assumption⟩; obtain ⟨_, _, _⟩ := cells3 (b := b1) (x := .int .i64 3) (y := .int .u8 t) (z := .int .i64 nd) hKN ⟨by assumption, by assumption, by assumption⟩; clear hKN)
      | (go_at_call 9; refine (hto _ _ _ _).mono ?_; rintro e wN ⟨rfl, hKN⟩; have kN := Kept.next (a := w) (L := []) (by assumption) hKN; obtain ⟨_, _, _⟩ := cells3 (b := b) (x := .int .i64 3) (y := .int .u8 s) (z := .int .i64 nd) hKN ⟨by assumption, by assumption, by assumption⟩; obtain ⟨_, _, _⟩ := cells3 (b := b1) (x := .int .i64 3) (y := .int .u8 t) (z := .int .i64 nd) hKN ⟨by assumption, by assumption, by assumption⟩; clear hKN)
      | (go_at_call 12; refine (hcB _ (by first | exact Or.inl rfl | exact Or.inr rfl) _).mono ?_; rintro e wN ⟨rfl, hKN⟩; have kN := Kept.next (a := w) (L := []) (by assumption) hKN; obtain ⟨_, _, _⟩ := cells3 (b := b) (x := .int .i64 3) (y := .int .u8 s) (z := .int .i64 nd) hKN ⟨by assumption, by assumption, by assumption⟩; obtain ⟨_, _, _⟩ := cells3 (b := b1) (x := .int .i64 3) (y := .int .u8 t) (z := .int .i64 nd) hKN ⟨by assumption, by assumption, by assumption⟩; clear hKN))
    go_wp2
    go_ret
    exact ⟨by simp, by assumption⟩
  · obtain ⟨f1, f2, f3⟩ := facts (m := m) (s := s) (s' := t) (nd := nd) (nd' := node) (by omega) (by omega)
    have hcP := PO.check_any m s nd 8 hs
    have hpP := PO.permitted_any m s nd 8 hs
    have hsP := PO.start_any m s nd 8 5 2 hs
    have hcQ := PO.check_any m t node 8 (by assumption)
    have hpQ := PO.permitted_any m t node 8 (by assumption)
    have hsQ := PO.start_any m t node 8 5 2 (by assumption)
    rw [f1] at hcQ hpQ
    rw [f2] at hpQ
    rw [f3] at hsQ
    clear f1 f2 f3
    have htP := PR.to_any m s nd
    have htQ := PR.to_any m t node
    generalize permS m s nd 8 = ps at *
    generalize startOf m s nd 8 5 2 = st at *
    generalize chk m s nd 8 = c at *
    obtain ⟨st1, st2, st3⟩ := st
    simp only [] at hsP hsQ
    unfold pol at *
    have n1 : (m != 1) = true := by simpa using g1
    have n2 : (m != 2) = true := by simpa using g2
    have n3 : (m != 3) = true := by simpa using g3
    go_enter Try.func5, Try.ntmps5
    go_wp2_with fail
    refine (htP _).mono ?_
    rintro e w1 ⟨rfl, hK⟩
    have K1 := hide ((((Kept.refl [] w).alloc (.cells #[.int .i64 m, .int .u8 s, .int .i64 nd] 23)).alloc (.cells #[.int .i64 m, .int .u8 t, .int .i64 node] 23)).next hK)
    obtain ⟨p0, p1, p2⟩ := cells3 hK (b := w.heap.size) (x := .int .i64 m) (y := .int .u8 s) (z := .int .i64 nd) ⟨by simp, by simp, by simp⟩
    obtain ⟨a0, a1, a2⟩ := cells3 hK (b := w.heap.size + 1) (x := .int .i64 m) (y := .int .u8 t) (z := .int .i64 node) ⟨by simp, by simp, by simp⟩
    generalize hb1 : w.heap.size + 1 = b1 at a0 a1 a2 ⊢
    generalize hb : w.heap.size = b at p0 p1 p2 ⊢
    clear hb1 hb hK
    go_wp2_with fail
    refine (hpP _).mono ?_
    rintro e w2 ⟨rfl, hK⟩
    obtain ⟨q0, q1, q2⟩ := cells3 hK ⟨p0, p1, p2⟩
    obtain ⟨d0, d1, d2⟩ := cells3 hK ⟨a0, a1, a2⟩
    have K2 := hide (K1.out.next hK)
    clear hK p0 p1 p2 a0 a1 a2 K1
    go_wp2_with fail
    refine (htQ _).mono ?_
    rintro e w3 ⟨rfl, hK⟩
    obtain ⟨p0, p1, p2⟩ := cells3 hK ⟨q0, q1, q2⟩
    obtain ⟨a0, a1, a2⟩ := cells3 hK ⟨d0, d1, d2⟩
    have K3 := hide (K2.out.next hK)
    clear hK q0 q1 q2 d0 d1 d2 K2
    go_wp2_with fail
    refine (hpQ _).mono ?_
    rintro e w4 ⟨rfl, hK⟩
    obtain ⟨q0, q1, q2⟩ := cells3 hK ⟨p0, p1, p2⟩
    obtain ⟨d0, d1, d2⟩ := cells3 hK ⟨a0, a1, a2⟩
    have K4 := hide (K3.out.next hK)
    clear hK p0 p1 p2 a0 a1 a2 K3
    go_wp2_with fail
    refine (htP _).mono ?_
    rintro e w5 ⟨rfl, hK⟩
    obtain ⟨p0, p1, p2⟩ := cells3 hK ⟨q0, q1, q2⟩
    obtain ⟨a0, a1, a2⟩ := cells3 hK ⟨d0, d1, d2⟩
    have K5 := hide (K4.out.next hK)
    clear hK q0 q1 q2 d0 d1 d2 K4
    go_wp2_with fail
    refine (hsP _).mono ?_
    rintro e w6 ⟨rfl, hK⟩
    obtain ⟨q0, q1, q2⟩ := cells3 hK ⟨p0, p1, p2⟩
    obtain ⟨d0, d1, d2⟩ := cells3 hK ⟨a0, a1, a2⟩
    have K6 := hide (K5.out.next hK)
    clear hK p0 p1 p2 a0 a1 a2 K5
    go_wp2_with fail
    refine (htQ _).mono ?_
    rintro e w7 ⟨rfl, hK⟩
    obtain ⟨p0, p1, p2⟩ := cells3 hK ⟨q0, q1, q2⟩
    obtain ⟨a0, a1, a2⟩ := cells3 hK ⟨d0, d1, d2⟩
    have K7 := hide (K6.out.next hK)
    clear hK q0 q1 q2 d0 d1 d2 K6
    go_wp2_with fail
    refine (hsQ _).mono ?_
    rintro e w8 ⟨rfl, hK⟩
    obtain ⟨q0, q1, q2⟩ := cells3 hK ⟨p0, p1, p2⟩
    obtain ⟨d0, d1, d2⟩ := cells3 hK ⟨a0, a1, a2⟩
    have K8 := hide (K7.out.next hK)
    have hcB : ∀ v, v = Value.agg #[.int .i64 m, .int .u8 s, .int .i64 nd] ∨ v = Value.agg #[.int .i64 m, .int .u8 t, .int .i64 node] → ∀ w, Calls Try.prog 12 #[v, .int .i64 8] w fun e w' => e = .returned (.int .i64 c) ∧ Kept [] w w' := by
      rintro v (rfl | rfl) w'
      · exact hcP w'
      · exact hcQ w'
    clear hK p0 p1 p2 a0 a1 a2 K7 hpP hpQ hsP hsQ hcP hcQ htP htQ
    go_wp2_with fail
    have k8 : Kept [] w w8.drew := K8.out.drew
    clear K8
    go_region_held3 (fun w' => w'.cell? ⟨b, 0, none⟩ = some (.int .i64 m) ∧ w'.cell? ⟨b, 1, none⟩ = some (.int .u8 s) ∧ w'.cell? ⟨b, 2, none⟩ = some (.int .i64 nd) ∧ w'.cell? ⟨b1, 0, none⟩ = some (.int .i64 m) ∧ w'.cell? ⟨b1, 1, none⟩ = some (.int .u8 t) ∧ w'.cell? ⟨b1, 2, none⟩ = some (.int .i64 node)) (go_keep) (first
      | (go_at_call 11; refine (PR.starts_true _).mono ?_; rintro e wN ⟨rfl, hKN⟩; have kN := Kept.next (a := w) (L := []) (by assumption) hKN; obtain ⟨_, _, _⟩ := cells3 (b := b) (x := .int .i64 m) (y := .int .u8 s) (z := .int .i64 nd) hKN ⟨by assumption, by assumption, by assumption⟩; obtain ⟨_, _, _⟩ := cells3 (b := b1) (x := .int .i64 m) (y := .int .u8 t) (z := .int .i64 node) hKN ⟨by assumption, by assumption, by assumption⟩; clear hKN)
      | (go_at_call 9; refine (hto _ _ _ _).mono ?_; rintro e wN ⟨rfl, hKN⟩; have kN := Kept.next (a := w) (L := []) (by assumption) hKN; obtain ⟨_, _, _⟩ := cells3 (b := b) (x := .int .i64 m) (y := .int .u8 s) (z := .int .i64 nd) hKN ⟨by assumption, by assumption, by assumption⟩; obtain ⟨_, _, _⟩ := cells3 (b := b1) (x := .int .i64 m) (y := .int .u8 t) (z := .int .i64 node) hKN ⟨by assumption, by assumption, by assumption⟩; clear hKN)
      | (go_at_call 12; refine (hcB _ (by first | exact Or.inl rfl | exact Or.inr rfl) _).mono ?_; rintro e wN ⟨rfl, hKN⟩; have kN := Kept.next (a := w) (L := []) (by assumption) hKN; obtain ⟨_, _, _⟩ := cells3 (b := b) (x := .int .i64 m) (y := .int .u8 s) (z := .int .i64 nd) hKN ⟨by assumption, by assumption, by assumption⟩; obtain ⟨_, _, _⟩ := cells3 (b := b1) (x := .int .i64 m) (y := .int .u8 t) (z := .int .i64 node) hKN ⟨by assumption, by assumption, by assumption⟩; clear hKN))
    go_wp2
    go_ret
    exact ⟨by simp, by assumption⟩

theorem own : ownKnob Try.prog.godebug = none := by kernel_rfl
theorem laidOut : laidOutB Try.prog = true := by kernel_rfl

set_option maxRecDepth 100000 in
theorem lifted (os : Os) (started : os.Started) (H : Type) (enc : TypeId × Value → H) :
    ReturnsInHanded {} Try.checked os 5 .any (Rows.policyMoreSpec.pre6 enc Try.prog Try.f5 Rows.policyMoreRow.domain false) (Rows.policyMoreSpec.post enc Try.prog Try.f5 false true false false) := by
  refine returnsInHanded_of_change (C := Try.checked) own started (by kernel_rfl) Try.func5
    (ChangeSpec.witness6 (enc := enc) (C := Try.checked) false ⟨#[], #[.agg #[.int .i64 0, .int .u8 0, .int .i64 0], .int .u8 0, .int .i64 0], []⟩ 8 (by kernel_rfl) (by kernel_rfl) (by kernel_rfl) (by kernel_rfl)) ?_
  intro W base args ds gs before hval0 hW hcnd _
  have hval : ∀ (j : Nat) t v, Try.f5.params[j]? = some t → args[j]? = some v → Value.okWide Try.prog W .any base t v := hval0
  have hW' := hW
  obtain ⟨p, q, hA0, hV, rfl, hfz, hnd⟩ := hW
  have hA : DataW.TrodAll enc Try.prog W 0 (fun _ => true) true Try.f5.params.toList args.toList ds p := hA0
  have hK := hA
  rw [Try.params5] at hA hval
  obtain ⟨v0, vs0, d0, ds0, p0, q0, hargs, rfl, rfl, h0, r0⟩ := trodAll_cons hA
  obtain ⟨v1, vs1, d1, ds1, p1, q1, rfl, rfl, rfl, h1, r1⟩ := trodAll_cons r0
  obtain ⟨v2, vs2, d2, ds2, p2, q2, rfl, rfl, rfl, h2, r2⟩ := trodAll_cons r1
  obtain ⟨rfl, rfl, rfl⟩ := trodAll_nil r2
  obtain rfl : args = #[v0, v1, v2] := by cases args; simp_all
  obtain ⟨rfl, rfl⟩ := trodVars_none hV
  obtain ⟨m, s, nd, rfl, wf0a, wf0b, wf0c⟩ := open_agg3 (k0 := .i64) (k1 := .u8) (k2 := .i64) Try.underlying23 (by kernel_rfl) rfl rfl rfl (by kernel_rfl) (by kernel_rfl) (by kernel_rfl) (by kernel_rfl) (by kernel_rfl) (by kernel_rfl) h0
  obtain ⟨sn, rfl⟩ := Int.eq_ofNat_of_zero_le (bounds_u8 wf0b).1
  have hs : sn < 256 := by have := (bounds_u8 wf0b).2; omega
  obtain ⟨t, rfl, rfl, rfl, w1⟩ := open_int Try.underlying5 (hval 1 5 v1 rfl rfl) h1
  obtain ⟨tn, rfl⟩ := Int.eq_ofNat_of_zero_le (bounds_u8 w1).1
  have ht : tn < 256 := by have := (bounds_u8 w1).2; omega
  obtain ⟨node, rfl, rfl, rfl, w2⟩ := open_int Try.underlying3 (hval 2 3 v2 rfl rfl) h2
  clear hA0 hval0
  refine (law_any m sn nd tn node hs ht W).mono fun e W' ⟨he, hk⟩ => ?_
  subst he
  exact ⟨_, rfl, _, _, _, [], _, [], hW', trodAll_mk1 (shut_bool Try.underlying4 _), trodAll_below laidOut hk.below _ _ _ _ hK (by kernel_rfl), rfl, hk.below.frame _, fun h => by cases h⟩

theorem said : Rows.PolicyMoreSaid :=
  OpenClaim.holds_of_wide 5 Try.f5 rfl rfl rfl rfl rfl rfl rfl ⟨rfl, rfl, rfl, rfl, rfl⟩ rfl rfl rfl rfl rfl (by kernel_rfl) Try.func5 (by kernel_rfl)
    (of_decide_eq_true (by kernel_rfl)) (by unfold Func.isWrapper; first | (rw [if_pos (by decide +kernel)]; kernel_rfl) | (rw [if_neg (by decide +kernel)]; exact ⟨rfl, rfl⟩))
    (fun os started H enc _ => lifted os started H enc)
end Go.Proofs.Ytpnlialhefknnaa.LM
