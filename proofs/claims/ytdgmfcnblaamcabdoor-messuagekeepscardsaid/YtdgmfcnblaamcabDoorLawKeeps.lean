/-
  MessuageKeeps answers true at every size and row of numbers: of the objects that go from a span to a cache, from there to a queue, and back, none is lost, and none is there twice. The table of package class that the row lists is as its own text lays it (the card ties it to it); the card speaks of the pruned copy of the project that the seat holds.
-/
import Derived.Test.YtdgmfcnblaamcabDoorKeeps
import Derived.Test.YtdgmfcnblaamcabDoorTabs
import Derived.Test.YtdgmfcnblaamcabDoorCards
import Derived.Test.YtdgmfcnblaamcabDoorTie
import Derived.Deep.DeepHandedRow
import Derived.Lay
namespace Go.Proofs.YtdgmfcnblaamcabDoor.keeps
open Go.ChangeShapes Go.WideShapes Go.ChangeAt Go.RowKit By Kp
theorem ofC_at (m : Nat) (h : m < 64) : ∃ c : Nat, c < 4 ∧ Cl.ofC (1 + (m : Int)) = c ∧ Cl.ofE (1 + (m : Int)) = 0 := by
  unfold Cl.ofC Cl.ofE
  rw [if_pos (show 1 ≤ 1 + (m : Int) ∧ 1 + (m : Int) ≤ 64 by omega)]
  by_cases h1 : 1 + (m : Int) ≤ 8
  · exact ⟨0, by omega, by rw [if_pos h1]; rfl, rfl⟩
  · by_cases h2 : 1 + (m : Int) ≤ 16
    · exact ⟨1, by omega, by rw [if_neg h1, if_pos h2]; rfl, rfl⟩
    · by_cases h3 : 1 + (m : Int) ≤ 32
      · exact ⟨2, by omega, by rw [if_neg h1, if_neg h2, if_pos h3]; rfl, rfl⟩
      · exact ⟨3, by omega, by rw [if_neg h1, if_neg h2, if_neg h3, if_pos (by omega)]; rfl, rfl⟩
set_option maxRecDepth 20000 in
set_option maxHeartbeats 8000000 in
theorem walk (x : Int) {ao : Option Addr} {len cap : Nat} {zr : Nat → Int} {w : World} (_hl : len ≤ maxLen) (hO : IsInts .i64 w ao len zr) (hT : Cl.Tab w) : Calls Tryd.prog 4 #[.int .i64 x, .slice ao len cap] w fun e w' => e = .returned (.bool true) ∧ Kept [] w w' := by
  unfold maxLen at _hl
  obtain ⟨m, hm, hx⟩ := mod_small x 64 (by decide) (by decide)
  have HX := hide hx
  clear hx
  obtain ⟨c, hc4, hco, hce⟩ := ofC_at m (by omega)
  obtain ⟨n, sz, hz⟩ := Sp.cz c hc4
  have T := hide hT
  have HO := hide hO
  have CZ := hide hz
  have hn := hide hz.pos
  obtain ⟨n1, n2⟩ := hz.pos
  have HC := hide (And.intro hco hce)
  have hw1 : wrap64 (1 + (m : Int)) = 1 + (m : Int) := by unfold wrap64; omega
  clear hT hO hz hco hce
  have hx := HX.out
  go_enter Tryd.func4, Tryd.ntmps4
  go_wp2_with fail
  clear hx hw1
  refine (Cl.of_any (1 + (m : Int)) T.out).mono ?_
  rintro e w1 ⟨rfl, hk⟩
  rw [HC.out.1, HC.out.2]
  have K1 := hide hk
  have T1 := hide (T.out.kept0 hk)
  clear hk T HC
  go_wp2_with fail
  refine (Sp.new_ok c CZ.out T1.out).mono ?_
  rintro e w2 ⟨p, tb, rfl, hs, hp, ht, hk⟩
  have S2 := hide hs
  have K2 := hide (K1.out.next hk)
  have F2 := hide (show w.heap.size ≤ p ∧ w.heap.size ≤ tb from ⟨Nat.le_trans K1.out.size hp, Nat.le_trans K1.out.size ht⟩)
  have T2 := hide (T1.out.kept0 hk)
  clear hs hk hp ht K1 T1
  go_wp2_with fail
  refine (Cc.new_ok w2).mono ?_
  rintro e w3 ⟨rfl, hs, hk, hz3⟩
  have S3 := hide (S2.out.kept0 hk)
  have C3 := hide hs
  have K3 := hide (K2.out.next hk)
  have T3 := hide (T2.out.kept0 hk)
  have L3 := hide (show p < w2.heap.size ∧ tb < w2.heap.size ∧ w3.heap.size = w2.heap.size + 1 ∧ w.heap.size ≤ w2.heap.size from ⟨S2.out.row.lt, S2.out.tab.lt, hz3, K2.out.size⟩)
  obtain ⟨cp, hcp⟩ : ∃ q, q = w2.heap.size := ⟨_, rfl⟩
  rw [← hcp] at C3 L3
  rw [← hcp]
  clear hs hk hz3 S2 K2 T2 hcp
  go_wp2_with fail
  refine (RI.new_ok 4 (by omega) (by omega) w3).mono ?_
  rintro e w4 ⟨v4, rfl, rp, rc, rfl, hs, hr1, hr2, hk⟩
  have T4 := hide (T3.out.kept0 hk)
  have S4 := hide (show KS w w4 p tb cp rp rc c sz n [] [] [] 0 from by
    obtain ⟨l1, l2, l3, l4⟩ := L3.out
    have hfoot : ∀ b, b ∈ Cc.foot cp (fun _ => .slice none 0 0) → b = cp := fun b hb => by
      rcases Cc.mem_foot.1 hb with h | ⟨k, -, h⟩
      · exact h
      · cases h
    refine ⟨fun _ => .slice none 0 0, fun _ => false, S3.out.kept0 hk, ⟨fun _ => [], C3.out.kept0 hk, rfl⟩, hs, K3.out.next hk, F2.out.2, fun b hb => by rw [hfoot b hb]; exact l4, Nat.le_trans K3.out.size hr2, fun hb => ?_, fun hb => ?_, fun hb => ?_, fun hb => ?_, ⟨by omega, by omega, by omega⟩, by simp, fun x hx => by simp at hx, ?_⟩
    · have := hfoot _ hb; omega
    · have := hfoot _ hb; omega
    · have := hfoot _ hb; omega
    · have := hfoot _ hb; omega
    · have : ∀ k, Sp.cnt (fun _ => false) k = 0 := fun k => by
        induction k with
        | zero => rfl
        | succ k ih => unfold Sp.cnt; rw [ih]; rfl
      rw [this]; rfl)
  clear hs hr1 hr2 hk S3 C3 K3 T3 F2 L3
  go_wp2_with fail
  refine (Cl.count_any c T4.out).mono ?_
  rintro e w5 ⟨rfl, hk⟩
  rw [CZ.out.count, show Cl.tellsE (c : Int) = 0 from if_pos (by have := CZ.out.c4; omega)]
  have S5 := hide (S4.out.next hk)
  clear hk S4 T4
  go_wp2_with fail
  refine (St.stands_true w5).mono ?_
  rintro e w6 ⟨rfl, hk⟩
  have S6 := hide (S5.out.next hk)
  clear hk S5
  go_wp2_with fail
  go_loopw [14, 15] (fun ov v wr => ∃ (k o : Nat) (L R : List Nat), k ≤ len ∧ k ≤ 60 ∧ v = .int .i64 k ∧ ov = .int .i64 o ∧ KS w wr p tb cp rp rc c sz n L R [] o) (fun _ v _ => 60 - (intOf v).toNat)
  case atStart => exact ⟨0, 0, [], [], Nat.zero_le _, Nat.zero_le _, rfl, rfl, S6.out⟩
  case round =>
    clear S6
    obtain ⟨k, o, L, R, hk1, hk60, rfl, rfl, hS⟩ := hrel
    have SS := hide hS
    clear hS
    by_cases hi : k < len ∧ k < 60
    · obtain ⟨b, off, rfl, c0, -⟩ := (HO.out.kept SS.out.kept) k hi.1
      have hi1 : (k : Int) < len := by omega
      have hi2 : (k : Int) < 60 := by omega
      have hk0 : (0 : Int) ≤ (k : Int) := by omega
      obtain ⟨t, ht, hmod⟩ := mod_small (zr k) 5 (by decide) (by decide)
      have HM := hide hmod
      clear hmod
      rcases (show t = 0 ∨ t = 1 ∨ t = 2 ∨ t = 3 ∨ t = 4 by omega) with rfl | rfl | rfl | rfl | rfl
      case inl =>
        have hmod := HM.out
        go_wp2_with fail
        clear hmod c0
        refine (SS.out.take hn.out).mono ?_
        rintro e w7 (⟨rfl, hS⟩ | ⟨i, rfl, hS⟩)
        · have S7 := hide hS
          clear hS SS
          go_wp2_with fail
          obtain ⟨a9, b9, hab, hU, hL9, hR9⟩ := S7.out.ends hn.out hc4
          have U9 := hide hU
          have L9 := hide hL9
          have R9 := hide hR9
          have hne : (((a9 + b9 + o : Nat) : Int) != (a9 : Int) + (b9 : Int) + (o : Int)) = false := by rw [show ((a9 + b9 + o : Nat) : Int) = (a9 : Int) + (b9 : Int) + (o : Int) from by omega]; simp
          have hgt : ¬ (n : Int) < ((a9 + b9 + o : Nat) : Int) := by omega
          have ho9 : o ≤ 8 := by omega
          have ha9 : a9 ≤ 8 := by omega
          have hb9 : b9 ≤ 8 := by omega
          clear hU hL9 hR9
          refine U9.out.mono ?_
          rintro e w' ⟨rfl, hw⟩
          subst w'
          go_wp2_with fail
          refine L9.out.mono ?_
          rintro e w' ⟨rfl, hw⟩
          subst w'
          go_wp2_with fail
          refine R9.out.mono ?_
          rintro e w' ⟨rfl, hw⟩
          subst w'
          go_wp2_with fail
          refine U9.out.mono ?_
          rintro e w' ⟨rfl, hw⟩
          subst w'
          clear U9 L9 R9
          go_wp2_with fail
          go_roundw
          case rel => exact ⟨k + 1, o, _, _, by omega, by omega, by go_num, rfl, S7.out⟩
          case measure => simp [intOf]; omega
        · have S6 := hide hS
          clear hS SS
          go_wp2_with fail
          refine (S6.out.push hc4 n2).mono ?_
          rintro e w8 ⟨rfl, hS⟩
          have S7 := hide hS
          clear hS S6
          go_wp2_with fail
          obtain ⟨a9, b9, hab, hU, hL9, hR9⟩ := S7.out.ends hn.out hc4
          have U9 := hide hU
          have L9 := hide hL9
          have R9 := hide hR9
          have hne : (((a9 + b9 + o : Nat) : Int) != (a9 : Int) + (b9 : Int) + (o : Int)) = false := by rw [show ((a9 + b9 + o : Nat) : Int) = (a9 : Int) + (b9 : Int) + (o : Int) from by omega]; simp
          have hgt : ¬ (n : Int) < ((a9 + b9 + o : Nat) : Int) := by omega
          have ho9 : o ≤ 8 := by omega
          have ha9 : a9 ≤ 8 := by omega
          have hb9 : b9 ≤ 8 := by omega
          clear hU hL9 hR9
          refine U9.out.mono ?_
          rintro e w' ⟨rfl, hw⟩
          subst w'
          go_wp2_with fail
          refine L9.out.mono ?_
          rintro e w' ⟨rfl, hw⟩
          subst w'
          go_wp2_with fail
          refine R9.out.mono ?_
          rintro e w' ⟨rfl, hw⟩
          subst w'
          go_wp2_with fail
          refine U9.out.mono ?_
          rintro e w' ⟨rfl, hw⟩
          subst w'
          clear U9 L9 R9
          go_wp2_with fail
          go_roundw
          case rel => exact ⟨k + 1, o, _, _, by omega, by omega, by go_num, rfl, S7.out⟩
          case measure => simp [intOf]; omega
      case inr.inl =>
        have hmod := HM.out
        go_wp2_with fail
        clear hmod c0
        refine (SS.out.pop hc4 n2).mono ?_
        rintro e w7 (⟨rfl, hS⟩ | ⟨i, L', rfl, hS⟩)
        · have S7 := hide hS
          clear hS SS
          go_wp2_with fail
          obtain ⟨a9, b9, hab, hU, hL9, hR9⟩ := S7.out.ends hn.out hc4
          have U9 := hide hU
          have L9 := hide hL9
          have R9 := hide hR9
          have hne : (((a9 + b9 + o : Nat) : Int) != (a9 : Int) + (b9 : Int) + (o : Int)) = false := by rw [show ((a9 + b9 + o : Nat) : Int) = (a9 : Int) + (b9 : Int) + (o : Int) from by omega]; simp
          have hgt : ¬ (n : Int) < ((a9 + b9 + o : Nat) : Int) := by omega
          have ho9 : o ≤ 8 := by omega
          have ha9 : a9 ≤ 8 := by omega
          have hb9 : b9 ≤ 8 := by omega
          clear hU hL9 hR9
          refine U9.out.mono ?_
          rintro e w' ⟨rfl, hw⟩
          subst w'
          go_wp2_with fail
          refine L9.out.mono ?_
          rintro e w' ⟨rfl, hw⟩
          subst w'
          go_wp2_with fail
          refine R9.out.mono ?_
          rintro e w' ⟨rfl, hw⟩
          subst w'
          go_wp2_with fail
          refine U9.out.mono ?_
          rintro e w' ⟨rfl, hw⟩
          subst w'
          clear U9 L9 R9
          go_wp2_with fail
          go_roundw
          case rel => exact ⟨k + 1, o, _, _, by omega, by omega, by go_num, rfl, S7.out⟩
          case measure => simp [intOf]; omega
        · have S7 := hide hS
          clear hS SS
          have ho8 := S7.out.le
          go_wp2_with fail
          clear ho8
          obtain ⟨a9, b9, hab, hU, hL9, hR9⟩ := S7.out.ends hn.out hc4
          have U9 := hide hU
          have L9 := hide hL9
          have R9 := hide hR9
          have hne : (((a9 + b9 + (o + 1) : Nat) : Int) != (a9 : Int) + (b9 : Int) + ((o : Int) + 1)) = false := by rw [show ((a9 + b9 + (o + 1) : Nat) : Int) = (a9 : Int) + (b9 : Int) + ((o : Int) + 1) from by omega]; simp
          have hgt : ¬ (n : Int) < ((a9 + b9 + (o + 1) : Nat) : Int) := by omega
          have ho9 : (o + 1) ≤ 8 := by omega
          have ha9 : a9 ≤ 8 := by omega
          have hb9 : b9 ≤ 8 := by omega
          clear hU hL9 hR9
          refine U9.out.mono ?_
          rintro e w' ⟨rfl, hw⟩
          subst w'
          go_wp2_with fail
          refine L9.out.mono ?_
          rintro e w' ⟨rfl, hw⟩
          subst w'
          go_wp2_with fail
          refine R9.out.mono ?_
          rintro e w' ⟨rfl, hw⟩
          subst w'
          go_wp2_with fail
          refine U9.out.mono ?_
          rintro e w' ⟨rfl, hw⟩
          subst w'
          clear U9 L9 R9
          go_wp2_with fail
          go_roundw
          case rel => exact ⟨k + 1, o + 1, _, _, by omega, by omega, by go_num, by go_num, S7.out⟩
          case measure => simp [intOf]; omega
      case inr.inr.inr.inr =>
        have hmod := HM.out
        go_wp2_with fail
        clear hmod c0
        refine (SS.out.qtake).mono ?_
        rintro e w7 (⟨rfl, hS⟩ | ⟨i, R', rfl, hS⟩)
        · have S7 := hide hS
          clear hS SS
          go_wp2_with fail
          obtain ⟨a9, b9, hab, hU, hL9, hR9⟩ := S7.out.ends hn.out hc4
          have U9 := hide hU
          have L9 := hide hL9
          have R9 := hide hR9
          have hne : (((a9 + b9 + o : Nat) : Int) != (a9 : Int) + (b9 : Int) + (o : Int)) = false := by rw [show ((a9 + b9 + o : Nat) : Int) = (a9 : Int) + (b9 : Int) + (o : Int) from by omega]; simp
          have hgt : ¬ (n : Int) < ((a9 + b9 + o : Nat) : Int) := by omega
          have ho9 : o ≤ 8 := by omega
          have ha9 : a9 ≤ 8 := by omega
          have hb9 : b9 ≤ 8 := by omega
          clear hU hL9 hR9
          refine U9.out.mono ?_
          rintro e w' ⟨rfl, hw⟩
          subst w'
          go_wp2_with fail
          refine L9.out.mono ?_
          rintro e w' ⟨rfl, hw⟩
          subst w'
          go_wp2_with fail
          refine R9.out.mono ?_
          rintro e w' ⟨rfl, hw⟩
          subst w'
          go_wp2_with fail
          refine U9.out.mono ?_
          rintro e w' ⟨rfl, hw⟩
          subst w'
          clear U9 L9 R9
          go_wp2_with fail
          go_roundw
          case rel => exact ⟨k + 1, o, _, _, by omega, by omega, by go_num, rfl, S7.out⟩
          case measure => simp [intOf]; omega
        · have S6 := hide hS
          clear hS SS
          go_wp2_with fail
          refine (S6.out.give hn.out).mono ?_
          rintro e w8 ⟨rfl, hS, -, -⟩
          have S7 := hide hS
          clear hS S6
          go_wp2_with fail
          obtain ⟨a9, b9, hab, hU, hL9, hR9⟩ := S7.out.ends hn.out hc4
          have U9 := hide hU
          have L9 := hide hL9
          have R9 := hide hR9
          have hne : (((a9 + b9 + o : Nat) : Int) != (a9 : Int) + (b9 : Int) + (o : Int)) = false := by rw [show ((a9 + b9 + o : Nat) : Int) = (a9 : Int) + (b9 : Int) + (o : Int) from by omega]; simp
          have hgt : ¬ (n : Int) < ((a9 + b9 + o : Nat) : Int) := by omega
          have ho9 : o ≤ 8 := by omega
          have ha9 : a9 ≤ 8 := by omega
          have hb9 : b9 ≤ 8 := by omega
          clear hU hL9 hR9
          refine U9.out.mono ?_
          rintro e w' ⟨rfl, hw⟩
          subst w'
          go_wp2_with fail
          refine L9.out.mono ?_
          rintro e w' ⟨rfl, hw⟩
          subst w'
          go_wp2_with fail
          refine R9.out.mono ?_
          rintro e w' ⟨rfl, hw⟩
          subst w'
          go_wp2_with fail
          refine U9.out.mono ?_
          rintro e w' ⟨rfl, hw⟩
          subst w'
          clear U9 L9 R9
          go_wp2_with fail
          go_roundw
          case rel => exact ⟨k + 1, o, _, _, by omega, by omega, by go_num, rfl, S7.out⟩
          case measure => simp [intOf]; omega
      case inr.inr.inl =>
        have hmod := HM.out
        go_wp2_with fail
        clear hmod c0
        refine (SS.out.flush hc4 n2).mono ?_
        rintro e w7 (⟨rfl, hS⟩ | ⟨i, L', v, rfl, hv, hS⟩)
        · have S7 := hide hS
          clear hS SS
          go_wp2_with fail
          obtain ⟨a9, b9, hab, hU, hL9, hR9⟩ := S7.out.ends hn.out hc4
          have U9 := hide hU
          have L9 := hide hL9
          have R9 := hide hR9
          have hne : (((a9 + b9 + o : Nat) : Int) != (a9 : Int) + (b9 : Int) + (o : Int)) = false := by rw [show ((a9 + b9 + o : Nat) : Int) = (a9 : Int) + (b9 : Int) + (o : Int) from by omega]; simp
          have hgt : ¬ (n : Int) < ((a9 + b9 + o : Nat) : Int) := by omega
          have ho9 : o ≤ 8 := by omega
          have ha9 : a9 ≤ 8 := by omega
          have hb9 : b9 ≤ 8 := by omega
          clear hU hL9 hR9
          refine U9.out.mono ?_
          rintro e w' ⟨rfl, hw⟩
          subst w'
          go_wp2_with fail
          refine L9.out.mono ?_
          rintro e w' ⟨rfl, hw⟩
          subst w'
          go_wp2_with fail
          refine R9.out.mono ?_
          rintro e w' ⟨rfl, hw⟩
          subst w'
          go_wp2_with fail
          refine U9.out.mono ?_
          rintro e w' ⟨rfl, hw⟩
          subst w'
          clear U9 L9 R9
          go_wp2_with fail
          go_roundw
          case rel => exact ⟨k + 1, o, _, _, by omega, by omega, by go_num, rfl, S7.out⟩
          case measure => simp [intOf]; omega
        · obtain ⟨bb, cap9, rfl, hb9⟩ := hv
          have S6 := hide hS
          clear hS SS
          go_wp2_with fail
          refine (S6.out.put).mono ?_
          rintro e w8 (⟨rfl, hS⟩ | ⟨rfl, hw⟩)
          · have S7 := hide hS
            clear hS S6
            go_wp2_with fail
            obtain ⟨a9, b9, hab, hU, hL9, hR9⟩ := S7.out.ends hn.out hc4
            have U9 := hide hU
            have L9 := hide hL9
            have R9 := hide hR9
            have hne : (((a9 + b9 + o : Nat) : Int) != (a9 : Int) + (b9 : Int) + (o : Int)) = false := by rw [show ((a9 + b9 + o : Nat) : Int) = (a9 : Int) + (b9 : Int) + (o : Int) from by omega]; simp
            have hgt : ¬ (n : Int) < ((a9 + b9 + o : Nat) : Int) := by omega
            have ho9 : o ≤ 8 := by omega
            have ha9 : a9 ≤ 8 := by omega
            have hb9 : b9 ≤ 8 := by omega
            clear hU hL9 hR9
            refine U9.out.mono ?_
            rintro e w' ⟨rfl, hw⟩
            subst w'
            go_wp2_with fail
            refine L9.out.mono ?_
            rintro e w' ⟨rfl, hw⟩
            subst w'
            go_wp2_with fail
            refine R9.out.mono ?_
            rintro e w' ⟨rfl, hw⟩
            subst w'
            go_wp2_with fail
            refine U9.out.mono ?_
            rintro e w' ⟨rfl, hw⟩
            subst w'
            clear U9 L9 R9
            go_wp2_with fail
            go_roundw
            case rel => exact ⟨k + 1, o, _, _, by omega, by omega, by go_num, rfl, S7.out⟩
            case measure => simp [intOf]; omega
          · subst w8
            go_wp2_with fail
            refine (S6.out.give hn.out).mono ?_
            rintro e w8 ⟨rfl, hS, -, -⟩
            have S7 := hide hS
            clear hS S6
            go_wp2_with fail
            obtain ⟨a9, b9, hab, hU, hL9, hR9⟩ := S7.out.ends hn.out hc4
            have U9 := hide hU
            have L9 := hide hL9
            have R9 := hide hR9
            have hne : (((a9 + b9 + o : Nat) : Int) != (a9 : Int) + (b9 : Int) + (o : Int)) = false := by rw [show ((a9 + b9 + o : Nat) : Int) = (a9 : Int) + (b9 : Int) + (o : Int) from by omega]; simp
            have hgt : ¬ (n : Int) < ((a9 + b9 + o : Nat) : Int) := by omega
            have ho9 : o ≤ 8 := by omega
            have ha9 : a9 ≤ 8 := by omega
            have hb9 : b9 ≤ 8 := by omega
            clear hU hL9 hR9
            refine U9.out.mono ?_
            rintro e w' ⟨rfl, hw⟩
            subst w'
            go_wp2_with fail
            refine L9.out.mono ?_
            rintro e w' ⟨rfl, hw⟩
            subst w'
            go_wp2_with fail
            refine R9.out.mono ?_
            rintro e w' ⟨rfl, hw⟩
            subst w'
            go_wp2_with fail
            refine U9.out.mono ?_
            rintro e w' ⟨rfl, hw⟩
            subst w'
            clear U9 L9 R9
            go_wp2_with fail
            go_roundw
            case rel => exact ⟨k + 1, o, _, _, by omega, by omega, by go_num, rfl, S7.out⟩
            case measure => simp [intOf]; omega
      case inr.inr.inr.inl =>
        have hmod := HM.out
        go_wp2_with fail
        clear hmod c0
        refine (SS.out.all n2).mono ?_
        rintro e w7 ⟨v7, rfl, ho7, hS⟩
        obtain ⟨a7, cap7, rfl, -, hc7⟩ := own_form ho7
        have S7 := hide hS
        have HC7 := hide hc7
        have TL := hide (show ∀ q, q ∈ [tb] → q < wr.heap.size from fun q hq => by rw [List.mem_singleton.1 hq]; exact SS.out.tb_lt)
        have hR8 := SS.out.le
        clear hS SS ho7 hc7
        go_wp2_with fail
        go_loopw [24] (fun v w8 => ∃ j : Nat, v = .int .i64 j ∧ j ≤ R.length ∧ Kept [tb] w7 w8 ∧ KS w w8 p tb cp rp rc c sz n L [] (R.drop j) o) (fun v _ => R.length - (intOf v).toNat)
        case atStart => exact ⟨0, rfl, Nat.zero_le _, Kept.refl _ _, S7.out⟩
        case round =>
          clear S7
          obtain ⟨j, rfl, hj, hKj, hS⟩ := hrel
          have S6 := hide hS
          have KJ := hide hKj
          clear hS hKj
          by_cases hjr : j < R.length
          · obtain ⟨g, rfl, hg, hx⟩ := HC7.out j (.int .i64 (R[j] : Nat)) (by simp [hjr])
            have hd : R.drop j = R[j] :: R.drop (j + 1) := List.drop_eq_getElem_cons hjr
            rw [hd] at S6
            have hgt : g ∉ [tb] := fun hm => by have := TL.out g hm; omega
            have hx8 := KJ.out.cell hx hgt
            have GT := hide hgt
            have hji : (j : Int) < (R.length : Int) := by omega
            have hj0 : (0 : Int) ≤ (j : Int) := by omega
            generalize R[j] = y at S6 hx hx8
            clear hd hgt
            go_wp2_with fail
            refine (S6.out.give hn.out).mono ?_
            rintro e w9 ⟨rfl, hS, hk9, hH⟩
            have S7 := hide hS
            have H9 := hide hH
            have hx9 := hk9.cell hx8 GT.out
            have K9 := hide (KJ.out.trans hk9 (fun x h _ => h))
            clear hS hH hk9 S6 hx8 hx KJ
            go_wp2_with fail
            refine (H9.out w9 (Kept.refl _ _)).mono ?_
            rintro e w' ⟨rfl, hw⟩
            subst w'
            clear H9
            go_wp2_with fail
            go_roundw
            case rel => exact ⟨j + 1, by go_num, by omega, K9.out, S7.out⟩
            case measure => simp [intOf]; omega
          · have hje : j = R.length := by omega
            have hji : ¬ (j : Int) < (R.length : Int) := by omega
            have hd : R.drop j = [] := List.drop_eq_nil_iff.2 (by omega)
            rw [hd] at S6
            have S7 := hide S6.out
            clear S6 hd hje KJ HC7 TL
            go_wp2_with fail
            obtain ⟨a9, b9, hab, hU, hL9, hR9⟩ := S7.out.ends hn.out hc4
            have U9 := hide hU
            have L9 := hide hL9
            have R9 := hide hR9
            have hne : (((a9 + b9 + o : Nat) : Int) != (a9 : Int) + (b9 : Int) + (o : Int)) = false := by rw [show ((a9 + b9 + o : Nat) : Int) = (a9 : Int) + (b9 : Int) + (o : Int) from by omega]; simp
            have hgt : ¬ (n : Int) < ((a9 + b9 + o : Nat) : Int) := by omega
            have ho9 : o ≤ 8 := by omega
            have ha9 : a9 ≤ 8 := by omega
            have hb9 : b9 ≤ 8 := by omega
            clear hU hL9 hR9
            refine U9.out.mono ?_
            rintro e w' ⟨rfl, hw⟩
            subst w'
            go_wp2_with fail
            refine L9.out.mono ?_
            rintro e w' ⟨rfl, hw⟩
            subst w'
            go_wp2_with fail
            refine R9.out.mono ?_
            rintro e w' ⟨rfl, hw⟩
            subst w'
            go_wp2_with fail
            refine U9.out.mono ?_
            rintro e w' ⟨rfl, hw⟩
            subst w'
            clear U9 L9 R9
            go_wp2_with fail
            go_roundw
            case rel => exact ⟨k + 1, o, _, _, by omega, by omega, by go_num, rfl, S7.out⟩
            case measure => simp [intOf]; omega
    · have hnn : ¬ ((k : Int) < len ∧ (k : Int) < 60) := by omega
      have K9 := hide SS.out.kept
      clear SS
      by_cases hil2 : (k : Int) < len
      all_goals
        first | (have hi40n : ¬ ((k : Int) < 60) := by omega) | skip
        clear hnn
        go_wp2_with fail
        go_ret
        exact ⟨rfl, K9.out⟩

theorem own : ownKnob Tryd.prog.godebug = none := by kernel_rfl
theorem laidOut : laidOutB Tryd.prog = true := by kernel_rfl

set_option maxRecDepth 100000 in
theorem contract (H : Type) (enc : TypeId × Value → H) (W : World) (base : Nat) (args : Array Value) (ds gs : List (DataW H)) (before : List MemPlace)
    (hval : ∀ (j : Nat) t v, Tryd.f4.params[j]? = some t → args[j]? = some v → Value.okWide Tryd.prog W .any base t v)
    (hW : DataW.Whole enc Tryd.prog Tryd.f4.params.toList Rows.messuageKeepsSpec.vars false W args.toList ds gs before) (_hsh : W.ShapedOpen Tryd.prog) (hlaid : laidMetH Tryd.prog Rows.messuageKeepsRow.laid W) :
    Calls Tryd.prog 4 args W fun e W' => ∃ v, e = .returned v ∧ Rows.messuageKeepsSpec.post enc Tryd.prog Tryd.f4 false true false false W args v W' := by
  have hW' := hW
  obtain ⟨p, q, hA0, hV, rfl, hfz, hnd⟩ := hW
  have hA : DataW.TrodAll enc Tryd.prog W 0 (fun _ => true) true Tryd.f4.params.toList args.toList ds p := hA0
  have hK := hA
  rw [Tryd.params4] at hA hval
  obtain ⟨v0, vs0, d0, ds0, p0, q0, hargs, rfl, rfl, h0, r0⟩ := trodAll_cons hA
  obtain ⟨v1, vs1, d1, ds1, p1, q1, rfl, rfl, rfl, h1, r1⟩ := trodAll_cons r0
  obtain ⟨rfl, rfl, rfl⟩ := trodAll_nil r1
  obtain rfl : args = #[v0, v1] := by cases args; simp_all
  obtain ⟨rfl, rfl⟩ := trodVars_none hV
  obtain ⟨x, rfl, rfl, rfl, w0⟩ := open_int Tryd.underlying3 (hval 0 3 v0 rfl rfl) h0
  obtain ⟨a1, len1, cap1, zs1, rfl, hl1, hm1, hn1, hT1⟩ := open_list Tryd.underlying54 Tryd.underlying3 (by kernel_rfl) (okWide_slice Tryd.underlying54 (hval 1 54 v1 rfl rfl)) h1
  have hTab : Cl.Tab W := Cl.tab_of_laid hlaid
  clear hA0
  refine (walk x (Nat.le_trans hl1 hm1) hT1 hTab).mono fun e W' ⟨he, hk⟩ => ?_
  subst he
  exact ⟨_, rfl, _, _, _, [], _, [], hW', trodAll_mk1 (shut_bool Tryd.underlying4 _), trodAll_below laidOut hk.below _ _ _ _ hK (by kernel_rfl), rfl, hk.below.frame _, fun h => by cases h⟩

set_option maxRecDepth 100000 in
theorem laid_met (os : Os) : laidMet Tryd.prog Rows.messuageKeepsRow.laid ((World.laidAll Tryd.prog os Rows.messuageKeepsRow.laid).forCall (fun _ _ => 0) ⟨#[], #[.int .i64 0, .slice none 0 0], []⟩).memory :=
  laidMet_laidAll _ (by kernel_rfl) (by kernel_rfl)
set_option maxRecDepth 100000 in
theorem reads (os : Os) {H : Type} (enc : TypeId × Value → H) : ∃ places, DataW.whole enc Tryd.prog ((World.laidAll Tryd.prog os Rows.messuageKeepsRow.laid).forCall (fun _ _ => 0) ⟨#[], #[.int .i64 0, .slice none 0 0], []⟩).memory Tryd.f4.params.toList Rows.messuageKeepsSpec.vars false (#[.int .i64 0, .slice none 0 0] : Array Value).toList 8 = some ([.lit (.int .i64 0), .nil], [], places) :=
  ⟨[], by kernel_rfl⟩

set_option maxRecDepth 100000 in
theorem lifted (os : Os) (started : os.Started) (H : Type) (enc : TypeId × Value → H) (F : Stop.Interp) :
    ReturnsInHanded {} Tryd.checked os 4 .any ((OpenSpec.ofChange Rows.messuageKeepsSpec).preRow enc Tryd.prog Tryd.f4 Rows.messuageKeepsRow.domain false Rows.messuageKeepsRow.laid) (((OpenSpec.ofChange Rows.messuageKeepsSpec).at F).post enc Tryd.prog Tryd.f4 false true false false) := by
  obtain ⟨places, hx⟩ := reads os enc
  refine returnsInHanded_of_row (C := Tryd.checked) (s := OpenSpec.ofChange Rows.messuageKeepsSpec) own started (by kernel_rfl) Tryd.func4
    (witness_row_at (enc := enc) (C := Tryd.checked) false (World.laidAll Tryd.prog os Rows.messuageKeepsRow.laid) #[.int .i64 0, .slice none 0 0] (World.laidAll_os _ _ _) (by kernel_rfl) (by kernel_rfl) (by kernel_rfl)
      (OpenSpec.preRow_of_cond 8 hx (by kernel_rfl) (fun k hk => by cases hk) (by kernel_rfl) (laid_met os))) ?_
  intro W base args ds gs before hval hW _ _ _ hlaid hsh _
  exact contract H enc W base args ds gs before hval hW hsh hlaid

theorem said : Rows.MessuageKeepsSaid :=
  OpenClaim.holds_of_cond 4 Tryd.f4 rfl rfl rfl rfl rfl rfl rfl ⟨rfl, rfl, rfl, rfl, rfl⟩ rfl rfl rfl rfl rfl (by kernel_rfl) Tryd.func4 (by kernel_rfl)
    (of_decide_eq_true (by kernel_rfl)) (by unfold Func.isWrapper; first | (rw [if_pos (by decide +kernel)]; kernel_rfl) | (rw [if_neg (by decide +kernel)]; exact ⟨rfl, rfl⟩))
    (fun os started H enc _ F => by rw [OpenClaim.pre_eq_preRow]; exact lifted os started H enc F)

theorem plain (f : FuncId) (fn : Func) (hf : Tryd.pinned.checked.prog.funcNamed Tryd.f4.name = some f) (hfn : Tryd.pinned.checked.prog.funcs[f]? = some fn) :
    false = Tryd.pinned.checked.prog.looks [] ∧ ∀ (j : Nat) t, fn.params[j]? = some t → Tryd.pinned.checked.prog.wantsStandIn t = false := by
  obtain rfl : f = 4 := Option.some.inj ((show Tryd.prog.funcNamed Tryd.f4.name = some 4 by kernel_rfl).symm.trans hf) |>.symm
  obtain rfl : fn = Tryd.f4 := (Option.some.inj (Tryd.func4.symm.trans hfn)).symm
  refine ⟨by kernel_rfl, fun j t ht => ?_⟩
  rw [Tryd.params4] at ht
  have hm : t = 3 ∨ t = 54 := by have h9 := Array.mem_of_getElem? ht; simp at h9; first | exact h9 | (rcases h9 with h | h | h <;> simp [h])
  rcases hm with rfl | rfl
  · exact (show Tryd.prog.wantsStandIn 3 = false by kernel_rfl)
  · exact (show Tryd.prog.wantsStandIn 54 = false by kernel_rfl)

theorem card : Rows.MessuageKeepsCardSaid :=
  Claim7.holds_tied_plain_at .later [] _ _ _ _ said (fun _ h => by cases h) (by kernel_rfl) (fun _ h => by cases h) messuageKeeps_row_tie rfl ⟨rfl, rfl⟩ (by kernel_rfl) rfl plain (by kernel_rfl)
end Go.Proofs.YtdgmfcnblaamcabDoor.keeps
