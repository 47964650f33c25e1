/-
  No statement of the program: the contract of package nodeset's Parse, over this seat's translation.
-/
import Derived.Test.YtjcghcibligioaaDoorSets
import Derived.Test.YtjcghcibligioaaDoorHeap3
namespace Go.Proofs.YtjcghcibligioaaDoor.ND
open Go.RowKit

/-- The node that a text names. -/
def nodeOf (l : List UInt8) : Option Nat := match l with
  | [c] => if 48 ≤ c.toNat ∧ c.toNat < 56 then some (c.toNat - 48) else none
  | _ => none
theorem nodeOf_lt {l : List UInt8} {n : Nat} (h : nodeOf l = some n) : n < 8 := by
  unfold nodeOf at h
  split at h
  · split at h
    · simp at h; omega
    · simp at h
  · simp at h
theorem nodeOf_long {l : List UInt8} (h : l.length ≠ 1) : nodeOf l = none := by
  unfold nodeOf
  split
  · simp at h
  · rfl
/-- The answer of parseNode. -/
def pnAns (o : Option Nat) : Value := match o with
  | some n => .tuple #[.int .i64 n, .bool true]
  | none => .tuple #[.int .i64 0, .bool false]

set_option maxHeartbeats 400000 in
theorem pnode_long (t : ByteArray) (ht : t.size ≠ 1) (w : World) :
    Calls Tryd.prog 35 #[.string t] w fun e w' => e = .returned (pnAns none) ∧ w' = w := by
  have hne : ((t.size : Int) == 1) = false := by rw [beq_eq_false_iff_ne]; omega
  go_enter Tryd.func35, Tryd.ntmps35
  go_wp2
  go_ret2
  exact ⟨rfl, rfl⟩

set_option maxHeartbeats 400000 in
theorem pnode_one (c : UInt8) (w : World) :
    Calls Tryd.prog 35 #[.string ⟨#[c]⟩] w fun e w' => e = .returned (pnAns (nodeOf [c])) ∧ w' = w := by
  have hc := c.toNat_lt
  have hx : ((⟨#[c]⟩ : ByteArray)[0]'Nat.zero_lt_one) = c := rfl
  rcases (show c.toNat < 48 ∨ (48 ≤ c.toNat ∧ c.toNat < 56) ∨ 56 ≤ c.toNat from by omega) with h | ⟨h, h'⟩ | h
  · have e : nodeOf [c] = none := by unfold nodeOf; simp; omega
    rw [e]
    have h2 : (((⟨#[c]⟩ : ByteArray)[0]'Nat.zero_lt_one).toNat : Int) < 48 := by rw [hx]; omega
    clear hx e h hc
    go_enter Tryd.func35, Tryd.ntmps35
    go_wp2
    go_ret2
    exact ⟨rfl, rfl⟩
  · have e : nodeOf [c] = some (c.toNat - 48) := by unfold nodeOf; simp; omega
    rw [e]
    have h2 : 48 ≤ (((⟨#[c]⟩ : ByteArray)[0]'Nat.zero_lt_one).toNat : Int) := by rw [hx]; omega
    have h3 : nodeB ((((((⟨#[c]⟩ : ByteArray)[0]'Nat.zero_lt_one).toNat : Int)) - 48) % 256) = true := nodeB_true (by rw [hx]; omega)
    have HX : Hid (((((((⟨#[c]⟩ : ByteArray)[0]'Nat.zero_lt_one).toNat : Int)) - 48) % 256) = ((c.toNat - 48 : Nat) : Int)) := by rw [hx]; show _ = _; omega
    have H3 := hide h3
    clear hx e h h' hc h3
    go_enter Tryd.func35, Tryd.ntmps35
    go_wp2_with fail
    refine (isNode_any _ _).mono ?_
    rintro e w' ⟨rfl, hw⟩
    subst w'
    rw [H3.out]
    go_wp2
    go_ret2
    exact ⟨by rw [HX.out]; rfl, rfl⟩
  · have e : nodeOf [c] = none := by unfold nodeOf; simp; omega
    rw [e]
    have h2 : 48 ≤ (((⟨#[c]⟩ : ByteArray)[0]'Nat.zero_lt_one).toNat : Int) := by rw [hx]; omega
    have h3 : nodeB ((((((⟨#[c]⟩ : ByteArray)[0]'Nat.zero_lt_one).toNat : Int)) - 48) % 256) = false := nodeB_false (by rw [hx]; omega)
    have H3 := hide h3
    clear hx e h hc h3
    go_enter Tryd.func35, Tryd.ntmps35
    go_wp2_with fail
    refine (isNode_any _ _).mono ?_
    rintro e w' ⟨rfl, hw⟩
    subst w'
    rw [H3.out]
    go_wp2
    go_ret2
    exact ⟨rfl, rfl⟩

theorem pnode_any (l : List UInt8) (w : World) :
    Calls Tryd.prog 35 #[.string ⟨l.toArray⟩] w fun e w' => e = .returned (pnAns (nodeOf l)) ∧ w' = w := by
  by_cases h : l.length = 1
  · obtain ⟨c, rfl⟩ := List.length_eq_one_iff.1 h
    exact pnode_one c w
  · rw [nodeOf_long h]
    exact pnode_long _ (by simpa [ByteArray.size] using h) w

/-- A text before and behind a sign, and whether it is there. -/
def cutL (l : List UInt8) (c : UInt8) : List UInt8 × List UInt8 × Bool := Lib.cut l [c]
theorem cutL_len (l : List UInt8) (c : UInt8) : (cutL l c).1.length ≤ l.length ∧ (cutL l c).2.1.length ≤ l.length ∧ ((cutL l c).2.2 = true → (cutL l c).2.1.length < l.length ∨ l = []) := by
  unfold cutL Lib.cut
  split
  · refine ⟨by simp; omega, by simp, fun _ => ?_⟩
    cases l with
    | nil => exact .inr rfl
    | cons x l => exact .inl (by simp; omega)
  · simp
theorem cut_any (l : List UInt8) (c : UInt8) (hs : l.length < 4294967281) (m : Int) (w : World) (hm : w.cell? ⟨0, 0, none⟩ = some (.int .i64 m)) :
    Calls Tryd.prog 25 #[.string ⟨l.toArray⟩, .string ⟨#[c]⟩] w fun e w' => e = .returned (.tuple #[.string ⟨(cutL l c).1.toArray⟩, .string ⟨(cutL l c).2.1.toArray⟩, .bool (cutL l c).2.2]) ∧ Kept [] w w' := by
  refine (Tryd.strings_Cut ⟨l.toArray⟩ ⟨#[c]⟩ m w (by simpa [ByteArray.size] using hs) hm).mono ?_
  rintro e w' ⟨rfl, n, hw⟩
  subst w'
  exact ⟨rfl, (Kept.refl [] w).drewN n⟩

/-- The set that a part names. -/
def partOf (l : List UInt8) : Option Nat := match nodeOf (cutL l 45).1 with
  | none => none
  | some a => if (cutL l 45).2.2 = false then some (run a 1) else match nodeOf (cutL l 45).2.1 with
    | none => none
    | some b => if a ≤ b then some (run a (b + 1 - a)) else none
theorem partOf_lt {l : List UInt8} {s : Nat} (h : partOf l = some s) : s < 256 := by
  unfold partOf at h
  split at h
  · simp at h
  · rename_i a ha
    have h1 := nodeOf_lt ha
    split at h
    · simp at h; subst h; exact run_lt a 1 (by omega)
    · split at h
      · simp at h
      · rename_i b hb
        have h2 := nodeOf_lt hb
        split at h
        · simp at h; subst h; exact run_lt a _ (by omega)
        · simp at h
/-- The answer of parsePart. -/
def ppAns (o : Option Nat) : Value := match o with
  | some n => .tuple #[.int .u8 n, .bool true]
  | none => .tuple #[.int .u8 0, .bool false]
set_option maxHeartbeats 1000000 in
theorem part_any (l : List UInt8) (hs : l.length < 4294967281) (m : Int) (w : World) (hm : w.cell? ⟨0, 0, none⟩ = some (.int .i64 m)) :
    Calls Tryd.prog 26 #[.string ⟨l.toArray⟩] w fun e w' => e = .returned (ppAns (partOf l)) ∧ Kept [] w w' := by
  have HM := hide hm
  obtain ⟨ans, hans⟩ : ∃ ans, ans = partOf l := ⟨_, rfl⟩
  rw [← hans]
  unfold partOf at hans
  obtain ⟨lo, hlo⟩ : ∃ lo, lo = (cutL l 45).1 := ⟨_, rfl⟩
  obtain ⟨hi, hhi⟩ : ∃ hi, hi = (cutL l 45).2.1 := ⟨_, rfl⟩
  obtain ⟨f, hf⟩ : ∃ f, f = (cutL l 45).2.2 := ⟨_, rfl⟩
  rw [← hlo, ← hhi, ← hf] at hans
  have HC : Hid (∀ w : World, w.cell? ⟨0, 0, none⟩ = some (.int .i64 m) → Calls Tryd.prog 25 #[.string ⟨l.toArray⟩, .string ⟨#[45]⟩] w fun e w' => e = .returned (.tuple #[.string ⟨lo.toArray⟩, .string ⟨hi.toArray⟩, .bool f]) ∧ Kept [] w w') := by
    intro w hm
    have h := cut_any l 45 hs m w hm
    rw [← hlo, ← hhi, ← hf] at h
    exact h
  clear hlo hhi hf hm hs
  cases hn : nodeOf lo with
  | none =>
    rw [hn] at hans
    have HN := hide hn
    subst hans
    clear hn
    go_enter Tryd.func26, Tryd.ntmps26
    go_wp2_with fail
    refine (HC.out _ HM.out).mono ?_
    rintro e w1 ⟨rfl, k1⟩
    have K1 := hide k1
    clear k1
    go_wp2_with fail
    refine (pnode_any lo _).mono ?_
    rintro e w' ⟨rfl, hw⟩
    subst w'
    rw [HN.out]
    unfold pnAns
    go_wp2
    go_ret2
    exact ⟨rfl, K1.out⟩
  | some a =>
    have ha := nodeOf_lt hn
    rw [hn] at hans
    have HN := hide hn
    clear hn
    cases f with
    | false =>
      simp at hans
      subst hans
      go_enter Tryd.func26, Tryd.ntmps26
      go_wp2_with fail
      refine (HC.out _ HM.out).mono ?_
      rintro e w1 ⟨rfl, k1⟩
      have K1 := hide k1
      clear k1
      go_wp2_with fail
      refine (pnode_any lo _).mono ?_
      rintro e w' ⟨rfl, hw⟩
      subst w'
      rw [HN.out]
      unfold pnAns
      go_wp2_with fail
      refine (between_any a 1 (by omega) (by omega) (by omega) _).mono ?_
      rintro e w' ⟨rfl, hw⟩
      subst w'
      obtain ⟨r, hr⟩ : ∃ r, r = run a 1 := ⟨_, rfl⟩
      rw [← hr]
      have HR := hide hr
      clear hr
      go_wp2
      go_ret2
      exact ⟨by rw [← HR.out]; rfl, K1.out⟩
    | true =>
      simp only [Bool.true_eq_false, if_false] at hans
      cases hb : nodeOf hi with
      | none =>
        rw [hb] at hans
        have HB := hide hb
        subst hans
        clear hb
        go_enter Tryd.func26, Tryd.ntmps26
        go_wp2_with fail
        refine (HC.out _ HM.out).mono ?_
        rintro e w1 ⟨rfl, k1⟩
        have K1 := hide k1
        clear k1
        go_wp2_with fail
        refine (pnode_any lo _).mono ?_
        rintro e w' ⟨rfl, hw⟩
        subst w'
        rw [HN.out]
        unfold pnAns
        go_wp2_with fail
        refine (pnode_any hi _).mono ?_
        rintro e w' ⟨rfl, hw⟩
        subst w'
        rw [HB.out]
        unfold pnAns
        go_wp2
        go_ret2
        exact ⟨rfl, K1.out⟩
      | some b =>
        have hb8 := nodeOf_lt hb
        rw [hb] at hans
        have HB := hide hb
        clear hb
        by_cases hab : a ≤ b
        · simp only [if_pos hab] at hans
          subst hans
          go_enter Tryd.func26, Tryd.ntmps26
          go_wp2_with fail
          refine (HC.out _ HM.out).mono ?_
          rintro e w1 ⟨rfl, k1⟩
          have K1 := hide k1
          clear k1
          go_wp2_with fail
          refine (pnode_any lo _).mono ?_
          rintro e w' ⟨rfl, hw⟩
          subst w'
          rw [HN.out]
          unfold pnAns
          go_wp2_with fail
          refine (pnode_any hi _).mono ?_
          rintro e w' ⟨rfl, hw⟩
          subst w'
          rw [HB.out]
          unfold pnAns
          go_wp2_with fail
          refine (between_any a (b + 1 - a) (by omega) (by omega) (by omega) _).mono ?_
          rintro e w' ⟨rfl, hw⟩
          subst w'
          obtain ⟨r, hr⟩ : ∃ r, r = run a (b + 1 - a) := ⟨_, rfl⟩
          rw [← hr]
          have HR := hide hr
          clear hr
          go_wp2
          go_ret2
          exact ⟨by rw [← HR.out]; rfl, K1.out⟩
        · simp only [if_neg hab] at hans
          have hba : (b : Int) < a := by omega
          subst hans
          clear hab
          go_enter Tryd.func26, Tryd.ntmps26
          go_wp2_with fail
          refine (HC.out _ HM.out).mono ?_
          rintro e w1 ⟨rfl, k1⟩
          have K1 := hide k1
          clear k1
          go_wp2_with fail
          refine (pnode_any lo _).mono ?_
          rintro e w' ⟨rfl, hw⟩
          subst w'
          rw [HN.out]
          unfold pnAns
          go_wp2_with fail
          refine (pnode_any hi _).mono ?_
          rintro e w' ⟨rfl, hw⟩
          subst w'
          rw [HB.out]
          unfold pnAns
          go_wp2
          go_ret2
          exact ⟨rfl, K1.out⟩

/-- The set that a text names, part by part. -/
def parseF : Nat → List UInt8 → Nat → Option Nat
  | 0, _, _ => none
  | f + 1, l, s => match partOf (cutL l 44).1 with
    | none => none
    | some p => if (cutL l 44).2.2 = true then parseF f (cutL l 44).2.1 (s ||| p) else some (s ||| p)
/-- The set that a text names. -/
def parseOf (l : List UInt8) : Option Nat := if l = [110, 111, 110, 101] then some 0 else parseF (l.length + 1) l 0
/-- The answer of Parse. -/
def pAns (o : Option Nat) : Value := match o with
  | some n => .tuple #[.int .u8 n, .int .i64 0]
  | none => .tuple #[.int .u8 0, .int .i64 2]
theorem cutL_none : (cutL [] 44).2.2 = false := by decide +kernel
/-- The loop's state. -/
def PRel (w : World) (ans : Option Nat) (t r b : Value) (wr : World) : Prop := ∃ (s : Nat) (rl : List UInt8), s < 256 ∧ t = .int .u8 s ∧ Kept [] w wr ∧ r = .string ⟨rl.toArray⟩ ∧ ((b = .bool true ∧ rl.length < 4294967281 ∧ ∃ f, rl.length < f ∧ parseF f rl s = ans) ∨ (b = .bool false ∧ ans = some s))
/-- What is left to do. -/
def PLeft (r b : Value) : Nat := match r, b with
  | .string x, .bool true => x.size + 1
  | _, _ => 0
set_option maxHeartbeats 1000000 in
theorem parse_any (l : List UInt8) (hs : l.length < 4294967281) (m : Int) (w : World) (hm : w.cell? ⟨0, 0, none⟩ = some (.int .i64 m)) :
    Calls Tryd.prog 13 #[.string ⟨l.toArray⟩] w fun e w' => e = .returned (pAns (parseOf l)) ∧ Kept [] w w' := by
  have HM := hide hm
  obtain ⟨ans, hans⟩ : ∃ ans, ans = parseOf l := ⟨_, rfl⟩
  rw [← hans]
  unfold parseOf at hans
  by_cases hl : l = [110, 111, 110, 101]
  · rw [if_pos hl] at hans
    subst hans
    have hb : (l == [110, 111, 110, 101]) = true := by rw [hl]; rfl
    clear hl hm
    go_enter Tryd.func13, Tryd.ntmps13
    go_wp2
    go_ret2
    exact ⟨rfl, Kept.refl [] w⟩
  · rw [if_neg hl] at hans
    have hb : (l == [110, 111, 110, 101]) = false := by rw [beq_eq_false_iff_ne]; exact hl
    have HS := hide hs
    have HA := hide hans
    clear hl hm hs hans
    go_enter Tryd.func13, Tryd.ntmps13
    go_wp2_with fail
    go_loopw [4, 5, 6] (fun t r b wr => PRel w ans t r b wr) (fun _ r b _ => PLeft r b)
    case atStart => exact ⟨0, l, by decide, rfl, Kept.refl [] w, rfl, .inl ⟨rfl, HS.out, l.length + 1, Nat.lt_succ_self _, HA.out.symm⟩⟩
    case round =>
      obtain ⟨s, rl, hs, rfl, hK, rfl, ⟨rfl, hlt, f, hf, hp⟩ | ⟨rfl, he⟩⟩ := hrel
      · have KK := hide hK
        obtain ⟨f, rfl⟩ : ∃ g, f = g + 1 := ⟨f - 1, by omega⟩
        unfold parseF at hp
        obtain ⟨l1, l2, l3⟩ := cutL_len rl 44
        have hne : (cutL rl 44).2.2 = true → (cutL rl 44).2.1.length < rl.length := by
          intro h
          rcases l3 h with h' | h'
          · exact h'
          · rw [h', cutL_none] at h; cases h
        clear l3
        obtain ⟨lo, hlo⟩ : ∃ lo, lo = (cutL rl 44).1 := ⟨_, rfl⟩
        obtain ⟨hi, hhi⟩ : ∃ hi, hi = (cutL rl 44).2.1 := ⟨_, rfl⟩
        obtain ⟨b, hb⟩ : ∃ b, b = (cutL rl 44).2.2 := ⟨_, rfl⟩
        rw [← hlo] at hp l1
        rw [← hhi] at hp l2 hne
        rw [← hb] at hp hne
        have HC : Hid (∀ w : World, w.cell? ⟨0, 0, none⟩ = some (.int .i64 m) → Calls Tryd.prog 25 #[.string ⟨rl.toArray⟩, .string ⟨#[44]⟩] w fun e w' => e = .returned (.tuple #[.string ⟨lo.toArray⟩, .string ⟨hi.toArray⟩, .bool b]) ∧ Kept [] w w') := by
          intro w hm
          have h := cut_any rl 44 hlt m w hm
          rw [← hlo, ← hhi, ← hb] at h
          exact h
        have L1 := hide l1
        have L2 := hide l2
        have LT := hide hlt
        have NE := hide hne
        have HF := hide hf
        have HS2 := hide hs
        clear hlo hhi hb l1 l2 hne hlt hK hf hs
        cases hn : partOf lo with
        | none =>
          rw [hn] at hp
          have HN := hide hn
          have HP := hide hp
          clear hn hp
          go_wp2_with fail
          refine (HC.out _ (KK.out.cell HM.out (by simp))).mono ?_
          rintro e w1 ⟨rfl, k1⟩
          have K1 := hide (KK.out.next k1)
          clear k1
          go_wp2_with fail
          refine (part_any lo (by have := L1.out; have := LT.out; omega) m _ (by exact K1.out.cell HM.out (by simp))).mono ?_
          rintro e w2 ⟨rfl, k2⟩
          have K2 := hide (K1.out.next k2)
          clear k2
          rw [HN.out]
          unfold ppAns
          go_wp2
          go_ret2
          exact ⟨by rw [← HP.out]; rfl, K2.out⟩
        | some p =>
          have hp8 := partOf_lt hn
          have hor : bits BinOp.or IntKind.u8 (s : Int) (p : Int) = ((s ||| p : Nat) : Int) := u8_or_nat s p HS2.out hp8
          have hlt8 : s ||| p < 256 := Nat.or_lt_two_pow (n := 8) HS2.out hp8
          rw [hn] at hp
          have HN := hide hn
          have HP := hide hp
          have HO := hide hor
          have HL8 := hide hlt8
          clear hn hp hor hlt8 hp8
          go_wp2_with fail
          refine (HC.out _ (KK.out.cell HM.out (by simp))).mono ?_
          rintro e w1 ⟨rfl, k1⟩
          have K1 := hide (KK.out.next k1)
          clear k1
          go_wp2_with fail
          refine (part_any lo (by have := L1.out; have := LT.out; omega) m _ (by exact K1.out.cell HM.out (by simp))).mono ?_
          rintro e w2 ⟨rfl, k2⟩
          have K2 := hide (K1.out.next k2)
          clear k2
          rw [HN.out]
          unfold ppAns
          go_wp2
          go_roundw
          case rel =>
            refine ⟨s ||| p, hi, HL8.out, by rw [HO.out], K2.out, rfl, ?_⟩
            have h := HP.out
            cases b with
            | true =>
              simp at h
              exact .inl ⟨rfl, by have := L2.out; have := LT.out; omega, f, by have := NE.out rfl; have := HF.out; omega, h⟩
            | false =>
              simp at h
              exact .inr ⟨rfl, h.symm⟩
          case measure =>
            cases b with
            | true =>
              have := NE.out rfl
              simp [PLeft, ByteArray.size]; omega
            | false => simp [PLeft, ByteArray.size]
      · have KK := hide hK
        have HE := hide he
        clear hK he
        go_wp2
        go_ret2
        exact ⟨by rw [HE.out]; rfl, KK.out⟩
theorem parse_text : ∀ s, s < 256 → parseOf (textOf s) = some s := by decide +kernel
end Go.Proofs.YtjcghcibligioaaDoor.ND
