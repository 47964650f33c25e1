/-
  HeapRuns, tied: for every order, row of nodes and row of places the law answers true, and its arguments read behind the call as before. The two tables of math/bits that the row lists are as their own text lays them (the card ties them to it); the card speaks of the pruned copy of the project that the seat holds.
-/
import Derived.Test.YtkhcopnklfmgcaaDoorOwn2
import Derived.Test.YtkhcopnklfmgcaaDoorLift
import Derived.Test.YtkhcopnklfmgcaaDoorTabs
import Derived.Test.YtkhcopnklfmgcaaDoorCards
import Derived.Test.YtkhcopnklfmgcaaDoorTie
import Derived.Deep.DeepHandedRow
import Derived.Lay
import Derived.Deep.AppendLies
namespace Go.Proofs.YtkhcopnklfmgcaaDoor.runs
open Go.ChangeShapes Go.WideShapes Go.ChangeAt Go.RowKit By
/-- A heap of three nodes of 32 frames, of which the runs of an order that begin at t are taken; l lies in v. -/
def HR (w wr : World) (q nb o : Nat) (t l : List Nat) (v : Value) : Prop :=
  ∃ P u tk f F, HP wr q nb 3 5 (0, 0, 0) P u tk f F ∧ (∀ m A, m < 3 → A < 32 → tk m A = if m * 32 + A ∈ t then o + 1 else 0) ∧ t.Nodup ∧ (∀ x, x ∈ t → x < 96) ∧ (∀ x, HF q nb 3 F x → w.heap.size ≤ x) ∧ Kept [] w wr ∧
    wr.ownsRow w.heap.size 3 1 v l.length (l.map iv) ∧ (∀ g, v.ownBlock = some g → ¬ HF q nb 3 F g)
theorem HR.kept {w wr : World} {q nb o : Nat} {t l : List Nat} {v : Value} (h : HR w wr q nb o t l v) : Kept [] w wr := by
  obtain ⟨P, u, tk, f, F, -, -, -, -, -, h, -⟩ := h
  exact h
theorem HR.own {w wr : World} {q nb o : Nat} {t l : List Nat} {v : Value} (h : HR w wr q nb o t l v) : wr.ownsRow w.heap.size 3 1 v l.length (l.map iv) := by
  obtain ⟨P, u, tk, f, F, -, -, -, -, -, -, h, -⟩ := h
  exact h
theorem HR.next {w wr w' : World} {q nb o : Nat} {t l : List Nat} {v : Value} (h : HR w wr q nb o t l v) (hk : Kept [] wr w') : HR w w' q nb o t l v := by
  obtain ⟨P, u, tk, f, F, h1, h2, h3, h4, h5, h6, h7, h8⟩ := h
  exact ⟨P, u, tk, f, F, h1.kept0 hk, h2, h3, h4, h5, h6.next hk, own_kept h7 hk (fun x hx => by simp at hx), h8⟩
theorem nodup_snoc {l : List Nat} {x : Nat} (h : l.Nodup) (hx : x ∉ l) : (l ++ [x]).Nodup := by
  rw [List.nodup_append]
  exact ⟨h, by simp, fun a ha b hb => by have := List.mem_singleton.1 hb; subst this; exact fun e => hx (e ▸ ha)⟩
/-- Take: no, and May says so. -/
theorem HR.full {w wr : World} {q nb o : Nat} {t l : List Nat} {v : Value} (h : HR w wr q nb o t l v) (n : Nat) (hn : n < 3) (ho : o ≤ 3) :
    (∃ A, A < 32 ∧ n * 32 + A ∉ t ∧ A % 2 ^ o = 0 ∧ A + 2 ^ o ≤ 32 ∧ ∀ {ni oi : Int}, ni = n → oi = o → Calls Tryd.prog 27 #[.pointer (some ⟨q, 0, none⟩), .int .i64 ni, .int .i64 oi] wr fun e w' => e = .returned (.tuple #[.int .i64 ((n * 32 + A : Nat) : Int), .int .i64 0]) ∧
      HR w w' q nb o (t ++ [n * 32 + A]) l v) ∨
    (∀ {ni oi : Int}, ni = n → oi = o → Calls Tryd.prog 27 #[.pointer (some ⟨q, 0, none⟩), .int .i64 ni, .int .i64 oi] wr fun e w' => e = .returned (.tuple #[.int .i64 0, .int .i64 5]) ∧ HR w w' q nb o t l v ∧
      ∀ {ni oi : Int}, ni = n → oi = o → Calls Tryd.prog 30 #[.pointer (some ⟨q, 0, none⟩), .int .i64 ni, .int .i64 oi] w' fun e w'' => e = .returned (.bool false) ∧ HR w w'' q nb o t l v) := by
  have h0 := h
  obtain ⟨P, u, tk, f, F, h1, h2, h3, h4, h5, h6, h7, h8⟩ := h
  rcases (h1.bud n hn).finds o with ⟨A, hA⟩ | hno
  · obtain ⟨a1, a2, a3, a4, a5⟩ := (h1.bud n hn).at_ hA
    have a1' : A < 32 := a1
    have hnl : n * 32 + A ∉ t := fun hm => by
      have := h2 n A hn a1'
      rw [if_pos hm] at this; omega
    have hpo := pow_le ho
    refine .inl ⟨A, a1', hnl, ?_, ?_, fun {ni oi} en eo => ?_⟩
    · rw [← a5, Nat.mul_mod_left]
    · have : (A / 2 ^ o + 1) * 2 ^ o ≤ 32 := a4
      rw [Nat.add_mul, a5, Nat.one_mul] at this
      exact this
    · subst en eo
      have hfm : (2 : Int) ^ o ≤ (f n : Int) := by
        have h9 := BSroom (h1.bud n hn) hA
        have e1 : (2 : Int) ^ o = ((2 ^ o : Nat) : Int) := by simp
        rw [e1]; omega
      refine (htake_ok h1 n o A hn (by omega) hA (by simpa using hfm) (n * 32 + A) rfl).mono ?_
      rintro e w' ⟨f', G, rfl, hf', hH, hk, hG⟩
      have hv : ∀ x, x ∈ F n → w.heap.size ≤ x := fun x hx => h5 x (.inr (.inr ⟨n, hn, hx⟩))
      refine ⟨rfl, P, _, _, _, _, hH, fun m B hm hB => ?_, nodup_snoc h3 hnl, fun x hx => ?_, HF.swap h5 h6.size hn hG, h6.trans hk (fun x hx hl => by have := hv x hx; omega), ?_, fun g hg hF => ?_⟩
      · have hiff : m * 32 + B ∈ t ++ [n * 32 + A] ↔ m * 32 + B ∈ t ∨ (m = n ∧ B = A) := by
          simp only [List.mem_append, List.mem_singleton]
          constructor
          · rintro (h | h)
            · exact .inl h
            · exact .inr ⟨by omega, by omega⟩
          · rintro (h | ⟨rfl, rfl⟩)
            · exact .inl h
            · exact .inr rfl
        by_cases hmn : m = n
        · subst hmn
          simp only [if_true]
          by_cases hBA : B = A
          · subst hBA; simp
          · rw [if_neg hBA, h2 m B hm hB]
            by_cases hml : m * 32 + B ∈ t
            · rw [if_pos hml, if_pos (hiff.2 (.inl hml))]
            · rw [if_neg hml, if_neg (fun h => (hiff.1 h).elim hml (fun h => hBA h.2))]
        · simp only [if_neg hmn]
          rw [h2 m B hm hB]
          by_cases hml : m * 32 + B ∈ t
          · rw [if_pos hml, if_pos (hiff.2 (.inl hml))]
          · rw [if_neg hml, if_neg (fun h => (hiff.1 h).elim hml (fun h => hmn h.1))]
      · rcases List.mem_append.1 hx with h | h
        · exact h4 x h
        · have := List.mem_singleton.1 h; omega
      · refine own_far h7 hk (fun g hg hx => h8 g hg (.inr (.inr ⟨n, hn, hx⟩)))
      · have hgl := (h7.lt g hg).2
        rcases hF with h | h | ⟨i, hi, h⟩
        · exact h8 g hg (.inl h)
        · exact h8 g hg (.inr (.inl h))
        · by_cases hin : i = n
          · simp only [if_pos hin] at h
            rcases hG g h with h' | h'
            · exact h8 g hg (.inr (.inr ⟨n, hn, h'⟩))
            · omega
          · simp only [if_neg hin] at h
            exact h8 g hg (.inr (.inr ⟨i, hi, h⟩))
  · refine .inr fun {ni oi} en eo => ?_
    subst en eo
    refine (htake_no h1 n o hn (by omega) (.inl hno) (by decide)).mono ?_
    rintro e w' ⟨rfl, hk⟩
    refine ⟨rfl, h0.next hk, fun {ni oi} en eo => ?_⟩
    subst en eo
    refine (may_none (h1.kept0 hk) n o hn (by omega) hno).mono ?_
    rintro e w'' ⟨rfl, d, rfl⟩
    exact ⟨rfl, (h0.next hk).next ((Kept.refl [] w').drewN d)⟩
/-- Behind an append. -/
theorem HR.put {w w1 w3 w4 : World} {q nb o : Nat} {t l l' : List Nat} {v v' : Value} (h : HR w w1 q nb o t l v) (hk : Kept [] w1 w3) (hg : w3.grownBy w4 v.ownBlock) (hb : v'.ownBlock = v.ownBlock ∨ v'.ownBlock = some w3.heap.size) (ho : w4.ownsRow w.heap.size 3 1 v' l'.length (l'.map iv)) : HR w w4 q nb o t l' v' := by
  obtain ⟨P, u, tk, f, F, h1, h2, h3, h4, h5, h6, h7, h8⟩ := h.next hk
  have hk4 : Kept v.ownBlock.toList w3 w4 := Kept.of_grownBy hg (fun k hk _ => by simp [hk])
  refine ⟨P, u, tk, f, F, h1.kept hk4 (fun x hx hm => h8 x (by simpa using hm) hx), h2, h3, h4, h5, own_grown h7 hg w h6 (Nat.le_refl _), ho, fun g hg' hF => ?_⟩
  rcases hb with e | e
  · exact h8 g (by rw [← e]; exact hg') hF
  · rw [e] at hg'
    obtain rfl := Option.some.inj hg'
    have : w3.heap.size < w3.heap.size := by
      rcases hF with h | h | ⟨i, hi, h⟩
      · have := h1.obj.lt; omega
      · have := h1.row.lt; omega
      · exact (h1.bud i hi).lt _ h
    omega
/-- A run is given. -/
theorem HR.give {w wr : World} {q nb o : Nat} {t t' l : List Nat} {v : Value} (h : HR w wr q nb o t l v) (x : Nat) (hx : x ∈ t) (hn : t'.Nodup) (ht : ∀ y, y ∈ t' ↔ y ∈ t ∧ y ≠ x) {xi oi : Int} (ex : xi = x) (eo : oi = o) :
    Calls Tryd.prog 32 #[.pointer (some ⟨q, 0, none⟩), .int .i64 xi, .int .i64 oi] wr fun e w' => e = .returned (.int .i64 0) ∧ HR w w' q nb o t' l v := by
  subst ex eo
  obtain ⟨P, u, tk, f, F, h1, h2, h3, h4, h5, h6, h7, h8⟩ := h
  have hx96 := h4 x hx
  obtain ⟨m, A, hm, hA, rfl⟩ : ∃ m A, m < 3 ∧ A < 32 ∧ x = m * 32 + A := ⟨x / 32, x % 32, by omega, by omega, by omega⟩
  refine (hgive_ok h1 m A o _ hm hA (by rw [h2 m A hm hA, if_pos hx]) rfl rfl rfl).mono ?_
  rintro e w' ⟨G, rfl, hH, hk, hG⟩
  have hv : ∀ x, x ∈ F m → w.heap.size ≤ x := fun x hx => h5 x (.inr (.inr ⟨m, hm, hx⟩))
  refine ⟨rfl, P, _, _, _, _, hH, fun m' B hm' hB => ?_, hn, fun x hx => h4 x ((ht x).1 hx).1, HF.swap h5 h6.size hm hG, h6.trans hk (fun x hx hl => by have := hv x hx; omega), own_far h7 hk (fun g hg hx => h8 g hg (.inr (.inr ⟨m, hm, hx⟩))), fun g hg hF => ?_⟩
  · have hiff : m' * 32 + B ∈ t' ↔ m' * 32 + B ∈ t ∧ ¬ (m' = m ∧ B = A) := by
      rw [ht]
      exact ⟨fun h => ⟨h.1, fun e => h.2 (by rw [e.1, e.2])⟩, fun h => ⟨h.1, fun e => h.2 ⟨by omega, by omega⟩⟩⟩
    by_cases hmm : m' = m
    · subst hmm
      simp only [if_true]
      by_cases hBA : B = A
      · subst hBA; rw [if_pos rfl, if_neg (fun h => (hiff.1 h).2 ⟨rfl, rfl⟩)]
      · rw [if_neg hBA, h2 m' B hm' hB]
        by_cases hml : m' * 32 + B ∈ t
        · rw [if_pos hml, if_pos (hiff.2 ⟨hml, fun e => hBA e.2⟩)]
        · rw [if_neg hml, if_neg (fun h => hml (hiff.1 h).1)]
    · simp only [if_neg hmm]
      rw [h2 m' B hm' hB]
      by_cases hml : m' * 32 + B ∈ t
      · rw [if_pos hml, if_pos (hiff.2 ⟨hml, fun e => hmm e.1⟩)]
      · rw [if_neg hml, if_neg (fun h => hml (hiff.1 h).1)]
  · have hgl := (h7.lt g hg).2
    rcases hF with h | h | ⟨i, hi, h⟩
    · exact h8 g hg (.inl h)
    · exact h8 g hg (.inr (.inl h))
    · by_cases hin : i = m
      · simp only [if_pos hin] at h
        rcases hG g h with h' | h'
        · exact h8 g hg (.inr (.inr ⟨m, hm, h'⟩))
        · omega
      · simp only [if_neg hin] at h
        exact h8 g hg (.inr (.inr ⟨i, hi, h⟩))
theorem HR.give_no {w wr : World} {q nb o : Nat} {t l : List Nat} {v : Value} (h : HR w wr q nb o t l v) (x : Nat) (hx : x ∉ t) (hx96 : x < 96) (ho : o ≤ 10) {xi oi : Int} (ex : xi = x) (eo : oi = o) :
    Calls Tryd.prog 32 #[.pointer (some ⟨q, 0, none⟩), .int .i64 xi, .int .i64 oi] wr fun e w' => e = .returned (.int .i64 6) ∧ HR w w' q nb o t l v := by
  subst ex eo
  have h0 := h
  obtain ⟨P, u, tk, f, F, h1, h2, h3, h4, h5, h6, h7, h8⟩ := h
  obtain ⟨m, A, hm, hA, rfl⟩ : ∃ m A, m < 3 ∧ A < 32 ∧ x = m * 32 + A := ⟨x / 32, x % 32, by omega, by omega, by omega⟩
  refine (hgive_bad h1 m A o _ hm hA ho (by rw [h2 m A hm hA, if_neg hx]; omega) rfl rfl rfl).mono ?_
  rintro e w' ⟨rfl, hk⟩
  exact ⟨rfl, h0.next hk⟩
theorem HR.whole {w wr : World} {q nb o : Nat} {l : List Nat} {v : Value} (h : HR w wr q nb o [] l v) :
    Calls Tryd.prog 33 #[.pointer (some ⟨q, 0, none⟩)] wr fun e w' => e = .returned (.bool true) ∧ w' = wr := by
  obtain ⟨P, u, tk, f, F, h1, h2, h3, h4, h5, h6, h7, h8⟩ := h
  refine hwhole_yes h1 (fun i hi => (h1.bud i hi).all (fun A hA => ?_))
  rw [h2 i A hi hA]; simp
theorem drop_one {l : List Nat} (hn : l.Nodup) {k : Nat} (hk : k < l.length) : (l.take k ++ l.drop (k + 1)).Nodup ∧ (∀ y, y ∈ l.take k ++ l.drop (k + 1) ↔ y ∈ l ∧ y ≠ l.getD k 0) ∧ l.getD k 0 ∈ l ∧ l.getD k 0 ∉ l.take k ++ l.drop (k + 1) ∧ (l.take k ++ l.drop (k + 1)).length + 1 = l.length := by
  have hd := List.drop_eq_getElem_cons hk
  have e : l.getD k 0 = l[k] := by simp [hk]
  rw [e]
  have hl : l = l.take k ++ l[k] :: l.drop (k + 1) := by rw [← hd, List.take_append_drop]
  have hn2 := hn
  rw [hl, List.nodup_append] at hn2
  obtain ⟨n1, n2, n3⟩ := hn2
  have n4 := List.nodup_cons.1 n2
  have hmem : ∀ y, y ∈ l ↔ y ∈ l.take k ∨ y = l[k] ∨ y ∈ l.drop (k + 1) := fun y => by
    conv => lhs; rw [hl]
    simp only [List.mem_append, List.mem_cons]
  have hxn : l[k] ∉ l.take k ++ l.drop (k + 1) := fun h => by
    rcases List.mem_append.1 h with h | h
    · exact n3 _ h _ List.mem_cons_self rfl
    · exact n4.1 h
  refine ⟨?_, fun y => ?_, List.getElem_mem hk, hxn, by simp; omega⟩
  · rw [List.nodup_append]
    exact ⟨n1, n4.2, fun a ha b hb => n3 a ha b (List.mem_cons_of_mem _ hb)⟩
  · rw [hmem]
    constructor
    · intro h
      refine ⟨?_, fun e => hxn (e ▸ h)⟩
      rcases List.mem_append.1 h with h | h
      · exact .inl h
      · exact .inr (.inr h)
    · rintro ⟨h | h | h, hne⟩
      · exact List.mem_append.2 (.inl h)
      · exact absurd h hne
      · exact List.mem_append.2 (.inr h)
theorem HR.swap {w w4 w6 : World} {q nb o : Nat} {t l l' : List Nat} {v v' : Value} (h : HR w w4 q nb o t l v) (hk : Kept [] w4 w6) (ho : w6.ownsRow w4.heap.size 3 1 v' l'.length (l'.map iv)) : HR w w6 q nb o t l' v' := by
  have hb := h.kept.size
  obtain ⟨P, u, tk, f, F, h1, h2, h3, h4, h5, h6, h7, h8⟩ := h
  refine ⟨P, u, tk, f, F, h1.kept0 hk, h2, h3, h4, h5, h6.next hk, own_base ho hb, fun g hg hF => ?_⟩
  have := (ho.lt g hg).1
  have : g < w4.heap.size := by
    rcases hF with h | h | ⟨i, hi, h⟩
    · have := h1.obj.lt; omega
    · have := h1.row.lt; omega
    · exact (h1.bud i hi).lt _ h
  omega
theorem hi3e : ∃ i, Tryd.prog.info? 3 = some i ∧ i.zero = some (.int .i64 0) ∧ i.size = 1 ∧ i.bytes = 8 := by
  have := info3
  obtain ⟨i, h1, h2⟩ := Option.map_eq_some_iff.1 this
  simp only [Prod.mk.injEq] at h2
  exact ⟨i, h1, h2.1, h2.2.1, h2.2.2⟩
set_option maxRecDepth 20000 in
set_option maxHeartbeats 4000000 in
theorem walk (x : Int) {a1 a2 : Option Addr} {len1 cap1 len2 cap2 : Nat} {z1 z2 : Nat → Int} {w : World} (_hl1 : len1 ≤ maxLen) (hl2 : len2 ≤ maxLen) (h1 : IsInts .i64 w a1 len1 z1) (h2 : IsInts .i64 w a2 len2 z2) (hT : Tab w) :
    Calls Tryd.prog 9 #[.int .i64 x, .slice a1 len1 cap1, .slice a2 len2 cap2] w fun e w' => e = .returned (.bool true) ∧ Kept [] w w' := by
  unfold maxLen at _hl1 hl2
  obtain ⟨o, ho, hx⟩ := mod_small x 4 (by decide) (by decide)
  have T := hide hT
  have N1 := hide h1
  have N2 := hide h2
  clear hT h1 h2
  obtain ⟨i3, hi3, hz3, hs3, hb3⟩ := hi3e
  have I3 := hide hi3
  have Z3 := hide hz3
  have S3 := hide hs3
  have B3 := hide hb3
  clear hi3 hz3 hs3 hb3
  go_enter Tryd.func9, Tryd.ntmps9
  go_wp2_with fail
  refine (hnew_ok 3 5 32 0 0 0 (by decide) (by decide) (by decide) rfl (by decide) (by decide) (by decide) (by decide) T.out).mono ?_
  rintro e w1 ⟨q, nb, P, F, rfl, hH, hF, hk1⟩
  have T1 := hide (T.out.kept hk1 (by simp))
  have R1 := hide (show HR w w1 q nb o [] [] (.slice none 0 0) from ⟨P, _, _, _, F, hH, fun _ _ _ _ => by simp, by simp, by simp, hF, hk1, World.ownsRow_nil _ _ _ _, fun g hg => by cases hg⟩)
  clear hH hF hk1 T
  go_wp2_with fail
  refine (heaps_true T1.out).mono ?_
  rintro e w2 ⟨rfl, hk2⟩
  have R2 := hide (R1.out.next hk2)
  clear hk2 R1 T1 hx
  go_wp2_with fail
  go_loopw [10, 11] (fun c v wr => ∃ (i : Nat) (l : List Nat), v = .int .i64 i ∧ i ≤ len1 ∧ i ≤ 20 ∧ l.length ≤ i ∧ HR w wr q nb o l l c) (fun _ v _ => 20 - (intOf v).toNat)
  case atStart => exact ⟨0, [], rfl, Nat.zero_le _, Nat.zero_le _, by simp, R2.out⟩
  case round =>
    obtain ⟨i, l, rfl, hil, hi20, hll, hR⟩ := hrel
    have R := hide hR
    clear hR R2
    by_cases hi : i < len1 ∧ i < 20
    · obtain ⟨b, off, rfl, hc, -⟩ := (N1.out.kept R.out.kept) i hi.1
      obtain ⟨n, hn, hy⟩ := mod_small (z1 i) 3 (by decide) (by decide)
      have hi1 : (i : Int) < len1 := by omega
      have hi2 : (i : Int) < 20 := by omega
      have hn3 : n < 3 := by omega
      have ho3 : o ≤ 3 := by omega
      rcases R.out.full n hn3 ho3 with ⟨A, hA, hnl, hm2, hin, hcall⟩ | hcall
      · obtain ⟨fx, hfx⟩ : ∃ fx : Nat, fx = n * 32 + A := ⟨_, rfl⟩
        obtain ⟨y, hyE⟩ : ∃ y : Nat, y = 2 ^ o := ⟨_, rfl⟩
        have hy1 : 1 ≤ y := by rw [hyE]; exact two_pos o
        have hy8 : y ≤ 8 := by rw [hyE]; exact pow_le ho3
        have hYV : Value.int .i64 (wrap64 ((2 : Int) ^ o)) = Value.int .i64 (y : Int) := by rw [hyE, shl1 (by omega)]
        rw [← hyE] at hm2 hin
        have hd32 : 32 % y = 0 := by
          rw [hyE]
          rcases (show o = 0 ∨ o = 1 ∨ o = 2 ∨ o = 3 by omega) with e | e | e | e <;> (subst e; rfl)
        have e1 : (fx : Int) / 32 = n := by omega
        have e2n : fx % y = 0 := by rw [hfx, Nat.add_mod, Nat.mul_mod, hd32, hm2]; simp
        have e2 : (fx : Int) % (y : Int) = 0 := by
          have := congrArg (Nat.cast (R := Int)) e2n
          simpa using this
        have e3 : ((fx : Int) + y - 1) / 32 = n := by omega
        have hfb : fx < 96 := by omega
        have hn1 : ¬ (y : Int) = 0 := by omega
        have e2t : (fx : Int).tmod (y : Int) = 0 := by rw [Int.tmod_eq_emod_of_nonneg (by omega)]; exact e2
        have hcall2 := hcall (ni := n) (oi := o) rfl rfl
        rw [← hfx] at hcall2
        have HC2 := hide hcall2
        have HX := hide hfx
        clear hyE e2n hm2 hin hnl hA hfx hcall hcall2 hd32
        go_wp2_with fail
        refine HC2.out.mono ?_
        rintro e w3 ⟨rfl, hR3⟩
        have R3 := hide hR3
        clear hR3 R HC2 hc
        have own3 := R3.out.own
        have OW := hide own3
        clear own3
        go_wp2_with (at_builtin; refine wpList_append_own_at _ rfl _ _ _ rfl w.heap.size 3 i3 (.int .i64 0) 1 8 Tryd.underlying32 I3.out Z3.out S3.out B3.out rfl (by decide) u10 l.length (l.map iv) rfl (OW.out.alloc _) ⟨_, 0, none⟩ 1 1 [iv fx] rfl rfl news_one (by simp [iv, Value.oneCell']) (by unfold maxLen; omega) (by omega) (by have := R3.out.kept.size; simp; omega) ?_)
        intro v' w4 o4 g4 _ b4
        have R4 := hide (R3.out.put (l' := l ++ [fx]) ((Kept.refl [] w3).alloc _) g4 (by simpa using b4) (by simpa using o4))
        clear o4 g4 b4 OW
        go_wp2
        go_roundw
        case rel => exact ⟨i + 1, l ++ [fx], by go_num, by omega, by omega, by simp; omega, R4.out⟩
        case measure => simp [intOf]; omega
      · have HC := hide (hcall (ni := n) (oi := o) rfl rfl)
        clear hcall
        go_wp2_with fail
        refine HC.out.mono ?_
        rintro e w3 ⟨rfl, hR3, hm3⟩
        have R3 := hide hR3
        have HM := hide (hm3 (ni := n) (oi := o) rfl rfl)
        clear hR3 R HC hm3 hc
        go_wp2_with fail
        refine HM.out.mono ?_
        rintro e w4 ⟨rfl, hR4⟩
        have R4 := hide hR4
        clear hR4 R3 HM
        go_wp2
        go_roundw
        case rel => exact ⟨i + 1, l, by go_num, by omega, by omega, by omega, R4.out⟩
        case measure => simp [intOf]; omega
    · have hn : ¬ ((i : Int) < len1 ∧ (i : Int) < 20) := by omega
      have hl20 : l.length ≤ 20 := by omega
      have R0 := hide R.out
      clear R N1 hll
      by_cases hil2 : (i : Int) < len1
      all_goals
        first | (have hi20n : ¬ ((i : Int) < 20) := by omega) | skip
        clear hn
        go_wp2_with fail
        go_loopw [10, 15] (fun c v wr => ∃ (i : Nat) (l : List Nat), v = .int .i64 i ∧ i + l.length ≤ 20 ∧ HR w wr q nb o l l c) (fun _ v _ => 20 - (intOf v).toNat)
        case atStart => exact ⟨0, l, rfl, by omega, R0.out⟩
        case round =>
          clear R0 hil hi20 hi hl20
          obtain ⟨i, l, rfl, hil, hR⟩ := hrel
          have R := hide hR
          clear hR
          cases hl0 : l with
          | nil =>
            subst hl0
            obtain ⟨ao, cap, hu⟩ : ∃ ao cap, u10 = .slice ao 0 cap := by
              rcases R.out.own.2 with ⟨h, -⟩ | ⟨g, cap, cur, h, -⟩
              · exact ⟨none, 0, h⟩
              · exact ⟨_, _, h⟩
            subst hu
            have RK := hide R.out.kept
            go_wp2_with (go_at_call 33; refine R.out.whole.mono ?_; rintro e w' ⟨rfl, hw⟩; subst w')
            go_ret
            exact ⟨rfl, RK.out⟩
          | cons y r =>
            have hlen : 0 < l.length := by rw [hl0]; simp
            clear hl0
            obtain ⟨g, cap, hu, hgb, hgl⟩ := World.ownsRow.form R.out.own hlen
            subst hu
            have hcap : l.length ≤ cap ∧ cap ≤ maxLen := by
              rcases R.out.own.2 with ⟨h, -⟩ | ⟨g', cap', cur, h, -, -, h1, h2, -⟩
              · cases h
              · cases h; exact ⟨h1, h2⟩
            obtain ⟨hc1, hc2⟩ := hcap
            unfold maxLen at hc2
            have hli : (0 : Int) < (l.length : Int) := by omega
            obtain ⟨len, hle⟩ : ∃ len, len = l.length := ⟨_, rfl⟩
            have hk2 : ∃ k : Nat, k < l.length ∧ ((i : Int) < len2 → wrap64 ((IntKind.u64.wrap (z2 i)).tmod l.length) = k) ∧ (¬ (i : Int) < len2 → k = 0) := by
              by_cases h : (i : Int) < len2
              · obtain ⟨k, h1, h2⟩ := mod_small (z2 i) l.length (by omega) (by omega)
                exact ⟨k, by omega, fun _ => h2, fun h3 => absurd h h3⟩
              · exact ⟨0, hlen, fun h3 => absurd h3 h, fun _ => rfl⟩
            obtain ⟨k, hk, hkE, hk0⟩ := hk2
            have hcell : ∀ wr', HR w wr' q nb o l l (.slice (some ⟨g, 0, none⟩) l.length cap) ∨ HR w wr' q nb o (l.take k ++ l.drop (k + 1)) l (.slice (some ⟨g, 0, none⟩) l.length cap) → wr'.cell? ⟨g, k, none⟩ = some (.int .i64 ((l.getD k 0 : Nat) : Int)) := by
              intro wr' h
              have ho : wr'.ownsRow w.heap.size 3 1 (.slice (some ⟨g, 0, none⟩) l.length cap) l.length (l.map iv) := h.elim (fun h => h.own) (fun h => h.own)
              have h2 := World.ownsRow.cells ho (g := g) rfl k (iv (l.getD k 0)) (by simp [hk])
              rw [add_plain, Nat.zero_add] at h2
              exact h2
            have ND : l.Nodup := by
              obtain ⟨P, u, tk, f, F, -, -, h3, -⟩ := R.out
              exact h3
            have N96 : ∀ x, x ∈ l → x < 96 := by
              obtain ⟨P, u, tk, f, F, -, -, -, h3, -⟩ := R.out
              exact h3
            obtain ⟨d1, d2, d3, d4, d5⟩ := drop_one ND hk
            obtain ⟨x0, hx0⟩ : ∃ x0, x0 = l.getD k 0 := ⟨_, rfl⟩
            rw [← hx0] at d2 d3 d4 hcell
            have hx96 := N96 x0 d3
            have HX := hide hx0
            have D1 := hide d1
            have D2 := hide d2
            have D3 := hide d3
            have D4 := hide d4
            have D5 := hide d5
            have HC := hide hcell
            have c1 := hcell wr (.inl R.out)
            have hk1 : (0 : Int) ≤ (k : Int) := by omega
            have hk3 : (k : Int) < (l.length : Int) := by omega
            have hl20 : l.length ≤ 20 := by omega
            clear d1 d2 d3 d4 d5 hx0 ND N96 hcell
            have hwk : IntKind.i64.wrap ((k : Int) + 1) = (k : Int) + 1 := by rw [IntKind.wrap_i64]; omega
            have hs1 : ∀ wq, (Instr.slice 32 (.slice (some ⟨g, 0, none⟩) l.length cap) none (some (.int .i64 (k : Int))) none).run Tryd.prog wq = .ok (.slice (some ⟨g, 0, none⟩) k cap) wq := fun wq => run_cutS0 Tryd.underlying32 info3 _ _ _ _ k rfl (by omega) wq
            obtain ⟨ad, had, hadE⟩ := cut_at g cap (k + 1) 1
            have hs2 : ∀ wq, (Instr.slice 32 (.slice (some ⟨g, 0, none⟩) l.length cap) (some (.int .i64 ((k : Int) + 1))) none none).run Tryd.prog wq = .ok (.slice (some ad) (l.length - (k + 1)) (cap - (k + 1))) wq := fun wq => by
              rw [← had]; exact run_cutS Tryd.underlying32 info3 _ _ _ _ (k + 1) (by omega) (by omega) wq
            have HA := hide hadE
            clear had hadE
            by_cases hi2 : (i : Int) < len2
            · obtain ⟨b, off, rfl, hc, -⟩ := (N2.out.kept R.out.kept) i (by omega)
              have hkk := hkE hi2
              clear hkE hk0 hle
              go_wp2_with fail
              clear hc
              refine (R.out.give x0 D3.out D1.out D2.out rfl rfl).mono ?_
              rintro e w3 ⟨rfl, hR3⟩
              have R3 := hide hR3
              have c3 := HC.out w3 (.inr hR3)
              clear hR3 R c1 HC
              go_wp2_with fail
              refine (R3.out.give_no x0 D4.out hx96 (by omega) rfl rfl).mono ?_
              rintro e w4 ⟨rfl, hR4⟩
              have R4 := hide hR4
              clear hR4 R3 c3 D2 D3 D4
              go_wp2_with fail
              have N4 := hide (show ∀ W, Kept [] w4 W → ∀ j u, ((l.take k).map iv)[j]? = some u → W.cell? ((⟨g, 0, none⟩ : Addr).add j) = some u from fun W hW j u hu => by
                have hj : j < k := by have := getElem?_lt hu; simp at this; omega
                refine hW.cell (World.ownsRow.cells R4.out.own rfl j u ?_) (by simp)
                rw [← hu]; simp [hj])
              have N5 := hide (show ∀ W, Kept [] w4 W → ∀ j u, ((l.drop (k + 1)).map iv)[j]? = some u → W.cell? (ad.add j) = some u from fun W hW j u hu => by
                have hj : j < l.length - (k + 1) := by have := getElem?_lt hu; simpa using this
                rw [HA.out j (by omega)]
                refine hW.cell ?_ (by simp)
                have h2 := World.ownsRow.cells R4.out.own (g := g) rfl (k + 1 + j) u (by rw [← hu]; simp)
                rw [add_plain, Nat.zero_add] at h2
                rw [Nat.mul_one]; exact h2)
              clear HA
              have L4 := hide (show ((l.take k).map iv).length = k * 1 by simp; omega)
              have L5 := hide (show ((l.drop (k + 1)).map iv).length = (l.length - (k + 1)) * 1 by simp)
              go_region_law (first
                | (refine step_append_own (by rfl) _ _ _ (by rfl) w4.heap.size 3 i3 (.int .i64 0) 1 8 Tryd.underlying32 I3.out Z3.out S3.out B3.out rfl (by decide) (.slice (some ⟨w4.heap.size, 0, none⟩) 0 0) 0 [] (by rfl) (World.ownsRow_lit _ #[] 0 (Nat.le_refl _) (by decide) rfl) ⟨g, 0, none⟩ k cap ((l.take k).map iv) (by rfl) L4.out (N4.out _ (by exact ((Kept.refl [] w4).drew.alloc _))) (one_iv _) (by unfold maxLen; omega) (by omega) (by simp) ?_; intro v1 w5 o5 g5 b5 n5; have K5 := own_grown (World.ownsRow_lit (e := 3) (size := 1) w4.drew #[] 0 (Nat.le_refl _) (by decide) rfl) g5 w4 ((Kept.refl [] w4).drew.alloc _) (Nat.le_refl _))
                | (refine step_append_own (by rfl) _ _ _ (by rfl) w4.heap.size 3 i3 (.int .i64 0) 1 8 Tryd.underlying32 I3.out Z3.out S3.out B3.out rfl (by decide) v1 (0 + k) ([] ++ (l.take k).map iv) (by rfl) o5 ad (l.length - (k + 1)) (cap - (k + 1)) ((l.drop (k + 1)).map iv) (by rfl) L5.out (N5.out _ K5) (one_iv _) (by unfold maxLen; omega) (by omega) K5.size ?_; intro v2 w6 o6 g6 b6 n6))
              have K6 := own_grown o5 g6 w4 K5 (Nat.le_refl _)
              have R6 := hide (R4.out.swap (l' := l.take k ++ l.drop (k + 1)) K6 (by
                have e1 : (l.take k ++ l.drop (k + 1)).length = 0 + k + (l.length - (k + 1)) := by simp; omega
                rw [e1, List.map_append]; exact o6))
              have D5' := D5.out
              clear o5 g5 b5 n5 o6 g6 b6 n6 K5 K6 R4 N4 N5 L4 L5 hs1 hs2
              go_wp2
              go_roundw
              case rel => exact ⟨i + 1, l.take k ++ l.drop (k + 1), by go_num, by omega, R6.out⟩
              case measure => simp [intOf]; omega
            · have hkk := hk0 hi2
              subst hkk
              have hs1' : ∀ wq, (Instr.slice 32 (.slice (some ⟨g, 0, none⟩) l.length cap) none (some (.int .i64 0)) none).run Tryd.prog wq = .ok (.slice (some ⟨g, 0, none⟩) 0 cap) wq := hs1
              have hs2' : ∀ wq, (Instr.slice 32 (.slice (some ⟨g, 0, none⟩) l.length cap) (some (.int .i64 1)) none none).run Tryd.prog wq = .ok (.slice (some ad) (l.length - (0 + 1)) (cap - (0 + 1))) wq := hs2
              have hw1 : IntKind.i64.wrap 1 = 1 := by decide
              clear hkE hk0 hle hs1 hs2 hk1 hk3 hwk
              go_wp2_with fail
              refine (R.out.give x0 D3.out D1.out D2.out rfl rfl).mono ?_
              rintro e w3 ⟨rfl, hR3⟩
              have R3 := hide hR3
              have c3 := HC.out w3 (.inr hR3)
              clear hR3 R c1 HC
              go_wp2_with fail
              refine (R3.out.give_no x0 D4.out hx96 (by omega) rfl rfl).mono ?_
              rintro e w4 ⟨rfl, hR4⟩
              have R4 := hide hR4
              clear hR4 R3 c3 D2 D3 D4
              go_wp2_with fail
              have N4 := hide (show ∀ W, Kept [] w4 W → ∀ j u, ((l.take 0).map iv)[j]? = some u → W.cell? ((⟨g, 0, none⟩ : Addr).add j) = some u from fun W hW j u hu => by
                simp at hu)
              have N5 := hide (show ∀ W, Kept [] w4 W → ∀ j u, ((l.drop (0 + 1)).map iv)[j]? = some u → W.cell? (ad.add j) = some u from fun W hW j u hu => by
                have hj : j < l.length - (0 + 1) := by have := getElem?_lt hu; simpa using this
                rw [HA.out j (by omega)]
                refine hW.cell ?_ (by simp)
                have h2 := World.ownsRow.cells R4.out.own (g := g) rfl (0 + 1 + j) u (by rw [← hu, List.getElem?_map, List.getElem?_map, List.getElem?_drop])
                rw [add_plain, Nat.zero_add] at h2
                rw [Nat.mul_one]; exact h2)
              clear HA
              have L4 := hide (show ((l.take 0).map iv).length = 0 * 1 by simp)
              have L5 := hide (show ((l.drop (0 + 1)).map iv).length = (l.length - (0 + 1)) * 1 by simp)
              go_region_law (first
                | (refine step_append_own (by rfl) _ _ _ (by rfl) w4.heap.size 3 i3 (.int .i64 0) 1 8 Tryd.underlying32 I3.out Z3.out S3.out B3.out rfl (by decide) (.slice (some ⟨w4.heap.size, 0, none⟩) 0 0) 0 [] (by rfl) (World.ownsRow_lit _ #[] 0 (Nat.le_refl _) (by decide) rfl) ⟨g, 0, none⟩ 0 cap ((l.take 0).map iv) (by rfl) L4.out (N4.out _ (by exact ((Kept.refl [] w4).drew.alloc _))) (one_iv _) (by unfold maxLen; omega) (by omega) (by simp) ?_; intro v1 w5 o5 g5 b5 n5; have K5 := own_grown (World.ownsRow_lit (e := 3) (size := 1) w4.drew #[] 0 (Nat.le_refl _) (by decide) rfl) g5 w4 ((Kept.refl [] w4).drew.alloc _) (Nat.le_refl _))
                | (refine step_append_own (by rfl) _ _ _ (by rfl) w4.heap.size 3 i3 (.int .i64 0) 1 8 Tryd.underlying32 I3.out Z3.out S3.out B3.out rfl (by decide) v1 (0 + 0) ([] ++ (l.take 0).map iv) (by rfl) o5 ad (l.length - (0 + 1)) (cap - (0 + 1)) ((l.drop (0 + 1)).map iv) (by rfl) L5.out (N5.out _ K5) (one_iv _) (by unfold maxLen; omega) (by omega) K5.size ?_; intro v2 w6 o6 g6 b6 n6))
              have K6 := own_grown o5 g6 w4 K5 (Nat.le_refl _)
              have R6 := hide (R4.out.swap (l' := l.take 0 ++ l.drop (0 + 1)) K6 (by
                have e1 : (l.take 0 ++ l.drop (0 + 1)).length = 0 + 0 + (l.length - (0 + 1)) := by simp
                rw [e1, List.map_append]; exact o6))
              have D5' := D5.out
              clear o5 g5 b5 n5 o6 g6 b6 n6 K5 K6 R4 N4 N5 L4 L5 hs1' hs2'
              go_wp2
              go_roundw
              case rel => exact ⟨i + 1, l.take 0 ++ l.drop (0 + 1), by go_num, by omega, R6.out⟩
              case measure => simp [intOf]; omega

theorem own : ownKnob Tryd.prog.godebug = none := by kernel_rfl
theorem laidOut : laidOutB Tryd.prog = true := by kernel_rfl

set_option maxRecDepth 100000 in
theorem contract (H : Type) (enc : TypeId × Value → H) (W : World) (base : Nat) (args : Array Value) (ds gs : List (DataW H)) (before : List MemPlace)
    (hval : ∀ (j : Nat) t v, Tryd.f9.params[j]? = some t → args[j]? = some v → Value.okWide Tryd.prog W .any base t v)
    (hW : DataW.Whole enc Tryd.prog Tryd.f9.params.toList Rows.heapRunsSpec.vars false W args.toList ds gs before) (_hsh : W.ShapedOpen Tryd.prog) (hlaid : laidMetH Tryd.prog Rows.heapRunsRow.laid W) :
    Calls Tryd.prog 9 args W fun e W' => ∃ v, e = .returned v ∧ Rows.heapRunsSpec.post enc Tryd.prog Tryd.f9 false true false false W args v W' := by
  have hW' := hW
  obtain ⟨p, q, hA0, hV, rfl, hfz, hnd⟩ := hW
  have hA : DataW.TrodAll enc Tryd.prog W 0 (fun _ => true) true Tryd.f9.params.toList args.toList ds p := hA0
  have hK := hA
  rw [Tryd.params9] at hA hval
  obtain ⟨v0, vs0, d0, ds0, p0, q0, hargs, rfl, rfl, h0, r0⟩ := trodAll_cons hA
  obtain ⟨v1, vs1, d1, ds1, p1, q1, rfl, rfl, rfl, h1, r1⟩ := trodAll_cons r0
  obtain ⟨v2, vs2, d2, ds2, p2, q2, rfl, rfl, rfl, h2, r2⟩ := trodAll_cons r1
  obtain ⟨rfl, rfl, rfl⟩ := trodAll_nil r2
  obtain rfl : args = #[v0, v1, v2] := by cases args; simp_all
  obtain ⟨rfl, rfl⟩ := trodVars_none hV
  obtain ⟨x, rfl, rfl, rfl, w0⟩ := open_int Tryd.underlying3 (hval 0 3 v0 rfl rfl) h0
  obtain ⟨a1, len1, cap1, zs1, rfl, hl1, hm1, hn1, hT1⟩ := open_list Tryd.underlying32 Tryd.underlying3 (by kernel_rfl) (okWide_slice Tryd.underlying32 (hval 1 32 v1 rfl rfl)) h1
  obtain ⟨a2, len2, cap2, zs2, rfl, hl2, hm2, hn2, hT2⟩ := open_list Tryd.underlying32 Tryd.underlying3 (by kernel_rfl) (okWide_slice Tryd.underlying32 (hval 2 32 v2 rfl rfl)) h2
  have hTab : By.Tab W := By.tab_of_laid hlaid
  clear hA0
  refine (walk x (Nat.le_trans hl1 hm1) (Nat.le_trans hl2 hm2) hT1 hT2 hTab).mono fun e W' ⟨he, hk⟩ => ?_
  subst he
  exact ⟨_, rfl, _, _, _, [], _, [], hW', trodAll_mk1 (shut_bool Tryd.underlying4 _), trodAll_below laidOut hk.below _ _ _ _ hK (by kernel_rfl), rfl, hk.below.frame _, fun h => by cases h⟩

set_option maxRecDepth 100000 in
theorem laid_met (os : Os) : laidMet Tryd.prog Rows.heapRunsRow.laid ((World.laidAll Tryd.prog os Rows.heapRunsRow.laid).forCall (fun _ _ => 0) ⟨#[], #[.int .i64 0, .slice none 0 0, .slice none 0 0], []⟩).memory :=
  laidMet_laidAll _ (by kernel_rfl) (by kernel_rfl)
set_option maxRecDepth 100000 in
theorem reads (os : Os) {H : Type} (enc : TypeId × Value → H) : ∃ places, DataW.whole enc Tryd.prog ((World.laidAll Tryd.prog os Rows.heapRunsRow.laid).forCall (fun _ _ => 0) ⟨#[], #[.int .i64 0, .slice none 0 0, .slice none 0 0], []⟩).memory Tryd.f9.params.toList Rows.heapRunsSpec.vars false (#[.int .i64 0, .slice none 0 0, .slice none 0 0] : Array Value).toList 8 = some ([.lit (.int .i64 0), .nil, .nil], [], places) :=
  ⟨[], by kernel_rfl⟩

set_option maxRecDepth 100000 in
theorem lifted (os : Os) (started : os.Started) (H : Type) (enc : TypeId × Value → H) (F : Stop.Interp) :
    ReturnsInHanded {} Tryd.checked os 9 .any ((OpenSpec.ofChange Rows.heapRunsSpec).preRow enc Tryd.prog Tryd.f9 Rows.heapRunsRow.domain false Rows.heapRunsRow.laid) (((OpenSpec.ofChange Rows.heapRunsSpec).at F).post enc Tryd.prog Tryd.f9 false true false false) := by
  obtain ⟨places, hx⟩ := reads os enc
  refine returnsInHanded_of_row (C := Tryd.checked) (s := OpenSpec.ofChange Rows.heapRunsSpec) own started (by kernel_rfl) Tryd.func9
    (witness_row_at (enc := enc) (C := Tryd.checked) false (World.laidAll Tryd.prog os Rows.heapRunsRow.laid) #[.int .i64 0, .slice none 0 0, .slice none 0 0] (World.laidAll_os _ _ _) (by kernel_rfl) (by kernel_rfl) (by kernel_rfl)
      (OpenSpec.preRow_of_cond 8 hx (by kernel_rfl) (fun k hk => by cases hk) (by kernel_rfl) (laid_met os))) ?_
  intro W base args ds gs before hval hW _ _ _ hlaid hsh _
  exact contract H enc W base args ds gs before hval hW hsh hlaid

theorem said : Rows.HeapRunsSaid :=
  OpenClaim.holds_of_cond 9 Tryd.f9 rfl rfl rfl rfl rfl rfl rfl ⟨rfl, rfl, rfl, rfl, rfl⟩ rfl rfl rfl rfl rfl (by kernel_rfl) Tryd.func9 (by kernel_rfl)
    (of_decide_eq_true (by kernel_rfl)) (by unfold Func.isWrapper; first | (rw [if_pos (by decide +kernel)]; kernel_rfl) | (rw [if_neg (by decide +kernel)]; exact ⟨rfl, rfl⟩))
    (fun os started H enc _ F => by rw [OpenClaim.pre_eq_preRow]; exact lifted os started H enc F)

theorem plain (f : FuncId) (fn : Func) (hf : Tryd.pinned.checked.prog.funcNamed Tryd.f9.name = some f) (hfn : Tryd.pinned.checked.prog.funcs[f]? = some fn) :
    false = Tryd.pinned.checked.prog.looks [] ∧ ∀ (j : Nat) t, fn.params[j]? = some t → Tryd.pinned.checked.prog.wantsStandIn t = false := by
  obtain rfl : f = 9 := Option.some.inj ((show Tryd.prog.funcNamed Tryd.f9.name = some 9 by kernel_rfl).symm.trans hf) |>.symm
  obtain rfl : fn = Tryd.f9 := (Option.some.inj (Tryd.func9.symm.trans hfn)).symm
  refine ⟨by kernel_rfl, fun j t ht => ?_⟩
  rw [Tryd.params9] at ht
  have hm : t = 3 ∨ t = 32 := by have h9 := Array.mem_of_getElem? ht; simp at h9; first | exact h9 | (rcases h9 with h | h | h <;> simp [h])
  rcases hm with rfl | rfl
  · exact (show Tryd.prog.wantsStandIn 3 = false by kernel_rfl)
  · exact (show Tryd.prog.wantsStandIn 32 = false by kernel_rfl)

theorem card : Rows.HeapRunsCardSaid :=
  Claim7.holds_tied_plain_at .later [] _ _ _ _ said (fun _ h => by cases h) (by kernel_rfl) (fun _ h => by cases h) heapRuns_row_tie rfl ⟨rfl, rfl⟩ (by kernel_rfl) rfl plain (by kernel_rfl)
end Go.Proofs.YtkhcopnklfmgcaaDoor.runs
