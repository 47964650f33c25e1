/-
  No statement of the program: a span, a cache and a queue side by side, and what of the span lies where, over this seat's translation.
-/
import Derived.Test.YtdgmfcnblaamcabDoorSpn4
import Derived.Test.YtdgmfcnblaamcabDoorCch2
import Derived.Test.YtdgmfcnblaamcabDoorCch3
import Derived.Test.YtdgmfcnblaamcabDoorRngI
import Derived.Test.YtdgmfcnblaamcabDoorStands
import Derived.Test.YtdgmfcnblaamcabDoorOwn
namespace Go.Proofs.YtdgmfcnblaamcabDoor.Kp
open Go.ChangeShapes Go.WideShapes Go.ChangeAt Go.RowKit By
theorem cnt_up (u : Nat → Bool) (i : Nat) (b : Bool) : ∀ n, n ≤ i → Sp.cnt (Sp.up u i b) n = Sp.cnt u n
  | 0, _ => rfl
  | n + 1, h => by
    unfold Sp.cnt
    rw [cnt_up u i b n (by omega), show Sp.up u i b n = u n from if_neg (by omega)]
theorem cnt_on (u : Nat → Bool) (i : Nat) (hu : u i = false) : ∀ n, i < n → Sp.cnt (Sp.up u i true) n = Sp.cnt u n + 1
  | n + 1, h => by
    unfold Sp.cnt
    by_cases e : n = i
    · subst e
      rw [cnt_up u n true n (Nat.le_refl _), show Sp.up u n true n = true from if_pos rfl, hu]; simp
    · rw [cnt_on u i hu n (by omega), show Sp.up u i true n = u n from if_neg e]; omega
theorem cnt_off (u : Nat → Bool) (i : Nat) (hu : u i = true) : ∀ n, i < n → Sp.cnt (Sp.up u i false) n + 1 = Sp.cnt u n
  | n + 1, h => by
    unfold Sp.cnt
    by_cases e : n = i
    · subst e
      rw [cnt_up u n false n (Nat.le_refl _), show Sp.up u n false n = false from if_pos rfl, hu]; simp
    · rw [show Sp.up u i false n = u n from if_neg e]
      have := cnt_off u i hu n (by omega); omega
def ints (l : List Nat) : List Int := l.map Int.ofNat
/-- A span, a cache and a queue: what is taken of the span lies in the cache (L), in the queue (R), in the hand (H), or is out (o of them). -/
structure KK (W w : World) (p tb cp rp rc : Nat) (S : Nat → Value) (c : Nat) (sz : Int) (n : Nat) (u : Nat → Bool) (L R H : List Nat) (o : Nat) : Prop where
  sa : Sp.SA w p tb c sz n u
  ca : ∃ M, Cc.CA w 91 cp S M ∧ M c = L
  rg : RI.RG w rp rc 4 (ints R)
  kept : Kept [] W w
  ft : W.heap.size ≤ tb
  fc : ∀ b, b ∈ Cc.foot cp S → W.heap.size ≤ b
  fr : W.heap.size ≤ rc
  a1 : tb ∉ Cc.foot cp S
  a2 : p ∉ Cc.foot cp S
  a3 : rp ∉ Cc.foot cp S
  a4 : rc ∉ Cc.foot cp S
  a5 : tb ≠ rp ∧ tb ≠ rc ∧ p ≠ rc
  nd : (L ++ R ++ H).Nodup
  mem : ∀ x, x ∈ L ++ R ++ H → x < n ∧ u x = true
  sum : Sp.cnt u n = L.length + R.length + H.length + o
def KS (W w : World) (p tb cp rp rc c : Nat) (sz : Int) (n : Nat) (L R H : List Nat) (o : Nat) : Prop := ∃ S u, KK W w p tb cp rp rc S c sz n u L R H o
section
variable {W w : World} {p tb cp rp rc c n o : Nat} {sz : Int} {L R H : List Nat} {S : Nat → Value} {u : Nat → Bool}
theorem KS.next {w' : World} (h : KS W w p tb cp rp rc c sz n L R H o) (k : Kept [] w w') : KS W w' p tb cp rp rc c sz n L R H o := by
  obtain ⟨S, u, h⟩ := h
  obtain ⟨M, hM, e⟩ := h.ca
  exact ⟨S, u, h.sa.kept0 k, ⟨M, hM.kept0 k, e⟩, h.rg.kept k (by simp) (by simp), h.kept.next k, h.ft, h.fc, h.fr, h.a1, h.a2, h.a3, h.a4, h.a5, h.nd, h.mem, h.sum⟩
theorem KS.kept (h : KS W w p tb cp rp rc c sz n L R H o) : Kept [] W w := by obtain ⟨S, u, h⟩ := h; exact h.kept
theorem KS.few (h : KS W w p tb cp rp rc c sz n L R H o) (hn : n ≤ 8) : L.length + R.length + H.length + o ≤ 8 := by
  obtain ⟨S, u, h⟩ := h
  have := Sp.cnt_le u n
  have := h.sum
  omega
/-- The span turned. -/
theorem KK.span {w' : World} {u' : Nat → Bool} {L' R' H' : List Nat} {o' : Nat} (h : KK W w p tb cp rp rc S c sz n u L R H o) (hs : Sp.SA w' p tb c sz n u') (k : Kept [tb] w w') (hL : L' = L) (hR : R' = R) (hn : (L' ++ R' ++ H').Nodup) (hm : ∀ x, x ∈ L' ++ R' ++ H' → x < n ∧ u' x = true) (hc : Sp.cnt u' n = L'.length + R'.length + H'.length + o') : KS W w' p tb cp rp rc c sz n L' R' H' o' := by
  obtain ⟨M, hM, e⟩ := h.ca
  exact ⟨S, u', hs, ⟨M, hM.kept k (fun b hb hm => h.a1 (by have := List.mem_singleton.1 hm; rw [← this]; exact hb)), by rw [hL]; exact e⟩, by rw [hR]; exact h.rg.kept k (by simpa using fun e => h.a5.1 e.symm) (by simpa using fun e => h.a5.2.1 e.symm), h.kept.trans k (fun x hx hl => by have := List.mem_singleton.1 hx; have := h.ft; omega), h.ft, h.fc, h.fr, h.a1, h.a2, h.a3, h.a4, h.a5, hn, hm, hc⟩
/-- The cache turned. -/
theorem KK.cache {w' : World} {S' : Nat → Value} {M' : Nat → List Nat} {L' R' H' : List Nat} {o' : Nat} (h : KK W w p tb cp rp rc S c sz n u L R H o) (hs : Cc.CA w' 91 cp S' M') (e : M' c = L') (k : Kept (Cc.foot cp S) w w') (hb : ∀ b, b ∈ Cc.foot cp S' → b ∈ Cc.foot cp S ∨ w.heap.size ≤ b) (hR : R' = R) (hn : (L' ++ R' ++ H').Nodup) (hm : ∀ x, x ∈ L' ++ R' ++ H' → x < n ∧ u x = true) (hc : L.length + R.length + H.length + o = L'.length + R'.length + H'.length + o') : KS W w' p tb cp rp rc c sz n L' R' H' o' := by
  have l1 := h.sa.row.lt
  have l2 := h.sa.tab.lt
  have l3 : rp < w.heap.size := block_lt_of_cell h.rg.q
  have l4 : rc < w.heap.size := by
    obtain ⟨s, t, hc⟩ := h.rg.ch
    exact (Array.getElem?_eq_some_iff.1 hc).1
  have no : ∀ b, b < w.heap.size → b ∉ Cc.foot cp S → b ∉ Cc.foot cp S' := fun b h1 h2 h3 => by
    rcases hb b h3 with h4 | h4
    · exact h2 h4
    · omega
  exact ⟨S', u, h.sa.kept k h.a2 h.a1, ⟨M', hs, e⟩, by rw [hR]; exact h.rg.kept k h.a3 h.a4, h.kept.trans k (fun x hx hl => absurd (h.fc x hx) (Nat.not_le.2 hl)), h.ft, fun b hb' => by
    rcases hb b hb' with h1 | h1
    · exact h.fc b h1
    · exact Nat.le_trans h.kept.size h1, h.fr, no _ l2 h.a1, no _ l1 h.a2, no _ l3 h.a3, no _ l4 h.a4, h.a5, hn, hm, by rw [h.sum, hc]⟩
/-- The queue turned. -/
theorem KK.ring {w' : World} {L' R' H' : List Nat} {o' : Nat} (h : KK W w p tb cp rp rc S c sz n u L R H o) (hs : RI.RG w' rp rc 4 (ints R')) (k : Kept [rc] w w') (hL : L' = L) (hn : (L' ++ R' ++ H').Nodup) (hm : ∀ x, x ∈ L' ++ R' ++ H' → x < n ∧ u x = true) (hc : L.length + R.length + H.length + o = L'.length + R'.length + H'.length + o') : KS W w' p tb cp rp rc c sz n L' R' H' o' := by
  obtain ⟨M, hM, e⟩ := h.ca
  exact ⟨S, u, h.sa.kept k (by simpa using h.a5.2.2) (by simpa using h.a5.2.1), ⟨M, hM.kept k (fun b hb hm => h.a4 (by have := List.mem_singleton.1 hm; rw [← this]; exact hb)), by rw [hL]; exact e⟩, hs, h.kept.trans k (fun x hx hl => by have := List.mem_singleton.1 hx; have := h.fr; omega), h.ft, h.fc, h.fr, h.a1, h.a2, h.a3, h.a4, h.a5, hn, hm, by rw [h.sum, hc]⟩
theorem KS.take (h : KS W w p tb cp rp rc c sz n L R [] o) (hn : 0 < n ∧ n ≤ 8) : Calls Tryd.prog 28 #[.pointer (some ⟨p, 0, none⟩)] w fun e w' =>
    (e = .returned (.tuple #[.int .i64 0, .int .i64 14]) ∧ KS W w' p tb cp rp rc c sz n L R [] o) ∨ ∃ i : Nat, e = .returned (.tuple #[.int .i64 i, .int .i64 0]) ∧ KS W w' p tb cp rp rc c sz n L R [i] o := by
  obtain ⟨S, u, h⟩ := h
  refine (Sp.take_any h.sa hn).mono ?_
  rintro e w' (⟨rfl, -, rfl⟩ | ⟨i, rfl, hi, hu, -, hs, hk⟩)
  · exact .inl ⟨rfl, S, u, h⟩
  · have hni : i ∉ L ++ R ++ [] := fun hm => by have := (h.mem i hm).2; rw [hu] at this; cases this
    refine .inr ⟨i, rfl, h.span hs hk rfl rfl ?_ (fun x hx => ?_) ?_⟩
    · rw [List.append_nil] at hni
      rw [List.nodup_append]
      refine ⟨by simpa using h.nd, by simp, fun a ha b hb e => hni ?_⟩
      rw [← List.mem_singleton.1 hb, ← e]; exact ha
    · rcases List.mem_append.1 hx with h1 | h1
      · obtain ⟨h2, h3⟩ := h.mem x (by simpa using h1)
        refine ⟨h2, ?_⟩
        unfold Sp.up
        split
        · rfl
        · exact h3
      · rw [List.mem_singleton.1 h1]
        exact ⟨hi, if_pos rfl⟩
    · rw [cnt_on u i hu n hi, h.sum]; simp; omega
theorem KS.push {i : Nat} (h : KS W w p tb cp rp rc c sz n L R [i] o) (hc : c < 4) (hn : n ≤ 8) : Calls Tryd.prog 29 #[.pointer (some ⟨cp, 0, none⟩), .int .i64 c, .int .i64 i] w fun e w' => e = .returned (.tuple #[.bool true, .int .i64 0]) ∧ KS W w' p tb cp rp rc c sz n (L ++ [i]) R [] o := by
  have hf := h.few hn
  obtain ⟨S, u, h⟩ := h
  obtain ⟨M, hM, e⟩ := h.ca
  subst e
  refine (Cc.push_ok hM hc (by simp at hf; omega) i).mono ?_
  rintro e w' ⟨rfl, S', hs, hk, hb⟩
  have hp : (M c ++ [i] ++ R ++ []).Perm (M c ++ R ++ [i]) := by
    rw [List.append_nil, List.append_assoc, List.append_assoc]
    exact (List.Perm.append_left _ List.perm_append_comm)
  refine ⟨rfl, h.cache hs (Cc.up_at _ _ _) hk hb rfl (hp.nodup_iff.2 h.nd) (fun x hx => h.mem x (hp.mem_iff.1 hx)) (by simp; omega)⟩
theorem KS.pop (h : KS W w p tb cp rp rc c sz n L R [] o) (hc : c < 4) (hn : n ≤ 8) : Calls Tryd.prog 30 #[.pointer (some ⟨cp, 0, none⟩), .int .i64 c] w fun e w' =>
    (e = .returned (.tuple #[.int .i64 0, .bool false]) ∧ KS W w' p tb cp rp rc c sz n L R [] o) ∨ ∃ (x : Nat) (L' : List Nat), e = .returned (.tuple #[.int .i64 x, .bool true]) ∧ KS W w' p tb cp rp rc c sz n L' R [] (o + 1) := by
  have hf := h.few hn
  obtain ⟨S, u, h⟩ := h
  obtain ⟨M, hM, e⟩ := h.ca
  subst e
  by_cases h0 : M c = []
  · refine (Cc.pop_none hM hc h0).mono ?_
    rintro e w' ⟨rfl, rfl⟩
    exact .inl ⟨rfl, S, u, h⟩
  · obtain ⟨m, hm⟩ : ∃ m, (M c).length = m + 1 := ⟨(M c).length - 1, by have := List.length_pos_iff.2 h0; omega⟩
    refine (Cc.pop_ok hM hc hm (by omega)).mono ?_
    rintro e w' ⟨rfl, S', hs, hk, hb⟩
    have hsub : ((M c).take m ++ R ++ []).Sublist (M c ++ R ++ []) := by
      rw [List.append_nil, List.append_nil]
      exact (List.take_sublist m (M c)).append (List.Sublist.refl _)
    exact .inr ⟨_, (M c).take m, rfl, h.cache hs (Cc.up_at _ _ _) hk hb rfl (hsub.nodup h.nd) (fun x hx => h.mem x (hsub.subset hx)) (by simp; omega)⟩
/-- A list of one, as Flush tells it. -/
def One (w : World) (v : Value) (x : Nat) : Prop := ∃ b cap, v = .slice (some ⟨b, 0, none⟩) 1 cap ∧ w.cell? ⟨b, 0, none⟩ = some (.int .i64 x)
theorem KS.flush (h : KS W w p tb cp rp rc c sz n L R [] o) (hc : c < 4) (hn : n ≤ 8) : Calls Tryd.prog 31 #[.pointer (some ⟨cp, 0, none⟩), .int .i64 c, .int .i64 1] w fun e w' =>
    (e = .returned (.slice none 0 0) ∧ KS W w' p tb cp rp rc c sz n L R [] o) ∨ ∃ (x : Nat) (L' : List Nat) (v : Value), e = .returned v ∧ One w' v x ∧ KS W w' p tb cp rp rc c sz n L' R [x] o := by
  have hf := h.few hn
  obtain ⟨S, u, h⟩ := h
  obtain ⟨M, hM, e⟩ := h.ca
  subst e
  cases h0 : M c with
  | nil =>
    refine (Cc.flush_none hM hc h0 1 (by omega) (by omega)).mono ?_
    rintro e w' ⟨rfl, rfl⟩
    exact .inl ⟨rfl, S, u, by rw [h0] at h; exact h⟩
  | cons x L' =>
    refine (Cc.flush_ok hM hc (n := 1) (Nat.le_refl _) (by rw [h0]; simp) (by omega)).mono ?_
    rintro e w' ⟨v, rfl, hv, -, S', hs, hk, hb, -⟩
    rw [h0] at hv hs
    obtain ⟨ao, cap, rfl, hcell⟩ := hv.slice
    obtain ⟨b, rfl, hx⟩ := hcell 0 (by simp)
    have hp : (L' ++ R ++ [x]).Perm (x :: L' ++ R ++ []) := by
      rw [List.append_nil]
      exact List.perm_append_comm
    rw [h0] at h
    refine .inr ⟨x, L', _, rfl, ⟨b, cap, rfl, hx⟩, h.cache hs (Cc.up_at _ _ _) hk hb rfl (hp.nodup_iff.2 h.nd) (fun y hy => h.mem y (hp.mem_iff.1 hy)) (by simp; omega)⟩
theorem KS.put {x : Nat} (h : KS W w p tb cp rp rc c sz n L R [x] o) : Calls Tryd.prog 32 #[.pointer (some ⟨rp, 0, none⟩), .int .i64 x] w fun e w' =>
    (e = .returned (.bool true) ∧ KS W w' p tb cp rp rc c sz n L (R ++ [x]) [] o) ∨ (e = .returned (.bool false) ∧ w' = w) := by
  obtain ⟨S, u, h⟩ := h
  by_cases hr : R.length < 4
  · refine (RI.put_room h.rg (by simpa [ints] using hr) (x : Int)).mono ?_
    rintro e w' ⟨rfl, hs, hk⟩
    refine .inl ⟨rfl, h.ring (by simpa [ints] using hs) hk rfl ?_ (fun y hy => h.mem y ?_) (by simp; omega)⟩
    · rw [List.append_nil, ← List.append_assoc]; exact h.nd
    · rw [List.append_nil, ← List.append_assoc] at hy; exact hy
  · refine (RI.put_full h.rg (by simpa [ints] using hr) (x : Int)).mono ?_
    rintro e w' ⟨rfl, rfl⟩
    exact .inr ⟨rfl, rfl⟩
theorem KS.give {x : Nat} (h : KS W w p tb cp rp rc c sz n L R (x :: H) o) (hn : 0 < n ∧ n ≤ 8) : Calls Tryd.prog 33 #[.pointer (some ⟨p, 0, none⟩), .int .i64 x] w fun e w' =>
    e = .returned (.int .i64 0) ∧ KS W w' p tb cp rp rc c sz n L R H o ∧ Kept [tb] w w' ∧ ∀ w'', Kept [] w' w'' → Calls Tryd.prog 35 #[.pointer (some ⟨p, 0, none⟩), .int .i64 x] w'' fun e w3 => e = .returned (.bool false) ∧ w3 = w'' := by
  obtain ⟨S, u, h⟩ := h
  have hp : (x :: (L ++ R ++ H)).Perm (L ++ R ++ x :: H) := (List.perm_middle).symm
  have hnd := hp.nodup_iff.2 h.nd
  obtain ⟨hx1, hx2⟩ := List.nodup_cons.1 hnd
  obtain ⟨hxn, hxu⟩ := h.mem x (hp.mem_iff.1 (by simp))
  refine (Sp.give_at h.sa hn x hxn hxu).mono ?_
  rintro e w' ⟨rfl, hs, hk⟩
  refine ⟨rfl, h.span hs hk rfl rfl hx2 (fun y hy => ?_) ?_, hk, fun w'' k2 => ?_⟩
  · obtain ⟨h1, h2⟩ := h.mem y (hp.mem_iff.1 (List.mem_cons_of_mem _ hy))
    refine ⟨h1, ?_⟩
    have : y ≠ x := fun e => hx1 (e ▸ hy)
    show (if y = x then _ else u y) = true
    rw [if_neg this]; exact h2
  · have := cnt_off u x hxu n hxn
    have := h.sum
    simp at this; omega
  · refine (Sp.has_any (hs.kept0 k2) hn (x : Int)).mono ?_
    rintro e w3 ⟨rfl, hw⟩
    refine ⟨?_, hw⟩
    have : Sp.hasB n (Sp.up u x false) (x : Int) = false := by
      unfold Sp.hasB
      rw [show Sp.up u x false (x : Int).toNat = false from if_pos (by simp)]
      simp
    rw [this]
theorem KS.all (h : KS W w p tb cp rp rc c sz n L R [] o) (hn : n ≤ 8) : Calls Tryd.prog 34 #[.pointer (some ⟨rp, 0, none⟩)] w fun e w' =>
    ∃ v, e = .returned v ∧ w'.ownsRow w.heap.size 3 1 v R.length (R.map (fun x => (.int .i64 (x : Nat) : Value))) ∧ KS W w' p tb cp rp rc c sz n L [] R o := by
  have hf := h.few hn
  obtain ⟨S, u, h⟩ := h
  refine (RI.all_any h.rg (by simp [ints]; simp at hf; omega)).mono ?_
  rintro e w' ⟨v, rfl, hg, hs, hk⟩
  refine ⟨v, rfl, ?_, h.ring hs hk rfl (by simpa using h.nd) (fun x hx => h.mem x (by simpa using hx)) (by simp)⟩
  unfold RI.Got at hg
  simpa [ints, Function.comp_def] using hg
theorem KS.qtake (h : KS W w p tb cp rp rc c sz n L R [] o) : Calls Tryd.prog 36 #[.pointer (some ⟨rp, 0, none⟩)] w fun e w' =>
    (e = .returned (.tuple #[.int .i64 0, .bool false]) ∧ KS W w' p tb cp rp rc c sz n L R [] o) ∨ ∃ (x : Nat) (R' : List Nat), e = .returned (.tuple #[.int .i64 x, .bool true]) ∧ KS W w' p tb cp rp rc c sz n L R' [x] o := by
  obtain ⟨S, u, h⟩ := h
  cases R with
  | nil =>
    refine (RI.take_none h.rg).mono ?_
    rintro e w' ⟨rfl, rfl⟩
    exact .inl ⟨rfl, S, u, h⟩
  | cons x R' =>
    refine (RI.take_some (x := (x : Int)) (l := ints R') h.rg).mono ?_
    rintro e w' ⟨rfl, hs, hk⟩
    have hp : (L ++ R' ++ [x]).Perm (L ++ x :: R' ++ []) := by
      rw [List.append_nil, List.append_assoc]
      exact List.Perm.append_left _ List.perm_append_comm
    exact .inr ⟨x, R', rfl, h.ring hs hk rfl (hp.nodup_iff.2 h.nd) (fun y hy => h.mem y (hp.mem_iff.1 hy)) (by simp; omega)⟩
theorem KS.used (h : KS W w p tb cp rp rc c sz n L R [] o) (hn : 0 < n ∧ n ≤ 8) : Calls Tryd.prog 37 #[.pointer (some ⟨p, 0, none⟩)] w fun e w' => e = .returned (.int .i64 (L.length + R.length + o : Nat)) ∧ w' = w := by
  obtain ⟨S, u, h⟩ := h
  refine (Sp.used_any h.sa hn).mono ?_
  rintro e w' ⟨rfl, hw⟩
  have := h.sum
  simp at this
  rw [this]
  exact ⟨rfl, hw⟩
theorem KS.clen (h : KS W w p tb cp rp rc c sz n L R H o) (hc : c < 4) : Calls Tryd.prog 38 #[.pointer (some ⟨cp, 0, none⟩), .int .i64 c] w fun e w' => e = .returned (.int .i64 L.length) ∧ w' = w := by
  obtain ⟨S, u, h⟩ := h
  obtain ⟨M, hM, e⟩ := h.ca
  subst e
  exact Cc.len_ok hM hc
theorem KS.rlen (h : KS W w p tb cp rp rc c sz n L R H o) : Calls Tryd.prog 39 #[.pointer (some ⟨rp, 0, none⟩)] w fun e w' => e = .returned (.int .i64 R.length) ∧ w' = w := by
  obtain ⟨S, u, h⟩ := h
  refine (RI.len_any h.rg).mono ?_
  rintro e w' ⟨rfl, hw⟩
  exact ⟨by simp [ints], hw⟩
end
theorem KS.le {W w : World} {p tb cp rp rc c n o : Nat} {sz : Int} {L R : List Nat} (h : KS W w p tb cp rp rc c sz n L R [] o) : L.length + R.length + o ≤ n := by
  obtain ⟨S, u, h⟩ := h
  have := Sp.cnt_le u n
  have := h.sum
  simp at this
  omega
theorem KS.ends {W w : World} {p tb cp rp rc c n o : Nat} {sz : Int} {L R : List Nat} (h : KS W w p tb cp rp rc c sz n L R [] o) (hn : 0 < n ∧ n ≤ 8) (hc : c < 4) : ∃ a b : Nat, a + b + o ≤ n ∧
    Calls Tryd.prog 37 #[.pointer (some ⟨p, 0, none⟩)] w (fun e w' => e = .returned (.int .i64 (a + b + o : Nat)) ∧ w' = w) ∧
    Calls Tryd.prog 38 #[.pointer (some ⟨cp, 0, none⟩), .int .i64 c] w (fun e w' => e = .returned (.int .i64 (a : Nat)) ∧ w' = w) ∧
    Calls Tryd.prog 39 #[.pointer (some ⟨rp, 0, none⟩)] w (fun e w' => e = .returned (.int .i64 (b : Nat)) ∧ w' = w) :=
  ⟨L.length, R.length, h.le, h.used hn, h.clen hc, h.rlen⟩
theorem KS.tb_lt {W w : World} {p tb cp rp rc c n o : Nat} {sz : Int} {L R H : List Nat} (h : KS W w p tb cp rp rc c sz n L R H o) : tb < w.heap.size := by
  obtain ⟨S, u, h⟩ := h
  exact h.sa.tab.lt
end Go.Proofs.YtdgmfcnblaamcabDoor.Kp
