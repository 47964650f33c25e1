
/-
  No statement of the program: a log and its events, over this seat's translation. 'LA w p cb n ev l': at p lies a log of n nodes whose events are l.
-/
import Derived.Test.YtbejafjpdplofaaSts2
namespace Go.Proofs.Ytbejafjpdplofaa.St
open Go.ChangeShapes Go.WideShapes Go.ChangeAt Go.RowKit By

theorem own_shapeS {w : World} {base : Nat} {e : TypeId} {size : Nat} {v : Value} {n : Nat} {xs : List Value} (h : w.ownsRow base e size v n xs) : ∃ ao cap, v = .slice ao n cap := by
  rcases h.2 with ⟨rfl, rfl⟩ | ⟨g, cap, cur, rfl, _⟩
  · exact ⟨none, 0, rfl⟩
  · exact ⟨_, cap, rfl⟩
structure LA (w : World) (p cb n : Nat) (ev : Value) (l : List Ev) : Prop where
  sc : SC w p cb n ev (cn l)
  own : w.ownsRow 0 33 4 ev l.length (fl l)
  np : ev.ownBlock ≠ some p
  nc : ev.ownBlock ≠ some cb
def foot (p cb : Nat) (ev : Value) : List Nat := p :: cb :: ev.ownBlock.toList
theorem mem_foot {p cb : Nat} {ev : Value} {b : Nat} : b ∈ foot p cb ev ↔ b = p ∨ b = cb ∨ ev.ownBlock = some b := by
  unfold foot
  simp only [List.mem_cons, Option.mem_toList]
theorem infoE : ∃ i, Try.prog.info? 33 = some i ∧ i.zero = some (.agg #[.int .i64 0, .int .i64 0, .int .i64 0, .bool false]) ∧ i.size = 4 ∧ i.bytes = 32 := by
  have h : (Try.prog.info? 33).map (fun i => (i.zero, i.size, i.bytes)) = some (some (.agg #[.int .i64 0, .int .i64 0, .int .i64 0, .bool false]), 4, 32) := by kernel_rfl
  obtain ⟨ti, hti, hz⟩ := Option.map_eq_some_iff.1 h
  simp only [Prod.mk.injEq] at hz
  exact ⟨ti, hti, hz.1, hz.2.1, hz.2.2⟩
theorem news_four {w : World} {a b c d : Value} {t : TypeId} : ∀ j u, [a, b, c, d][j]? = some u → (w.alloc (.cells #[a, b, c, d] t)).cell? ((⟨w.heap.size, 0, none⟩ : Addr).add j) = some u := by
  intro j u hj
  rw [add_plain, Nat.zero_add, World.cell?_alloc_mark]
  match j, hj with
  | 0, hj => simpa using hj
  | 1, hj => simpa using hj
  | 2, hj => simpa using hj
  | 3, hj => simpa using hj
theorem one_v (x : Ev) : ∀ u ∈ x.v, u.oneCell' = true := by
  intro u hu
  simp [Ev.v] at hu
  rcases hu with rfl | rfl | rfl | rfl <;> rfl
theorem grown_kept {v u : Value} {w5 w wx : World} (hv : v = u) (K : Kept [] w wx) (g : wx.grownBy w5 u.ownBlock) : Kept v.ownBlock.toList w w5 := by
  subst hv
  exact (K.mono (M := v.ownBlock.toList) (fun _ h => by simp at h)).trans (Kept.of_grownBy (L := v.ownBlock.toList) g (fun k hk _ => by rw [hk]; simp)) (fun _ h _ => h)
section
variable {w : World} {p cb : Nat} {n : Nat} {ev : Value} {l : List Ev}
theorem LA.lt (h : LA w p cb n ev l) {b : Nat} (hb : b ∈ foot p cb ev) : b < w.heap.size := by
  rcases mem_foot.1 hb with rfl | rfl | hb
  · exact h.sc.row.lt
  · exact h.sc.tab.lt
  · exact (h.own.lt b hb).2
theorem own_keptF {L : List Nat} {w w' : World} {base : Nat} {e : TypeId} {size : Nat} {v : Value} {n : Nat} {xs : List Value} (h : w.ownsRow base e size v n xs) (k : Kept L w w') (hL : ∀ b, v.ownBlock = some b → b ∉ L) : w'.ownsRow base e size v n xs := by
  refine ⟨h.1, ?_⟩
  rcases h.2 with hn | ⟨g, cap, cur, rfl, hb, hg, rest⟩
  · exact .inl hn
  · exact .inr ⟨g, cap, cur, rfl, hb, k.blk hg (hL g rfl), rest⟩
theorem LA.kept {w' : World} {F : List Nat} (h : LA w p cb n ev l) (k : Kept F w w') (hF : ∀ b, b ∈ foot p cb ev → b ∉ F) : LA w' p cb n ev l :=
  ⟨h.sc.kept k (hF p (mem_foot.2 (.inl rfl))) (hF cb (mem_foot.2 (.inr (.inl rfl)))), own_keptF h.own k (fun b e => hF b (mem_foot.2 (.inr (.inr e)))), h.np, h.nc⟩
theorem LA.kept0 {w' : World} (h : LA w p cb n ev l) (k : Kept [] w w') : LA w' p cb n ev l := h.kept k (fun _ _ => by simp)
theorem LA.push {w3 w5 : World} {x : Ev} {v' : Value} {g : Nat → Nat} (h3 : SC w3 p cb n ev g) (hg : g = cn (l ++ [x])) (np : ev.ownBlock ≠ some p) (nc : ev.ownBlock ≠ some cb)
    (o5 : w5.ownsRow 0 33 4 v' (l.length + 1) (fl l ++ x.v)) (K5 : Kept ev.ownBlock.toList w3 w5) (b5 : ∀ b, v'.ownBlock = some b → ev.ownBlock = some b ∨ w3.heap.size ≤ b) :
    LA (w5.setCell ⟨p, 1, none⟩ v') p cb n v' (l ++ [x]) ∧ Kept (foot p cb ev) w3 (w5.setCell ⟨p, 1, none⟩ v') ∧ ∀ b, b ∈ foot p cb v' → b ∈ foot p cb ev ∨ w3.heap.size ≤ b := by
  subst hg
  have k2 : Kept [p] w5 (w5.setCell ⟨p, 1, none⟩ v') := (Kept.refl [p] w5).setCell (fun _ => by simp) _
  have hlp := h3.row.lt
  have hlc := h3.tab.lt
  have n1 : p ∉ ev.ownBlock.toList := fun hp => np (by simpa using hp)
  have n2 : cb ∉ ev.ownBlock.toList := fun hp => nc (by simpa using hp)
  have m1 : v'.ownBlock ≠ some p := fun e => by
    rcases b5 p e with e1 | e1
    · exact np e1
    · omega
  have m2 : v'.ownBlock ≠ some cb := fun e => by
    rcases b5 cb e with e1 | e1
    · exact nc e1
    · omega
  refine ⟨⟨⟨?_, ?_, h3.ne⟩, ?_, m1, m2⟩, ?_, fun b hb => ?_⟩
  · refine ((K5.row h3.row n1).set 1 v').congr fun j hj => ?_
    match j, hj with
    | 0, _ => rfl
    | 1, _ => rfl
  · exact k2.row (K5.row h3.tab n2) (by simpa using fun e => h3.ne e.symm)
  · rw [List.length_append, fl_append, fl_one]
    exact own_keptF o5 k2 (fun b e => by simp; intro e2; rw [e2] at e; exact m1 e)
  · exact (K5.mono (M := foot p cb ev) (fun x hx _ => mem_foot.2 (.inr (.inr (by simpa using hx))))).setCell (p := ⟨p, 1, none⟩) (fun _ => mem_foot.2 (.inl rfl)) _
  · rcases mem_foot.1 hb with e | e | e
    · exact .inl (mem_foot.2 (.inl e))
    · exact .inl (mem_foot.2 (.inr (.inl e)))
    · exact (b5 b e).imp (fun h => mem_foot.2 (.inr (.inr h))) id
theorem has_yes {g : Nat → Nat} (h : SC w p cb n ev g) {a : Nat} (ha : a < n) : Calls Try.prog 15 #[.pointer (some ⟨p, 0, none⟩), .int .i64 a] w fun e w' => e = .returned (.bool true) ∧ w' = w := by
  have := has_any h a
  rw [show inB n a = true from decide_eq_true (by omega)] at this
  exact this
set_option maxHeartbeats 2000000 in
theorem add_ok (h : LA w p cb n ev l) (x : Ev) (ha : x.a < n) (hb : x.b < n) (hc : x.c < n) (hl : l.length ≤ 1000000) : Calls Try.prog 9 #[.pointer (some ⟨p, 0, none⟩), .agg #[.int .i64 x.a, .int .i64 x.b, .int .i64 x.c, .bool x.d]] w fun e w' =>
    e = .returned (.int .i64 0) ∧ ∃ ev', LA w' p cb n ev' (l ++ [x]) ∧ Kept (foot p cb ev) w w' ∧ ∀ b, b ∈ foot p cb ev' → b ∈ foot p cb ev ∨ w.heap.size ≤ b := by
  obtain ⟨a, b, c, d⟩ := x
  simp only at ha hb hc ⊢
  have hn0 : 0 < n := by omega
  obtain ⟨e0, e1, e2, e3⟩ := ev_alloc w a b c d
  have K1 := (Kept.refl [] w).alloc (.cells #[.int .i64 a, .int .i64 b, .int .i64 c, .bool d] 33)
  have hwn : w.heap.size ∉ [cb] := by have := h.sc.tab.lt; simp; omega
  have hpn : p ∉ [cb] := by simpa using h.sc.ne
  obtain ⟨i3, I3, Z3, S3, B3⟩ := infoE
  have I := hide I3
  have Z := hide Z3
  have SZ := hide S3
  have B := hide B3
  have HL := hide h
  have H := hide (h.kept0 K1)
  have HA := hide ha
  have HB := hide hb
  have HC := hide hc
  have KK := hide K1
  have HW := hide hwn
  have HP := hide hpn
  have HLL := hide hl
  obtain ⟨ao, cap, hev⟩ := own_shapeS h.own
  have EV := hide hev
  have GB := hide (show ∀ i, cn l i < 4611686018427387904 from fun i => by have := cn_le l i; omega)
  have GB2 := hide (show ∀ i, cS a b d (cn l) i < 4611686018427387904 from fun i => by
    have h1 := cn_le l i
    obtain ⟨k, q, hi, hq⟩ : ∃ k q, i = k * 6 + q ∧ q < 6 := ⟨i / 6, i % 6, by omega, by omega⟩
    have h2 := cS_at a b c d (cn l) k q hq
    rw [← hi] at h2
    rw [h2]
    split
    · split <;> omega
    · omega)
  clear I3 Z3 S3 B3 h ha hb hc K1 hwn hpn hl hev
  go_enter Try.func9, Try.ntmps9
  go_wp2_with fail
  generalize hw1 : w.alloc (.cells #[.int .i64 a, .int .i64 b, .int .i64 c, .bool d] 33) = w1 at *
  refine (made_ok H.out.sc hn0).mono ?_
  rintro e w' ⟨rfl, hw⟩
  subst w'
  go_wp2_with (go_at_call 15; refine (has_yes H.out.sc (by first | exact HA.out | exact HB.out | exact HC.out)).mono ?_; rintro e w' ⟨rfl, hw⟩; subst w')
  refine (search_ok H.out.sc HA.out HB.out GB.out c d).mono ?_
  rintro e w2 ⟨rfl, hs, hk⟩
  have H2 := hide hs
  have K2 := hide hk
  have e0' := hk.cell e0 HW.out
  have e1' := hk.cell e1 HW.out
  have e2' := hk.cell e2 HW.out
  have e3' := hk.cell e3 HW.out
  clear hs hk e0 e1 e2 e3
  go_wp2_with fail
  refine (owner_ok H2.out HA.out GB2.out b d).mono ?_
  rintro e w3 ⟨rfl, hs, hk⟩
  have H3 := hide hs
  have K3 := hide (K2.out.trans hk (fun x hx _ => hx))
  have e0 := hk.cell e0' HW.out
  have e1 := hk.cell e1' HW.out
  have e2 := hk.cell e2' HW.out
  have e3 := hk.cell e3' HW.out
  have f1 := hs.f1
  have hfz := fun i => hs.row.frozen i
  clear hs hk e0' e1' e2' e3' H2 K2
  have O := hide (own_keptF H.out.own K3.out (fun b e => by simp; intro hcb; rw [hcb] at e; exact H.out.nc e))
  rw [EV.out] at O f1
  have NP := hide (show p ∉ (Value.slice ao l.length cap).ownBlock.toList from fun hp => H.out.np (by rw [EV.out]; simpa using hp))
  have hca : ∀ o, (w3.alloc o).cell? ⟨p, 1, none⟩ = some (.slice ao l.length cap) := fun o => ((Kept.refl [] w3).alloc o).cell f1 (by simp)
  go_wp2_with fail
  go_region_law (first
    | (refine step_append_own (by rfl) _ _ _ (by rfl) 0 33 i3 (.agg #[.int .i64 0, .int .i64 0, .int .i64 0, .bool false]) 4 32 Try.underlying34 I.out Z.out SZ.out B.out rfl (by decide) (.slice ao l.length cap) l.length (fl l) (by rfl) (by first | exact own_kept O.out ((Kept.refl [] w3).drew.alloc _) (by simp) | exact own_kept O.out ((Kept.refl [] w3).alloc _).drew (by simp)) ⟨w3.heap.size, 0, none⟩ 1 1 [.int .i64 a, .int .i64 b, .int .i64 c, .bool d] (by rfl) rfl (fun j u hj => news_four (w := w3) j u hj) (one_v ⟨a, b, c, d⟩) (by have := HLL.out; unfold maxLen; omega) (by have := HLL.out; omega) (Nat.zero_le _) ?_; intro v1 w5 o5 g5 b5 n5; have K5 := grown_kept (v := .slice ao l.length cap) rfl (by first | exact (Kept.refl [] w3).drew.alloc _ | exact ((Kept.refl [] w3).alloc _).drew) g5; have s1 : w5.cell? ⟨p, 1, none⟩ = some (.slice ao l.length cap) := K5.cell f1 NP.out; have s2 : w5.frozen? ⟨p, 1, none⟩ = false := (K5.row H3.out.row NP.out).frozen _; obtain ⟨a1, c1, hv1⟩ := own_shapeS o5; subst hv1))
  all_goals
    go_wp2
    go_ret
    obtain ⟨r1, r2, r3⟩ := LA.push (x := ⟨a, b, c, d⟩) H3.out (step_cn l ⟨a, b, c, d⟩) H.out.np H.out.nc o5 (by rw [EV.out]; exact K5) (fun b hb => by
      rcases b5 with e | e
      · exact .inl (by rw [EV.out, ← e]; exact hb)
      · rw [e] at hb
        cases hb
        exact .inr (by simp))
    have hsz := Nat.le_trans KK.out.size K3.out.size
    refine ⟨rfl, _, r1, ?_, fun b hb => (r3 b hb).imp id (fun h => Nat.le_trans hsz h)⟩
    have k1 : Kept (foot p cb ev) w w3 := (KK.out.mono (M := foot p cb ev) (fun x hx _ => by cases hx)).trans K3.out (fun x hx _ => by
      simp at hx
      exact mem_foot.2 (.inr (.inl hx)))
    exact k1.trans r2 (fun x hx _ => hx)
end
end Go.Proofs.Ytbejafjpdplofaa.St
