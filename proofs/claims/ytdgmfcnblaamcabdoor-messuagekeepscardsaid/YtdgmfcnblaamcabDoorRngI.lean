
/-
  No statement of the program: the contracts of package ring at numbers, over this seat's translation.
-/
import Derived.Test.YtdgmfcnblaamcabDoorHeap2
import Derived.Test.YtdgmfcnblaamcabDoorRows
import Derived.Conc.LoneSelect
import Derived.Conc.LoneSelectN
import Derived.KernelRfl
import Derived.Laws.Rows
namespace Go.Proofs.YtdgmfcnblaamcabDoor.RI
open Go.Conc Go.RowKit

/-- What lies in a channel, the first one first. -/
def vs (l : List Int) : Array Value := (l.map (fun x => (.int .i64 x : Value))).toArray
theorem vs_size (l : List Int) : (vs l).size = l.length := by simp [vs]
theorem vs_push (l : List Int) (x : Int) : (vs l).push (.int .i64 x) = vs (l ++ [x]) := by simp [vs]
theorem vs_head (l : List Int) (x : Int) : (vs (x :: l)).getD 0 undef = .int .i64 x := by simp [vs]
theorem vs_tail (l : List Int) (x : Int) : (vs (x :: l)).extract 1 (vs (x :: l)).size = vs l := by
  simp [vs]
  rw [List.take_of_length_le (by simp)]
/-- A ring at r, whose channel at c has room for cap, and holds l. -/
structure RG (w : World) (r c cap : Nat) (l : List Int) : Prop where
  q : w.cell? ⟨r, 0, none⟩ = some (.chan (some c))
  ch : ∃ s t, w.heap[c]? = some (.chan cap (vs l) false s t false)
  ne : r ≠ c
theorem RG.kept {L : List Nat} {w w' : World} {r c cap : Nat} {l : List Int} (h : RG w r c cap l) (hk : Kept L w w') (hr : r ∉ L) (hc : c ∉ L) : RG w' r c cap l := by
  obtain ⟨s, t, h2⟩ := h.ch
  exact ⟨hk.cell h.q hr, ⟨s, t, hk.blk h2 hc⟩, h.ne⟩
theorem kept_setChan (w : World) (c cap : Nat) (buf : Array Value) (cl : Bool) (s r : Nat) (tm : Bool) : Kept [c] w (w.setChan c cap buf cl s r tm) :=
  ⟨rfl, rfl, rfl, by simp [World.setChan], fun k hk hn => by
    have : c ≠ k := fun e => hn (by simp [e])
    simp [World.setChan, Array.getElem?_setIfInBounds_ne this]⟩
theorem RG.put {w : World} {r c cap : Nat} {l : List Int} (h : RG w r c cap l) (l' : List Int) (s t : Nat) : RG (w.setChan c cap (vs l') false s t false) r c cap l' := by
  obtain ⟨s0, t0, h2⟩ := h.ch
  refine ⟨(kept_setChan w c cap _ false s t false).cell h.q (by simpa using h.ne), ⟨s, t, heap_setChan w c cap _ false s t false (lt_of_blk h2)⟩, h.ne⟩

set_option maxHeartbeats 400000 in
theorem chan_any {w : World} {r c cap : Nat} {l : List Int} (h : RG w r c cap l) : Calls Tryd.prog 60 #[.pointer (some ⟨r, 0, none⟩)] w fun e w' => e = .returned (.chan (some c)) ∧ w' = w := by
  have hq := h.q
  clear h
  go_enter Tryd.func60, Tryd.ntmps60
  go_wp2
  go_ret
  exact ⟨rfl, rfl⟩
set_option maxHeartbeats 400000 in
theorem len_any {w : World} {r c cap : Nat} {l : List Int} (h : RG w r c cap l) : Calls Tryd.prog 39 #[.pointer (some ⟨r, 0, none⟩)] w fun e w' => e = .returned (.int .i64 l.length) ∧ w' = w := by
  obtain ⟨s, t, hc⟩ := h.ch
  have hlen : ∀ ty, (Builtin.len_ #[92] ty #[.chan (some c)]).run Tryd.prog w = .ok (.int .i64 l.length) w := fun ty => by
    have := run_len_chan (P := Tryd.prog) 92 ty Tryd.underlying92 hc
    rw [vs_size] at this
    exact this
  have hch := chan_any h
  clear h hc
  go_enter Tryd.func39, Tryd.ntmps39
  go_wp2_with (go_at_call 60; refine hch.mono ?_; rintro e w' ⟨rfl, hw⟩; subst w')
  go_ret
  exact ⟨rfl, rfl⟩
theorem chan_bytes : ∃ i, Tryd.prog.info? 3 = some i ∧ i.bytes = 8 := by
  have h : (Tryd.prog.info? 3).map (·.bytes) = some 8 := by kernel_rfl
  obtain ⟨i, hi, hb⟩ := Option.map_eq_some_iff.1 h
  exact ⟨i, hi, hb⟩
/-- What New tells: a ring of the call's own. -/
def NewIs (w w' : World) (v : Value) (n : Nat) : Prop := ∃ r c, v = .pointer (some ⟨r, 0, none⟩) ∧ RG w' r c n [] ∧ w.heap.size ≤ r ∧ w.heap.size ≤ c ∧ Kept [] w w'
set_option maxHeartbeats 400000 in
theorem new_ok (n : Nat) (h1 : 1 ≤ n) (h2 : n ≤ 64) (w : World) : Calls Tryd.prog 25 #[.int .i64 n] w fun e w' => ∃ v, e = .returned (.tuple #[v, .int .i64 0]) ∧ NewIs w w' v n := by
  obtain ⟨i, hi, hb⟩ := chan_bytes
  have hmc : ∀ W, (Instr.makeChan 92 (.int .i64 n)).run Tryd.prog W = .ok (.chan (some W.heap.size)) (W.alloc (.chan n #[] false 0 0 false)) := fun W =>
    run_makeChan (P := Tryd.prog) (w := W) Tryd.underlying92 hi .i64 n (by omega) (by rw [hb]; omega)
  have g1 : ¬ (n : Int) < 1 := by omega
  have g2 : ¬ (n : Int) > 64 := by omega
  clear hi hb
  go_enter Tryd.func25, Tryd.ntmps25
  go_wp2
  go_ret2
  have k1 := (Kept.refl [] w).alloc (.chan n #[] false 0 0 false)
  have k2 := (Kept.refl [] (w.alloc (.chan n #[] false 0 0 false))).alloc (.cells #[.chan (some w.heap.size)] 94)
  refine ⟨_, rfl, w.heap.size + 1, w.heap.size, rfl, ⟨by simp, ⟨0, 0, k2.blk (o := .chan n #[] false 0 0 false) (heap_alloc_new w _) (by simp)⟩, by omega⟩, by omega, Nat.le_refl _, k1.next k2⟩

set_option maxRecDepth 100000 in
set_option maxHeartbeats 1000000 in
theorem put_room {w : World} {r c cap : Nat} {l : List Int} (h : RG w r c cap l) (hl : l.length < cap) (x : Int) :
    Calls Tryd.prog 32 #[.pointer (some ⟨r, 0, none⟩), .int .i64 x] w fun e w' => e = .returned (.bool true) ∧ RG w' r c cap (l ++ [x]) ∧ Kept [c] w w' := by
  obtain ⟨s, t, hc⟩ := h.ch
  have hq := h.q
  refine calls_of_loneTo fun cs => ?_
  have e : Frame.enter Tryd.prog 32 #[.pointer (some ⟨r, 0, none⟩), .int .i64 x] .normal = (base 32).at ⟨#[.pointer (some ⟨r, 0, none⟩), .int .i64 x, undef, undef, undef, undef, undef, undef, undef, undef, undef], []⟩ [.code (Tryd.f32.body.getD .skip)] := by
    simp [Frame.enter, Frame.at, Tryd.func32, base, Tryd.f32]
  rw [e]
  refine LoneTo.goes (n := 80) ?_
  simp only [Tryd.f32, Option.getD_some]
  s_c stepG_seq
  s_reg
  s_op
  s_c stepG_region_end
  s_c stepG_seq
  s_c stepG_seq
  s_reg
  s_op
  s_call Tryd.func60 (by kernel_rfl) Tryd.f60
  s_c stepG_seq
  s_reg
  s_op
  s_c stepG_region_end
  s_c stepG_seq
  s_c stepG_seq
  s_reg
  s_op
  s_op
  s_c stepG_region_end
  s_cond false
  s_c stepG_skip
  s_c stepG_seq
  s_reg
  s_op
  s_op
  s_op
  s_op
  s_op
  s_c stepG_region_end
  s_c stepG_ret'
  s_leave1 Tryd.func60
  s_c stepG_region_end
  s_reg
  s_op
  s_c stepG_region_end
  s_c stepG_seq
  s_reg
  s_stop
  refine LoneTo.step (step_lone_select_send_room (c := c) (cap := cap) (buf := vs l) (s := s) (r := t) (tm := false) (stepG_comm (cases := #[scase c (.int .i64 x) (.int .i64 0)]) (blocking := false) (shape := .select) (w' := w) rfl rfl (by decide) (by simp [go_sem, execOp, scase, Act.eval])) hc (by rw [vs_size]; exact hl)) ?_
  rw [Frame.finish_at]
  walk_nrm
  refine LoneTo.goes (n := 30) ?_
  s_op
  s_op
  s_c stepG_region_end
  s_c stepG_block
  s_cond true
  s_c stepG_seq
  s_reg
  s_op
  s_c stepG_region_end
  s_c stepG_ret'
  s_stop
  refine LoneTo.done ⟨.returned (.bool true), _, rfl, ⟨rfl, ?_, kept_setChan _ _ _ _ _ _ _ _⟩, rfl, rfl, rfl, rfl, _, Tryd.func32, by simp [results, Tryd.f32, Frame.at]⟩
  rw [vs_push]
  exact h.put _ _ _
set_option maxRecDepth 100000 in
set_option maxHeartbeats 1000000 in
theorem put_full {w : World} {r c cap : Nat} {l : List Int} (h : RG w r c cap l) (hl : cap ≤ l.length) (x : Int) :
    Calls Tryd.prog 32 #[.pointer (some ⟨r, 0, none⟩), .int .i64 x] w fun e w' => e = .returned (.bool false) ∧ w' = w := by
  obtain ⟨s, t, hc⟩ := h.ch
  have hq := h.q
  refine calls_of_loneTo fun cs => ?_
  have e : Frame.enter Tryd.prog 32 #[.pointer (some ⟨r, 0, none⟩), .int .i64 x] .normal = (base 32).at ⟨#[.pointer (some ⟨r, 0, none⟩), .int .i64 x, undef, undef, undef, undef, undef, undef, undef, undef, undef], []⟩ [.code (Tryd.f32.body.getD .skip)] := by
    simp [Frame.enter, Frame.at, Tryd.func32, base, Tryd.f32]
  rw [e]
  refine LoneTo.goes (n := 80) ?_
  simp only [Tryd.f32, Option.getD_some]
  s_c stepG_seq
  s_reg
  s_op
  s_c stepG_region_end
  s_c stepG_seq
  s_c stepG_seq
  s_reg
  s_op
  s_call Tryd.func60 (by kernel_rfl) Tryd.f60
  s_c stepG_seq
  s_reg
  s_op
  s_c stepG_region_end
  s_c stepG_seq
  s_c stepG_seq
  s_reg
  s_op
  s_op
  s_c stepG_region_end
  s_cond false
  s_c stepG_skip
  s_c stepG_seq
  s_reg
  s_op
  s_op
  s_op
  s_op
  s_op
  s_c stepG_region_end
  s_c stepG_ret'
  s_leave1 Tryd.func60
  s_c stepG_region_end
  s_reg
  s_op
  s_c stepG_region_end
  s_c stepG_seq
  s_reg
  s_stop
  refine LoneTo.step (step_lone_select_send_full (c := c) (cap := cap) (buf := vs l) (s := s) (r := t) (tm := false) (stepG_comm (cases := #[scase c (.int .i64 x) (.int .i64 0)]) (blocking := false) (shape := .select) (w' := w) rfl rfl (by decide) (by simp [go_sem, execOp, scase, Act.eval])) hc (by rw [vs_size]; exact hl)) ?_
  rw [Frame.finish_at]
  walk_nrm
  refine LoneTo.goes (n := 30) ?_
  s_op
  s_op
  s_c stepG_region_end
  s_c stepG_block
  s_cond false
  s_c stepG_seq
  s_reg
  s_op
  s_c stepG_region_end
  s_c stepG_ret'
  s_stop
  exact LoneTo.done ⟨.returned (.bool false), _, rfl, ⟨rfl, rfl⟩, rfl, rfl, rfl, rfl, _, Tryd.func32, by simp [results, Tryd.f32, Frame.at]⟩
set_option maxRecDepth 100000 in
set_option maxHeartbeats 1000000 in
theorem take_some {w : World} {r c cap : Nat} {l : List Int} {x : Int} (h : RG w r c cap (x :: l)) :
    Calls Tryd.prog 36 #[.pointer (some ⟨r, 0, none⟩)] w fun e w' => e = .returned (.tuple #[.int .i64 x, .bool true]) ∧ RG w' r c cap l ∧ Kept [c] w w' := by
  obtain ⟨s, t, hc⟩ := h.ch
  have hq := h.q
  refine calls_of_loneTo fun cs => ?_
  have e : Frame.enter Tryd.prog 36 #[.pointer (some ⟨r, 0, none⟩)] .normal = (base 36).at ⟨#[.pointer (some ⟨r, 0, none⟩), undef, undef, undef, undef, undef, undef, undef, undef, undef, undef, undef, undef, undef], []⟩ [.code (Tryd.f36.body.getD .skip)] := by
    simp [Frame.enter, Frame.at, Tryd.func36, base, Tryd.f36]
  rw [e]
  refine LoneTo.goes (n := 80) ?_
  simp only [Tryd.f36, Option.getD_some]
  s_c stepG_seq
  s_reg
  s_op
  s_op
  s_c stepG_region_end
  s_c stepG_seq
  s_reg
  s_op
  s_call Tryd.func60 (by kernel_rfl) Tryd.f60
  s_c stepG_seq
  s_reg
  s_op
  s_c stepG_region_end
  s_c stepG_seq
  s_c stepG_seq
  s_reg
  s_op
  s_op
  s_c stepG_region_end
  s_cond false
  s_c stepG_skip
  s_c stepG_seq
  s_reg
  s_op
  s_op
  s_op
  s_op
  s_op
  s_c stepG_region_end
  s_c stepG_ret'
  s_leave1 Tryd.func60
  s_c stepG_region_end
  s_c stepG_seq
  s_reg
  s_stop
  refine LoneTo.step (step_lone_select_recv_buf (c := c) (z := (.int .i64 0)) (cap := cap) (buf := vs (x :: l)) (closed := false) (s := s) (r := t) (tm := false) (stepG_comm (cases := #[rcase c (.int .i64 0)]) (blocking := false) (shape := .select) (w' := w) rfl rfl (by decide) (by simp [go_sem, execOp, rcase, Act.eval])) hc (by rw [vs_size]; simp)) ?_
  rw [Frame.finish_at, vs_head, vs_tail]
  walk_nrm
  refine LoneTo.goes (n := 30) ?_
  s_op
  s_op
  s_c stepG_region_end
  s_c stepG_block
  s_cond true
  s_c stepG_seq
  s_reg
  s_op
  s_op
  s_c stepG_region_end
  s_c stepG_seq
  s_reg
  s_op
  s_op
  s_op
  s_c stepG_region_end
  s_c stepG_ret'
  s_stop
  exact LoneTo.done ⟨.returned (.tuple #[.int .i64 x, .bool true]), _, rfl, ⟨rfl, h.put _ _ _, kept_setChan _ _ _ _ _ _ _ _⟩, rfl, rfl, rfl, rfl, _, Tryd.func36, by simp [results, Tryd.f36, Frame.at]⟩
set_option maxRecDepth 100000 in
set_option maxHeartbeats 1000000 in
theorem take_none {w : World} {r c cap : Nat} (h : RG w r c cap []) :
    Calls Tryd.prog 36 #[.pointer (some ⟨r, 0, none⟩)] w fun e w' => e = .returned (.tuple #[(.int .i64 0), .bool false]) ∧ w' = w := by
  obtain ⟨s, t, hc⟩ := h.ch
  have hq := h.q
  have hc0 : w.heap[c]? = some (.chan cap #[] false s t false) := hc
  refine calls_of_loneTo fun cs => ?_
  have e : Frame.enter Tryd.prog 36 #[.pointer (some ⟨r, 0, none⟩)] .normal = (base 36).at ⟨#[.pointer (some ⟨r, 0, none⟩), undef, undef, undef, undef, undef, undef, undef, undef, undef, undef, undef, undef, undef], []⟩ [.code (Tryd.f36.body.getD .skip)] := by
    simp [Frame.enter, Frame.at, Tryd.func36, base, Tryd.f36]
  rw [e]
  refine LoneTo.goes (n := 80) ?_
  simp only [Tryd.f36, Option.getD_some]
  s_c stepG_seq
  s_reg
  s_op
  s_op
  s_c stepG_region_end
  s_c stepG_seq
  s_reg
  s_op
  s_call Tryd.func60 (by kernel_rfl) Tryd.f60
  s_c stepG_seq
  s_reg
  s_op
  s_c stepG_region_end
  s_c stepG_seq
  s_c stepG_seq
  s_reg
  s_op
  s_op
  s_c stepG_region_end
  s_cond false
  s_c stepG_skip
  s_c stepG_seq
  s_reg
  s_op
  s_op
  s_op
  s_op
  s_op
  s_c stepG_region_end
  s_c stepG_ret'
  s_leave1 Tryd.func60
  s_c stepG_region_end
  s_c stepG_seq
  s_reg
  s_stop
  refine LoneTo.step (step_lone_select_default (c := c) (z := (.int .i64 0)) (cap := cap) (s := s) (r := t) (tm := false) (stepG_comm (cases := #[rcase c (.int .i64 0)]) (blocking := false) (shape := .select) (w' := w) rfl rfl (by decide) (by simp [go_sem, execOp, rcase, Act.eval])) hc0) ?_
  rw [Frame.finish_at]
  walk_nrm
  refine LoneTo.goes (n := 30) ?_
  s_op
  s_op
  s_c stepG_region_end
  s_c stepG_block
  s_cond false
  s_c stepG_seq
  s_reg
  s_op
  s_c stepG_region_end
  s_c stepG_seq
  s_reg
  s_op
  s_op
  s_op
  s_c stepG_region_end
  s_c stepG_ret'
  s_stop
  exact LoneTo.done ⟨.returned (.tuple #[(.int .i64 0), .bool false]), _, rfl, ⟨rfl, rfl⟩, rfl, rfl, rfl, rfl, _, Tryd.func36, by simp [results, Tryd.f36, Frame.at]⟩

/-- The ring's own values, as a list that the call makes. -/
def Got (w : World) (base : Nat) (v : Value) (l : List Int) : Prop := w.ownsRow base 3 1 v l.length (l.map (fun x => (.int .i64 x : Value)))
theorem info_e : (Tryd.prog.info? 3).map (fun i => (i.zero, i.size, i.bytes)) = some (some ((.int .i64 0)), 1, 8) := by kernel_rfl
set_option maxRecDepth 100000 in
set_option maxHeartbeats 1000000 in
theorem all_any {w : World} {r c cap : Nat} {l : List Int} (h : RG w r c cap l) (hl : l.length ≤ 64) :
    Calls Tryd.prog 34 #[.pointer (some ⟨r, 0, none⟩)] w fun e w' => ∃ v, e = .returned v ∧ Got w' w.heap.size v l ∧ RG w' r c cap [] ∧ Kept [c] w w' := by
  obtain ⟨i0, hi0⟩ := Option.map_eq_some_iff.1 info_e
  obtain ⟨hi, hz⟩ := hi0
  simp only [Prod.mk.injEq] at hz
  obtain ⟨hz0, hz1, hz2⟩ := hz
  have hln := len_any h
  have HR := hide h
  have hrl : r < w.heap.size := World.block_lt_of_cell? w _ h.q
  have hcl : c < w.heap.size := by obtain ⟨_, _, h2⟩ := h.ch; exact lt_of_blk h2
  clear h
  go_enter Tryd.func34, Tryd.ntmps34
  go_wp2_with (go_at_call 39; refine hln.mono ?_; rintro e w' ⟨rfl, hw⟩; subst w')
  go_loopw [3, 8] (fun v i wr => ∃ k : Nat, k ≤ l.length ∧ i = .int .i64 k ∧ Got wr w.heap.size v (l.take k) ∧ RG wr r c cap (l.drop k) ∧ Kept [c] w wr) (fun _ i _ => l.length - (intOf i).toNat)
  case atStart => exact ⟨0, by omega, rfl, World.ownsRow_nil _ _ _ _, HR.out, Kept.refl _ _⟩
  case round =>
    obtain ⟨k, hk, rfl, hown, hRG, hKk⟩ := hrel
    have K := hide hKk
    have hsz := hKk.size
    by_cases hkl : k < l.length
    · have hki : (k : Int) < (l.length : Int) := by omega
      obtain ⟨x, hx⟩ : ∃ x, x = l[k] := ⟨_, rfl⟩
      have hd : l.drop k = x :: l.drop (k + 1) := by rw [hx]; exact List.drop_eq_getElem_cons hkl
      have ht : l.take (k + 1) = l.take k ++ [x] := by rw [hx, List.take_add_one, List.getElem?_eq_getElem hkl]; rfl
      rw [hd] at hRG
      have htk := take_some hRG
      have HT := hide ht
      have hlt : (l.take k).length = k := by simp; omega
      have HO := hide hown
      clear hx hd ht hRG hown
      go_wp2_with fail
      refine htk.mono ?_
      rintro e w2 ⟨rfl, hR2, hK2⟩
      have hown2 : Got w2 w.heap.size _ (l.take k) := own_kept HO.out hK2 (fun x hx => by simp at hx; omega)
      unfold Got at hown2
      have hsz2 := hK2.size
      have HR2 := hide hR2
      have K2 := hide hK2
      clear hR2 hK2 htk HO
      go_wp2_with (at_builtin; refine wpList_append_own _ rfl _ _ 54 rfl w.heap.size 3 i0 (.int .i64 0) 1 8 Tryd.underlying54 hi hz0 hz1 hz2 rfl (by decide) _ _ _ rfl (World.ownsRow.alloc hown2 _) ⟨w2.heap.size, 0, none⟩ 1 1 [.int .i64 x] rfl rfl news_one (by intro u hu; simp at hu; subst hu; rfl) (by unfold maxLen; omega) (by omega) (by simp; omega) ?_)
      intro v' w3 hown' hgrow _
      have hO : Got w3 w.heap.size v' (l.take (k + 1)) := by
        unfold Got; rw [HT.out, List.map_append, List.length_append, hlt, List.map_take]; exact hown'
      have hG : Kept u3.ownBlock.toList (w2.alloc (.cells #[.int .i64 x] 3)) w3 := Kept.of_grownBy hgrow (fun k hk _ => by simpa using hk)
      have hgb : ∀ x, x ∈ u3.ownBlock.toList → w.heap.size ≤ x := fun x hx => (World.ownsRow.lt hown2 x (by simpa using hx)).1
      have hR3 : RG w3 r c cap (l.drop (k + 1)) := (HR2.out.kept ((Kept.refl [] w2).alloc _) (by simp) (by simp)).kept hG (fun hm => by have := hgb r hm; omega) (fun hm => by have := hgb c hm; omega)
      have hK3 : Kept [c] w w3 := (((K.out.trans K2.out (fun x hx _ => hx)).alloc _)).trans hG (fun x hx hl => absurd (hgb x hx) (by omega))
      have R := hide (And.intro hO (And.intro hR3 hK3))
      clear hown' hgrow hown2 hO hK3 hG hgb hR3
      go_wp2
      go_roundw
      case rel => exact ⟨k + 1, by omega, by go_num, R.out⟩
      case measure => simp [intOf]; omega
    · have e : k = l.length := by omega
      have R := hide (And.intro hown (And.intro hRG hKk))
      clear hown hRG hKk
      subst e
      go_wp2
      go_ret
      refine ⟨_, rfl, ?_, ?_, R.out.2.2⟩
      · have := R.out.1; rw [List.take_length] at this; exact this
      · have := R.out.2.1; rw [List.drop_length] at this; exact this
end Go.Proofs.YtdgmfcnblaamcabDoor.RI
