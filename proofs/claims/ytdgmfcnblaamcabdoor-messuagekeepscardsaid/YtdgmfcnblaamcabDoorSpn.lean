
/-
  No statement of the program: package span, over this seat's translation. 'SA w p tb c sz n u': at p lies a span of class c, whose n objects have sz bytes each; its row of yes and no (at tb) is u.
-/
import Derived.Test.YtdgmfcnblaamcabDoorCls
namespace Go.Proofs.YtdgmfcnblaamcabDoor.Sp
open Go.ChangeShapes Go.WideShapes Go.ChangeAt Go.RowKit Cl

structure SA (w : World) (p tb : Nat) (c sz : Int) (n : Nat) (u : Nat → Bool) : Prop where
  row : w.rowIs p 88 3 (fun i => if i = 0 then .int .i64 c else if i = 1 then .int .i64 sz else .slice (some ⟨tb, 0, none⟩) n n)
  tab : w.rowIs tb 4 n (fun i => .bool (u i))
  ne : p ≠ tb
section
variable {w : World} {p tb : Nat} {c sz : Int} {n : Nat} {u : Nat → Bool}
theorem SA.kept {w' : World} {F : List Nat} (h : SA w p tb c sz n u) (k : Kept F w w') (h1 : p ∉ F) (h2 : tb ∉ F) : SA w' p tb c sz n u := ⟨k.row h.row h1, k.row h.tab h2, h.ne⟩
theorem SA.kept0 {w' : World} (h : SA w p tb c sz n u) (k : Kept [] w w') : SA w' p tb c sz n u := h.kept k (by simp) (by simp)
theorem SA.f0 (h : SA w p tb c sz n u) : w.cell? ⟨p, 0, none⟩ = some (.int .i64 c) := h.row.cell (i := 0) (by omega)
theorem SA.f1 (h : SA w p tb c sz n u) : w.cell? ⟨p, 1, none⟩ = some (.int .i64 sz) := h.row.cell (i := 1) (by omega)
theorem SA.f2 (h : SA w p tb c sz n u) : w.cell? ⟨p, 2, none⟩ = some (.slice (some ⟨tb, 0, none⟩) n n) := h.row.cell (i := 2) (by omega)
theorem SA.at (h : SA w p tb c sz n u) {i : Nat} (hi : i < n) : w.cell? ⟨tb, i, none⟩ = some (.bool (u i)) := h.tab.cell (i := i) hi
def up (u : Nat → Bool) (i : Nat) (b : Bool) : Nat → Bool := fun j => if j = i then b else u j
theorem SA.put (h : SA w p tb c sz n u) {i : Nat} (_hi : i < n) (b : Bool) : SA (w.setCell ⟨tb, i, none⟩ (.bool b)) p tb c sz n (up u i b) ∧ Kept [tb] w (w.setCell ⟨tb, i, none⟩ (.bool b)) := by
  have k : Kept [tb] w (w.setCell ⟨tb, i, none⟩ (.bool b)) := (Kept.refl [tb] w).setCell (fun _ => by simp) _
  refine ⟨⟨k.row h.row (by simpa using h.ne), ?_, h.ne⟩, k⟩
  have := h.tab.set i (.bool b)
  refine World.rowIs.congr this fun j hj => ?_
  unfold up
  by_cases e : j = i <;> simp [e]

theorem made_nil (w : World) : Calls Tryd.prog 55 #[.pointer none] w fun e w' => e = .returned (.bool false) ∧ w' = w := by
  go_enter Tryd.func55, Tryd.ntmps55
  go_wp2
  go_ret
  exact ⟨rfl, rfl⟩
theorem made_ok (h : SA w p tb c sz n u) (hn : 0 < n) : Calls Tryd.prog 55 #[.pointer (some ⟨p, 0, none⟩)] w fun e w' => e = .returned (.bool true) ∧ w' = w := by
  have f2 := h.f2
  clear h
  go_enter Tryd.func55, Tryd.ntmps55
  go_wp2
  go_ret
  exact ⟨rfl, rfl⟩

/-- The first that is free. -/
def Fst (n : Nat) (u : Nat → Bool) (r : Int) : Prop := (r = -1 ∧ ∀ j, j < n → u j = true) ∨ ∃ i : Nat, r = i ∧ i < n ∧ u i = false ∧ ∀ j, j < i → u j = true
set_option maxHeartbeats 1000000 in
theorem index_any (h : w.rowIs tb 4 n (fun i => .bool (u i))) (hn : n ≤ 8) : Calls Tryd.prog 56 #[.slice (some ⟨tb, 0, none⟩) n n, .bool false] w fun e w' => ∃ r, Fst n u r ∧ e = .returned (.int .i64 r) ∧ w' = w := by
  have H := hide h
  clear h
  go_enter Tryd.func56, Tryd.ntmps56
  go_wp2
  go_loop [8] (fun v => ∃ k : Nat, k ≤ n ∧ v = .int .i64 k ∧ ∀ j, j < k → u j = true) (fun v => n - (intOf v).toNat)
  case atStart => exact ⟨0, Nat.zero_le _, rfl, fun j hj => by omega⟩
  case round =>
    obtain ⟨k, hk, rfl, hall⟩ := hrel
    have HA := hide hall
    clear hall
    by_cases hkn : k < n
    · have hc : w.cell? ⟨tb, k, none⟩ = some (.bool (u k)) := H.out.cell (i := k) hkn
      cases hu : u k with
      | true =>
        rw [hu] at hc
        have HU := hide hu
        clear hu
        go_wp2
        go_round
        case rel => exact ⟨k + 1, hkn, by go_num, fun j hj => by
          by_cases e : j = k
          · rw [e]; exact HU.out
          · exact HA.out j (by omega)⟩
        case measure => simp [intOf]; omega
      | false =>
        rw [hu] at hc
        have HU := hide hu
        clear hu
        go_wp2
        go_ret
        exact ⟨_, .inr ⟨k, rfl, hkn, HU.out, HA.out⟩, rfl, rfl⟩
    · go_wp2
      go_ret
      exact ⟨_, .inl ⟨rfl, fun j hj => HA.out j (by omega)⟩, rfl, rfl⟩
end
end Go.Proofs.YtdgmfcnblaamcabDoor.Sp
