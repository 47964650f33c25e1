
/-
  No statement of the program: the table of math/bits that the rows list lies in its variable.
-/
import Derived.Test.YtpljldjdemobbaaDoorBud6
import Derived.Test.YtpljldjdemobbaaDoorRows
import Derived.Lib.LaidTab
namespace Go.Proofs.YtpljldjdemobbaaDoor.By
open Go.RowKit
theorem tab_of_laid {W : World} (h : laidMetH Tryd.prog [("math/bits.deBruijn32tab", Rows.laid_math_bits_deBruijn32tab), ("math/bits.deBruijn64tab", Rows.laid_math_bits_deBruijn64tab)] W) : Tab W := by
  have h0 : laidMet Tryd.prog [("math/bits.deBruijn32tab", Rows.laid_math_bits_deBruijn32tab), ("math/bits.deBruijn64tab", Rows.laid_math_bits_deBruijn64tab)] W := h
  obtain ⟨ps, hv, hnd, hr⟩ := h0
  obtain ⟨g, t, cs, fuel, p, q, h1, h2, h3, h4, h5, rfl⟩ := hv
  have h7 : laidMet Tryd.prog [("math/bits.deBruijn64tab", Rows.laid_math_bits_deBruijn64tab)] W :=
    ⟨q, h5, List.Nodup.sublist (List.sublist_append_right _ _) hnd, fun b off hm => hr b off (List.mem_append_right _ hm)⟩
  have h8 : Lib.TabIs Tryd.prog W "math/bits.deBruijn64tab" .u8 (tab64.map Int.ofNat) :=
    Lib.tabIs_of_head (g := 1) (t := 83) (e := 5) (n := 64) (rest := []) (by kernel_rfl) (by kernel_rfl) Tryd.underlying83 Tryd.underlying5 (by kernel_rfl) (by kernel_rfl) h7
  intro j hj
  rw [h8.cell (by kernel_rfl) j (by simpa [tab64] using hj)]
  have : (tab64.map Int.ofNat).getD j 0 = ((tab64.getD j 0 : Nat) : Int) := by
    have hl : j < tab64.length := by simpa [tab64] using hj
    simp [hl]
  rw [this]
end Go.Proofs.YtpljldjdemobbaaDoor.By
