
/-
  No statement of the program: numbers and texts as keys and elements of this seat's maps.
-/
import Derived.Test.YtdgmfcnblaamcabSides
import Derived.Test.YtdgmfcnblaamcabRows
namespace Go.Proofs.Ytdgmfcnblaamcab.Tb
open Go.RowKit
theorem zeroI (w : World) : (zeroValue 3).run Try.prog w = .ok (.int .i64 0) w := by kernel_rfl
def SI : Side Try.prog Int := sideI Try.underlying3 zeroI
end Go.Proofs.Ytdgmfcnblaamcab.Tb
