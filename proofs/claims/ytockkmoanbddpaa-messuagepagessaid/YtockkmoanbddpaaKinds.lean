/-
  No statement of the program: numbers and texts as keys and elements of this seat's maps.
-/
import Derived.Test.YtockkmoanbddpaaSides
import Derived.Test.YtockkmoanbddpaaRows
namespace Go.Proofs.Ytockkmoanbddpaa.Tb
open Go.RowKit
theorem zeroI (w : World) : (zeroValue 3).run Try.prog w = .ok (.int .i64 0) w := by kernel_rfl
def SI : Side Try.prog Int := sideI Try.underlying3 zeroI
theorem zeroS (w : World) : (zeroValue 9).run Try.prog w = .ok (.string ByteArray.empty) w := by kernel_rfl
def SS : Side Try.prog ByteArray := sideS Try.underlying9 zeroS
end Go.Proofs.Ytockkmoanbddpaa.Tb
