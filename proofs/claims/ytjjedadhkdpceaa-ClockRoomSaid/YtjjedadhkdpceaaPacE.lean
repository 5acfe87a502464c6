/- The number that bytes begin with, walked. -/
import Derived.Test.YtjjedadhkdpceaaPacC
import Derived.Test.YtjjedadhkdpceaaPacD
import Derived.Deep.RegionWith
import Derived.Deep.RegionHeld3
import Derived.Lib.Strings
namespace Go.Proofs.Ytjjedadhkdpceaa.Pac
open Go.RowKit

def rdB (s : ByteArray) : Int × Nat :=
  match rdN s.data.toList with
  | some (u, r) => (unzig u, s.size - r.length)
  | none => (0, 0)

end Go.Proofs.Ytjjedadhkdpceaa.Pac
