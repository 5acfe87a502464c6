/- The document's Box's Done, walked. -/
import Derived.Test.YtocmkjccaajnnaaMgP
namespace Go.Proofs.Ytocmkjccaajnnaa.Pac
open Go.RowKit

end Go.Proofs.Ytocmkjccaajnnaa.Pac
