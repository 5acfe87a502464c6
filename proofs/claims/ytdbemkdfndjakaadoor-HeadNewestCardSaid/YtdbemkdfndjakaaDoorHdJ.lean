/- The document's device: Start, walked. -/
import Derived.Test.YtdbemkdfndjakaaDoorHdI
namespace Go.Proofs.YtdbemkdfndjakaaDoor.Hd
open Go.RowKit Go.Shelf Tal Sla
end Go.Proofs.YtdbemkdfndjakaaDoor.Hd
