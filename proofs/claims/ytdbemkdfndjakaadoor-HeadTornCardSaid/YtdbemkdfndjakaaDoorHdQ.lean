/- A device that heads have been put on, walked. -/
import Derived.Test.YtdbemkdfndjakaaDoorHdN
import Derived.Test.YtdbemkdfndjakaaDoorLiD
import Derived.Test.YtdbemkdfndjakaaDoorMgX
namespace Go.Proofs.YtdbemkdfndjakaaDoor.Hd
open Go.RowKit Tal Sla Fr Lex
end Go.Proofs.YtdbemkdfndjakaaDoor.Hd
