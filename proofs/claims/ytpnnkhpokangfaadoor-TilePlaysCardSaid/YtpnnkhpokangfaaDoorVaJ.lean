/- The order of values, plainly. -/
import Derived.Test.YtpnnkhpokangfaaDoorVaA
namespace Go.Proofs.YtpnnkhpokangfaaDoor.Va
open Go.RowKit Pac

end Go.Proofs.YtpnnkhpokangfaaDoor.Va
