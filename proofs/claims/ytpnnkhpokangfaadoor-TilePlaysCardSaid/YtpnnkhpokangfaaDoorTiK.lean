/- What the program says of a tile: its nine calls. -/
import Derived.Test.YtpnnkhpokangfaaDoorMgT
namespace Go.Proofs.YtpnnkhpokangfaaDoor.Ti
end Go.Proofs.YtpnnkhpokangfaaDoor.Ti
