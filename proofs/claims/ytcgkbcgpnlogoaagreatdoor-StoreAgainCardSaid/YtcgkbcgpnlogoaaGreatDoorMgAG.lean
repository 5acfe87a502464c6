/- Texts ClW, ClM, one behind the other. -/
import Derived.Test.YtcgkbcgpnlogoaaGreatDoorClV
/- Pages at hand: the program's Right, walked. -/
namespace Go.Proofs.YtcgkbcgpnlogoaaGreatDoor.Cl
open Go.RowKit Pac Lex

section
variable {A : Option Addr} {n cp : Nat} {l : List P} {w : World}
end
end Go.Proofs.YtcgkbcgpnlogoaaGreatDoor.Cl

/- Pages at hand: the program's six functions, in the form that the laws take. -/
namespace Go.Proofs.YtcgkbcgpnlogoaaGreatDoor.Cl
open Go.RowKit Pac Lex

section
variable {A : Option Addr} {n cp m : Nat} {w : World} {c : C}
end
end Go.Proofs.YtcgkbcgpnlogoaaGreatDoor.Cl
