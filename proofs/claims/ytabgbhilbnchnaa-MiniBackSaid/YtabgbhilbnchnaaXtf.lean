/- The operations of a condition, each by its number. -/
import Derived.Test.YtabgbhilbnchnaaMgP
import Derived.Test.YtabgbhilbnchnaaProg
import Derived.KernelRfl
namespace Go.Proofs.Ytabgbhilbnchnaa.Va
open Lex

def tfcalls : List Nat := [4, 9, 14, 15, 16]
def tford : List Nat := [0, 1, 2, 3, 5, 6, 7, 8, 10, 11, 12, 13, 4, 9, 14, 15, 16, 17]
end Go.Proofs.Ytabgbhilbnchnaa.Va
