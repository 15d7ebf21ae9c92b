/- The empty tree. -/
import Derived.Test.YtjdhmfpkhijkeaaT1
namespace Go.Proofs.Ytjdhmfpkhijkeaa
def zeroT : Tr := .node 0 0 []
end Go.Proofs.Ytjdhmfpkhijkeaa
