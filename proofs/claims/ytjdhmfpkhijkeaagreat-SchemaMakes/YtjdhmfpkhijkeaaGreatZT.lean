/- The empty tree. -/
import Derived.Test.YtjdhmfpkhijkeaaGreatT1
namespace Go.Proofs.YtjdhmfpkhijkeaaGreat
def zeroT : Tr := .node 0 0 []
end Go.Proofs.YtjdhmfpkhijkeaaGreat
