/- The empty tree. -/
import Derived.Test.YtkncchhalahpoaaT1
namespace Go.Proofs.Ytkncchhalahpoaa
def zeroT : Tr := .node 0 0 []
end Go.Proofs.Ytkncchhalahpoaa
