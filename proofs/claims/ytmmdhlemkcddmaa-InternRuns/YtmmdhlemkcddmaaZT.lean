/- The empty tree. -/
import Derived.Test.YtmmdhlemkcddmaaT1
namespace Go.Proofs.Ytmmdhlemkcddmaa
def zeroT : Tr := .node 0 0 []
end Go.Proofs.Ytmmdhlemkcddmaa
