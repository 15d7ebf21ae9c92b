/- The empty tree. -/
import Derived.Test.YtgnfbhemkombaaaGreatT1
namespace Go.Proofs.YtgnfbhemkombaaaGreat
def zeroT : Tr := .node 0 0 []
end Go.Proofs.YtgnfbhemkombaaaGreat
