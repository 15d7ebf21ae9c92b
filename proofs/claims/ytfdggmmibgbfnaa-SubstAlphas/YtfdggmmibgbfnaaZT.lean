/- The empty tree. -/
import Derived.Test.YtfdggmmibgbfnaaT1
namespace Go.Proofs.Ytfdggmmibgbfnaa
def zeroT : Tr := .node 0 0 []
end Go.Proofs.Ytfdggmmibgbfnaa
