/- The empty tree. -/
import Derived.Test.YtcjfaajceipenaaGreatT1
namespace Go.Proofs.YtcjfaajceipenaaGreat
def zeroT : Tr := .node 0 0 []
end Go.Proofs.YtcjfaajceipenaaGreat
