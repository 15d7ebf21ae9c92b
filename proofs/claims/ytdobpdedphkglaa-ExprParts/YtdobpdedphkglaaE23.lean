/- Decode of package expr, and the document's, walked. -/
import Derived.Test.YtdobpdedphkglaaE22
namespace Go.Proofs.Ytdobpdedphkglaa
open Go.RowKit
end Go.Proofs.Ytdobpdedphkglaa
