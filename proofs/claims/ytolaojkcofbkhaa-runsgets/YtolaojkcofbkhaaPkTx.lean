/- What pack.Text returns. -/
import Derived.Test.YtolaojkcofbkhaaPkW1
namespace Go.Proofs.Ytolaojkcofbkhaa
open Go.RowKit

end Go.Proofs.Ytolaojkcofbkhaa
