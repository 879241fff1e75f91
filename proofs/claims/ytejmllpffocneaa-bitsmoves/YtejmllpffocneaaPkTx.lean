/- What pack.Text returns. -/
import Derived.Test.YtejmllpffocneaaPkW1
namespace Go.Proofs.Ytejmllpffocneaa
open Go.RowKit

end Go.Proofs.Ytejmllpffocneaa
