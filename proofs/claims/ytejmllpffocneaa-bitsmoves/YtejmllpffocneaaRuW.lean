/- What package runs returns: longOf, Put. Nothing is assumed. -/
import Derived.Test.YtejmllpffocneaaInts
import Derived.Test.YtejmllpffocneaaPkW1
import Derived.Test.YtejmllpffocneaaMemO
import Derived.BigQuiet
namespace Go.Proofs.Ytejmllpffocneaa
open Go.RowKit

theorem rs_step {r : List (Int × Nat)} {L K : List Int} {x : Int} (h : rsO L = r ++ rsO (x :: K)) : rsO L = (r ++ [(x, lgO (x :: K))]) ++ rsO ((x :: K).drop (lgO (x :: K))) := by
  rw [h, rs_cut, List.append_assoc]; rfl
end Go.Proofs.Ytejmllpffocneaa
