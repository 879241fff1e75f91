/- What strongroomlaw05.first returns: true. -/
import Derived.Test.YtocmgdhgimpfhaaVtB
namespace Go.Proofs.Ytocmgdhgimpfhaa
open Go.RowKit

def k123 : Ky := ⟨1, 2, 3⟩
theorem k123_wf : k123.wf := by unfold Ky.wf k123; decide
theorem kzero_wf : (⟨0, 0, 0⟩ : Ky).wf := by unfold Ky.wf; decide
def fs1 : Va := ⟨[⟨k123, [97], [120]⟩], []⟩
theorem fs1_is : seS Va.new k123 [97] [120] = fs1 := rfl

end Go.Proofs.Ytocmgdhgimpfhaa
