import Derived.Test.YtolaojkcofbkhaaGreatObDv
import Derived.Test.YtolaojkcofbkhaaGreatDvR
import Derived.Test.YtolaojkcofbkhaaGreatVrA
namespace Go.Proofs.YtolaojkcofbkhaaGreat
open Go.RowKit
def RDvO (g : Nat) (s : St) : Ob := fun w F => RDev w F g s
def RVtO (g : Nat) (s : Va) : Ob := fun w F => RVt w F g s
theorem RDvO.ok (g : Nat) (s : St) : (RDvO g s).Ok := ⟨fun _ _ _ h hs hk => RDev.keep h hs hk, fun _ _ h => RDev.lt h⟩
theorem RVtO.ok (g : Nat) (s : Va) : (RVtO g s).Ok := ⟨fun _ _ _ h hs hk => RVt.keep h hs hk, fun _ _ h => RVt.lt h⟩
end Go.Proofs.YtolaojkcofbkhaaGreat
