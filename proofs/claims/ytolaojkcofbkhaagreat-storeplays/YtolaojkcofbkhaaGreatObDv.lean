import Derived.Test.YtolaojkcofbkhaaGreatOb
import Derived.Test.YtolaojkcofbkhaaGreatDvA
import Derived.Test.YtolaojkcofbkhaaGreatVtB
namespace Go.Proofs.YtolaojkcofbkhaaGreat
open Go.RowKit
def DvO (g : Nat) (s : St) : Ob := fun w F => Dev w F g s
def VtO (g : Nat) (s : Va) : Ob := fun w F => Vlt w F g s
theorem DvO.ok (g : Nat) (s : St) : (DvO g s).Ok := ⟨fun _ _ _ h hs hk => Dev.keep h hs hk, fun _ _ h => Dev.lt h⟩
theorem VtO.ok (g : Nat) (s : Va) : (VtO g s).Ok := ⟨fun _ _ _ h hs hk => Vlt.keep h hs hk, fun _ _ h => Vlt.lt h⟩
end Go.Proofs.YtolaojkcofbkhaaGreat
