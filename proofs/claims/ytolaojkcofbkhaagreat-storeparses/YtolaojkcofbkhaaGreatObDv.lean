/- Devices and vaults, and the document's, as things in memory. -/
import Derived.Test.YtolaojkcofbkhaaGreatOb
import Derived.Test.YtolaojkcofbkhaaGreatDvA
import Derived.Test.YtolaojkcofbkhaaGreatVtB
namespace Go.Proofs.YtolaojkcofbkhaaGreat
open Go.RowKit

def DvO (g : Nat) (s : St) : Ob := fun w F => Dev w F g s
def VtO (g : Nat) (s : Va) : Ob := fun w F => Vlt w F g s
theorem DvO.ok (g : Nat) (s : St) : (DvO g s).Ok := ⟨fun _ _ _ h hs hk => Dev.keep h hs hk, fun _ _ h => Dev.lt h⟩
theorem VtO.ok (g : Nat) (s : Va) : (VtO g s).Ok := ⟨fun _ _ _ h hs hk => Vlt.keep h hs hk, fun _ _ h => Vlt.lt h⟩
theorem Left.o {w w' : World} {F : Nat → Prop} {g : Nat} {s : St} (h : Left w w' F g s) : (DvO g s).Left w w' F := h
theorem VLeft.o {w w' : World} {F : Nat → Prop} {g : Nat} {s : Va} (h : VLeft w w' F g s) : (VtO g s).Left w w' F := h
end Go.Proofs.YtolaojkcofbkhaaGreat
