import Derived.Test.YtolaojkcofbkhaaGreatPgOn
import Derived.Test.YtolaojkcofbkhaaGreatPgDo
namespace Go.Proofs.YtolaojkcofbkhaaGreat
open Go.RowKit
def RV (ge : Nat) (d : St) (gw : Nat) (t : Va) : Ob := (RDvO ge d).and (RVtO gw t)
theorem RV.ok (ge : Nat) (d : St) (gw : Nat) (t : Va) : (RV ge d gw t).Ok := (RDvO.ok ge d).and (RVtO.ok gw t)
theorem Sim.prE {s t : Va} (h : Sim s t) (d : St) (i : Int) (p : Pg) : prE d s i p = prE d t i p := by unfold Go.Proofs.YtolaojkcofbkhaaGreat.prE; rw [h.opE]
theorem Sim.prB {s t : Va} (h : Sim s t) (d : St) (i : Int) (p : Pg) : prB d s i p = prB d t i p := by unfold Go.Proofs.YtolaojkcofbkhaaGreat.prB; rw [h.opB]
theorem Sim.pwE {s t : Va} (h : Sim s t) (d : St) (i : Int) (p : Pg) (n : Nat) : pwE d s i p n = pwE d t i p n := by unfold Go.Proofs.YtolaojkcofbkhaaGreat.pwE; rw [h.seE]
theorem Sim.pwD {s t : Va} (h : Sim s t) (d : St) (i : Int) (p : Pg) (n : Nat) : pwD d s i p n = pwD d t i p n := by unfold Go.Proofs.YtolaojkcofbkhaaGreat.pwD; rw [h.seE, h.seH]
theorem Sim.pwV {s t : Va} (h : Sim s t) (d : St) (i : Int) (p : Pg) (l : List UInt8) : Sim (pwV d s i p l) (pwV d t i p l) := by
 unfold Go.Proofs.YtolaojkcofbkhaaGreat.pwV
 split
 · exact h
 · exact h.seS _ _ _
end Go.Proofs.YtolaojkcofbkhaaGreat
