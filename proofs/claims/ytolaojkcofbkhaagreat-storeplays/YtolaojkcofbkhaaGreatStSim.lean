import Derived.Test.YtolaojkcofbkhaaGreatPgPl
import Derived.Test.YtolaojkcofbkhaaGreatStA
namespace Go.Proofs.YtolaojkcofbkhaaGreat
open Go.RowKit
section
variable {s t : Va}
theorem Sim.nxt (h : Sim s t) (c : Ce) : nxt s c = nxt t c := by unfold Go.Proofs.YtolaojkcofbkhaaGreat.nxt; rw [h.len]
theorem Sim.gtE (h : Sim s t) (d : St) (c : Ce) : gtE d s c = gtE d t c := by unfold Go.Proofs.YtolaojkcofbkhaaGreat.gtE; rw [h.prE]
theorem Sim.gtB (h : Sim s t) (d : St) (c : Ce) : gtB d s c = gtB d t c := by unfold Go.Proofs.YtolaojkcofbkhaaGreat.gtB; rw [h.prB]
theorem Sim.ptE (h : Sim s t) (d : St) (c : Ce) (n : Nat) : ptE d s c n = ptE d t c n := by unfold Go.Proofs.YtolaojkcofbkhaaGreat.ptE; rw [h.nxt, h.pwE, h.pwD]
theorem Sim.ptD (h : Sim s t) (d : St) (c : Ce) (n : Nat) : ptD d s c n = ptD d t c n := by unfold Go.Proofs.YtolaojkcofbkhaaGreat.ptD; rw [h.nxt, h.pwE, h.pwD]
theorem Sim.ptC (h : Sim s t) (d : St) (c : Ce) (n : Nat) : ptC d s c n = ptC d t c n := by unfold Go.Proofs.YtolaojkcofbkhaaGreat.ptC; rw [h.nxt, h.ptE]
theorem Sim.ptV (h : Sim s t) (d : St) (c : Ce) (l : List UInt8) : Sim (ptV d s c l) (ptV d t c l) := by unfold Go.Proofs.YtolaojkcofbkhaaGreat.ptV; rw [h.nxt]; exact h.pwV _ _ _ _
theorem Sim.wrs : ∀ (ws : List (Bb × List UInt8)) (d : St) {s t : Va}, Sim s t → (wrs ws d s).1 = (wrs ws d t).1 ∧ (wrs ws d s).2.1 = (wrs ws d t).2.1 ∧ Sim (wrs ws d s).2.2 (wrs ws d t).2.2
 | [], d, s, t, h => ⟨rfl, rfl, h⟩
 | (b, x) :: r, d, s, t, h => by
  rw [Go.Proofs.YtolaojkcofbkhaaGreat.wrs, Go.Proofs.YtolaojkcofbkhaaGreat.wrs, h.pwE, h.pwD]
  split
  · exact ⟨rfl, rfl, h.pwV _ _ _ _⟩
  · exact Sim.wrs r _ (h.pwV _ _ _ _)
theorem Sim.soE (h : Sim s t) (d : St) (c : Ce) : soE d s c = soE d t c := by unfold Go.Proofs.YtolaojkcofbkhaaGreat.soE; rw [h.gtE, h.gtB]
theorem Sim.soL (h : Sim s t) (d : St) (c : Ce) : soL d s c = soL d t c := by unfold Go.Proofs.YtolaojkcofbkhaaGreat.soL; rw [h.gtE, h.gtB]
theorem Sim.sgE (h : Sim s t) (d : St) (L : List Bb) (nm : List UInt8) : sgE d s L nm = sgE d t L nm := by
 unfold Go.Proofs.YtolaojkcofbkhaaGreat.sgE
 cases L.find? fun x => decide (x.nm = nm) with
 | none => rfl
 | some x => dsimp only; rw [h.prE, h.prB]
theorem Sim.sgB (h : Sim s t) (d : St) (L : List Bb) (nm : List UInt8) : sgB d s L nm = sgB d t L nm := by
 unfold Go.Proofs.YtolaojkcofbkhaaGreat.sgB
 cases L.find? fun x => decide (x.nm = nm) with
 | none => rfl
 | some x => dsimp only; rw [h.prE, h.prB]
theorem Sim.cmS (h : Sim s t) (d : St) (c : Ce) (L : List Bb) (dn : Bool) (l : List Ch) :
 (cmS ⟨d, s, c, L, dn⟩ l).1 = (cmS ⟨d, t, c, L, dn⟩ l).1 ∧ (cmS ⟨d, s, c, L, dn⟩ l).2.d = (cmS ⟨d, t, c, L, dn⟩ l).2.d ∧ Sim (cmS ⟨d, s, c, L, dn⟩ l).2.v (cmS ⟨d, t, c, L, dn⟩ l).2.v ∧
 (cmS ⟨d, s, c, L, dn⟩ l).2.c = (cmS ⟨d, t, c, L, dn⟩ l).2.c ∧ (cmS ⟨d, s, c, L, dn⟩ l).2.L = (cmS ⟨d, t, c, L, dn⟩ l).2.L ∧ (cmS ⟨d, s, c, L, dn⟩ l).2.dn = (cmS ⟨d, t, c, L, dn⟩ l).2.dn := by
 have hpl : planS ⟨d, s, c, L, dn⟩ l = planS ⟨d, t, c, L, dn⟩ l := by unfold planS; dsimp only; rw [h.G, h.len]
 unfold Go.Proofs.YtolaojkcofbkhaaGreat.cmS
 rw [hpl]
 dsimp only
 split
 · exact ⟨rfl, rfl, h, rfl, rfl, rfl⟩
 split
 · exact ⟨rfl, rfl, h, rfl, rfl, rfl⟩
 split
 · exact ⟨rfl, rfl, h, rfl, rfl, rfl⟩
 split
 · exact ⟨rfl, rfl, h, rfl, rfl, rfl⟩
 split
 · exact ⟨rfl, rfl, h, rfl, rfl, rfl⟩
 rename_i p _ _ _
 obtain ⟨w1, w2, w3⟩ := Sim.wrs p.ws d h
 rw [w1, w2]
 split
 · exact ⟨rfl, rfl, w3, rfl, rfl, rfl⟩
 rw [w3.ptE, w3.ptD, w3.ptC]
 split
 · exact ⟨rfl, rfl, w3.ptV _ _ _, rfl, rfl, rfl⟩
 · exact ⟨rfl, rfl, w3.ptV _ _ _, rfl, rfl, rfl⟩
end
end Go.Proofs.YtolaojkcofbkhaaGreat
