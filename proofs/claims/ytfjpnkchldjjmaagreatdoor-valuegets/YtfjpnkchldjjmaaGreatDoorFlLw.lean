/- What the variables of Go's library hold that the program's texts are made with: one condition on a world, kept as long as nothing that was there turns. -/
import Derived.Test.YtfjpnkchldjjmaaGreatDoorShelf
import Derived.Test.YtfjpnkchldjjmaaGreatDoorBase
import Derived.Lib.AppendIntMem
import Derived.Shelf.Spec.TrailingZeros
namespace Go.Proofs.YtfjpnkchldjjmaaGreatDoor
open Go.RowKit

def Lw (w : World) : Prop :=
  Lib.TabIs Tryz.prog w "internal/strconv.uint64pow10" .u64 Lib.pow10Tab ∧ TabAt 6 Lib.deBruijn64tab w ∧
  (∃ te pe, w.cell? ⟨1, 0, none⟩ = some (.iface te pe)) ∧ (∃ te pe, w.cell? ⟨2, 0, none⟩ = some (.iface te pe))
theorem cell_lt {w : World} {a : Addr} {v : Value} (h : w.cell? a = some v) : a.block < w.heap.size := by
  unfold World.cell? at h
  rcases Nat.lt_or_ge a.block w.heap.size with hlt | hge
  · exact hlt
  · rw [Array.getElem?_eq_none hge] at h
    simp at h
theorem Lw.below {w w' : World} (h : Lw w) (hb : Below w.heap.size w w') : Lw w' := by
  obtain ⟨h1, h2, ⟨te, pe, h3⟩, ⟨te2, pe2, h4⟩⟩ := h
  refine ⟨Lib.tabBelow_of_tabIs h1 w' hb, fun j hj => ?_, ⟨te, pe, ?_⟩, ⟨te2, pe2, ?_⟩⟩
  · have h := h2 j hj
    rw [hb.cell (cell_lt h)]
    exact h
  · rw [hb.cell (cell_lt h3)]
    exact h3
  · rw [hb.cell (cell_lt h4)]
    exact h4
end Go.Proofs.YtfjpnkchldjjmaaGreatDoor
